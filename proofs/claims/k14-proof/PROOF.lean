import PyProof.Rows.All
import Wide.All
import OpenK.AllK
import Wide.FinOn
import HandS.ForMost
import HandS.Strs
import HandS.SetBool
import HandS.TupAny
import HandS.TupMul
import KE.KRevSl
import HandS.Exc
import HandS.TryOnly
import HandS.ExcOwn
import HandS.WordsExc
import HandS.Wide
import HandS.IsInst
import HandS.Style
import HandS.Flow
import HandS.Evl
import HandS.MakeKwOnly
import HandS.Walk
import KE.KEqSeq
import HandS.OwnEq
import HandS.More
import PyProof.InstNe
import HandS.ClsMeth
import OpenK.KDescr
import KE.KCallOwn
import PyProof.StrLawsChain
import HandS.Codes
import PyProof.ReprRoads
import HandS.SetFor
import HandS.TupSets
import HandS.SetKeys
import HandS.Dict
import HandS.Iter
import HandS.Deep
import HandS.ReCall
import HandS.Conv
import KE.GoesMore
import HandS.Gcd
import HandS.Base
import HandS.Call
import HandS.Zip
import HandS.ExcInit
import HandS.ExcField
import HandS.ExcIs
import HandS.ExcValue
import HandS.RaiseMore
import PyProof.CallFns
import HandS.Lambda
import HandS.EndTab
import KE.KNestM
import PySem.Challenge.RW_handlerims_k14_mates_exchanged
set_option Elab.async false
set_option linter.all false
/-! Rows of letters, shortened: neighbours that are contraries taken out. -/
namespace Fr

/-- a letter laid on what is left, its last one in front -/
def push : List Int → Int → List Int
  | [], a => [a]
  | b :: t, a => if b = -a then t else a :: b :: t

def act (s : List Int) (xs : List Int) : List Int := xs.foldl push s

/-- no neighbours are contraries -/
def Rd : List Int → Prop
  | [] => True
  | [_] => True
  | a :: b :: t => a ≠ -b ∧ Rd (b :: t)

/-- what is left of a row of letters -/
def shr (xs : List Int) : List Int := (act [] xs).reverse

/-- the contraries, the last one first -/
def con (xs : List Int) : List Int := xs.reverse.map (fun a => -a)

/-- so many times -/
def rep : Nat → List Int → List Int
  | 0, _ => []
  | n + 1, xs => xs ++ rep n xs

theorem Rd.tail {a : Int} {t : List Int} (h : Rd (a :: t)) : Rd t := by
  cases t with
  | nil => trivial
  | cons b u => exact h.2

theorem push_rd {s : List Int} (a : Int) (h : Rd s) : Rd (push s a) := by
  cases s with
  | nil => trivial
  | cons b t =>
    show Rd (if b = -a then t else a :: b :: t)
    by_cases e : b = -a
    · rw [if_pos e]; exact h.tail
    · rw [if_neg e]
      refine ⟨?_, h⟩
      omega

theorem push_push {s : List Int} (a : Int) (h : Rd s) : push (push s a) (-a) = s := by
  cases s with
  | nil => simp [push]
  | cons b t =>
    by_cases e : b = -a
    · have h1 : push (b :: t) a = t := by simp [push, e]
      rw [h1]
      cases t with
      | nil => simp [push, e]
      | cons c u =>
        have hc : c ≠ - -a := by
          intro hc
          exact h.1 (by omega)
        simp [push, e]
        omega
    · have h1 : push (b :: t) a = a :: b :: t := by simp [push, e]
      rw [h1]
      simp [push]

theorem push_push' {s : List Int} (a : Int) (h : Rd s) : push (push s (-a)) a = s := by
  have := push_push (-a) h
  rwa [Int.neg_neg] at this

theorem act_nil (s : List Int) : act s [] = s := rfl
theorem act_cons (s : List Int) (a : Int) (t : List Int) : act s (a :: t) = act (push s a) t := rfl
theorem act_append (s xs ys : List Int) : act s (xs ++ ys) = act (act s xs) ys := List.foldl_append
theorem act_snoc (s xs : List Int) (a : Int) : act s (xs ++ [a]) = push (act s xs) a := act_append s xs [a]

theorem act_rd : ∀ {xs s : List Int}, Rd s → Rd (act s xs)
  | [], _, h => h
  | a :: t, _, h => act_rd (xs := t) (push_rd a h)

/-- two rows are one and the same when they act alike -/
def Sm (xs ys : List Int) : Prop := ∀ s, Rd s → act s xs = act s ys

theorem Sm.refl (xs : List Int) : Sm xs xs := fun _ _ => rfl
theorem Sm.symm {xs ys : List Int} (h : Sm xs ys) : Sm ys xs := fun s r => (h s r).symm
theorem Sm.trans {xs ys zs : List Int} (h : Sm xs ys) (k : Sm ys zs) : Sm xs zs := fun s r => (h s r).trans (k s r)
theorem Sm.app {xs ys us vs : List Int} (h : Sm xs ys) (k : Sm us vs) : Sm (xs ++ us) (ys ++ vs) := fun s r => by
  rw [act_append, act_append, h s r, k _ (act_rd r)]
theorem Sm.out (a : Int) : Sm [a, -a] [] := fun s r => push_push a r
theorem Sm.out' (a : Int) : Sm [-a, a] [] := fun s r => push_push' a r
theorem Sm.mid {xs us vs ys : List Int} (h : Sm us vs) : Sm (xs ++ us ++ ys) (xs ++ vs ++ ys) := ((Sm.refl xs).app h).app (Sm.refl ys)

/-- what is left acts as the whole did -/
theorem sm_stack : ∀ xs : List Int, Sm (act [] xs).reverse xs := by
  intro xs
  have gen : ∀ (n : Nat) (xs : List Int), xs.length = n → Sm (act [] xs).reverse xs := by
    intro n
    induction n with
    | zero =>
      intro xs h
      cases xs with
      | nil => exact Sm.refl _
      | cons a t => simp at h
    | succ n ih =>
      intro xs h
      obtain ⟨ys, a, rfl⟩ : ∃ ys a, xs = ys ++ [a] := by
        refine ⟨xs.dropLast, xs.getLast (by intro e; rw [e] at h; simp at h), ?_⟩
        exact (List.dropLast_concat_getLast _).symm
      have hy : ys.length = n := by simp at h; exact h
      have k := ih ys hy
      intro s r
      rw [act_snoc, act_snoc]
      cases e : act [] ys with
      | nil =>
        have k2 := k s r
        rw [e] at k2
        rw [← k2]
        rfl
      | cons b t =>
        have k2 := k s r
        rw [e, List.reverse_cons, act_snoc] at k2
        rw [← k2]
        by_cases eb : b = -a
        · have h1 : push (b :: t) a = t := by simp [push, eb]
          rw [h1, eb]
          exact (push_push' a (act_rd r)).symm
        · have h1 : push (b :: t) a = a :: b :: t := by simp [push, eb]
          rw [h1, List.reverse_cons, List.reverse_cons, act_snoc, act_snoc]
  exact gen _ xs rfl

theorem sm_shr (xs : List Int) : Sm (shr xs) xs := sm_stack xs
theorem shr_of_sm {xs ys : List Int} (h : Sm xs ys) : shr xs = shr ys := by
  unfold shr
  rw [h [] trivial]
theorem sm_of_shr {xs ys : List Int} (h : shr xs = shr ys) : Sm xs ys := by
  refine (sm_shr xs).symm.trans ?_
  rw [h]
  exact sm_shr ys
theorem shr_shr (xs : List Int) : shr (shr xs) = shr xs := shr_of_sm (sm_shr xs)
theorem shr_app (xs ys : List Int) : shr (shr xs ++ shr ys) = shr (xs ++ ys) := shr_of_sm ((sm_shr xs).app (sm_shr ys))
theorem shr_out (xs : List Int) (a : Int) (ys : List Int) : shr (xs ++ a :: -a :: ys) = shr (xs ++ ys) := by
  refine shr_of_sm ?_
  have h : Sm (xs ++ [a, -a] ++ ys) (xs ++ [] ++ ys) := Sm.mid (Sm.out a)
  simpa using h

/-! ### short ones -/
theorem rd_cons {a : Int} {t : List Int} : Rd (a :: t) ↔ (∀ b, t.head? = some b → a ≠ -b) ∧ Rd t := by
  cases t with
  | nil => simp [Rd]
  | cons b u => simp [Rd]
theorem rd_append {xs ys : List Int} : Rd (xs ++ ys) ↔ Rd xs ∧ Rd ys ∧ ∀ a b, xs.getLast? = some a → ys.head? = some b → a ≠ -b := by
  induction xs with
  | nil => simp [Rd]
  | cons x t ih =>
    rw [List.cons_append, rd_cons, rd_cons, ih]
    cases t with
    | nil =>
      simp [Rd]
      constructor
      · rintro ⟨h1, h2⟩
        exact ⟨h2, fun a b ha hb => ha ▸ h1 b hb⟩
      · rintro ⟨h1, h2⟩
        exact ⟨fun b hb => h2 x b rfl hb, h1⟩
    | cons y u =>
      simp [List.getLast?_cons_cons]
      constructor
      · rintro ⟨h1, h2, h3, h4⟩
        exact ⟨⟨h1, h2⟩, h3, h4⟩
      · rintro ⟨⟨h1, h2⟩, h3, h4⟩
        exact ⟨h1, h2, h3, h4⟩
theorem rd_reverse {xs : List Int} : Rd xs.reverse ↔ Rd xs := by
  induction xs with
  | nil => simp [Rd]
  | cons x t ih =>
    rw [List.reverse_cons, rd_append, ih, rd_cons (a := x) (t := t)]
    have one : Rd [x] := trivial
    simp [one]
    constructor
    · rintro ⟨h1, h2⟩
      refine ⟨fun b hb => ?_, h1⟩
      have := h2 b hb
      omega
    · rintro ⟨h1, h2⟩
      refine ⟨h2, fun b hb => ?_⟩
      have := h1 b hb
      omega
theorem rd_shr (xs : List Int) : Rd (shr xs) := rd_reverse.2 (act_rd trivial)
theorem act_short : ∀ (xs s : List Int), Rd (s.reverse ++ xs) → act s xs = xs.reverse ++ s
  | [], s, _ => by simp [act]
  | a :: t, s, h => by
    rw [act_cons]
    have hp : push s a = a :: s := by
      cases s with
      | nil => rfl
      | cons b u =>
        have h3 := (rd_append.1 h).2.2 b a (by simp) (by simp)
        show (if b = -a then u else a :: b :: u) = _
        rw [if_neg h3]
    rw [hp, act_short t (a :: s) (by simpa using h)]
    simp
theorem shr_short {xs : List Int} (h : Rd xs) : shr xs = xs := by
  unfold shr
  rw [act_short xs [] (by simpa using h)]
  simp
theorem shr_iff {xs : List Int} : shr xs = xs ↔ Rd xs := ⟨fun h => h ▸ rd_shr xs, shr_short⟩
/-- a short one that acts alike is what is left -/
theorem shr_eq {xs ys : List Int} (h : Sm xs ys) (r : Rd ys) : shr xs = ys := (shr_of_sm h).trans (shr_short r)

/-! ### contraries -/
theorem con_nil : con [] = [] := rfl
theorem con_cons (a : Int) (t : List Int) : con (a :: t) = con t ++ [-a] := by simp [con]
theorem con_append (xs ys : List Int) : con (xs ++ ys) = con ys ++ con xs := by simp [con]
theorem con_con (xs : List Int) : con (con xs) = xs := by
  simp [con, List.map_reverse, Function.comp_def]
theorem con_length (xs : List Int) : (con xs).length = xs.length := by simp [con]
theorem con_head (xs : List Int) : (con xs).head? = xs.getLast?.map fun a => -a := by
  simp [con]
theorem con_last (xs : List Int) : (con xs).getLast? = xs.head?.map fun a => -a := by
  simp [con, List.map_reverse]
theorem sm_con : ∀ xs : List Int, Sm (xs ++ con xs) []
  | [] => Sm.refl _
  | a :: t => by
    rw [con_cons]
    have h : Sm ([a] ++ (t ++ con t) ++ [-a]) ([a] ++ [] ++ [-a]) := Sm.mid (sm_con t)
    have k : Sm ([a] ++ [] ++ [-a]) [] := Sm.out a
    have := h.trans k
    simpa using this
theorem sm_con' (xs : List Int) : Sm (con xs ++ xs) [] := by
  have := sm_con (con xs)
  rwa [con_con] at this
theorem Sm.con {xs ys : List Int} (h : Sm xs ys) : Sm (con xs) (con ys) := by
  have h1 : Sm (Fr.con xs ++ (ys ++ Fr.con ys)) (Fr.con xs ++ []) := (Sm.refl _).app (sm_con ys)
  have h2 : Sm (Fr.con xs ++ ys ++ Fr.con ys) (Fr.con xs ++ xs ++ Fr.con ys) := Sm.mid h.symm
  have h3 : Sm (Fr.con xs ++ xs ++ Fr.con ys) ([] ++ Fr.con ys) := (sm_con' xs).app (Sm.refl _)
  rw [List.append_nil, ← List.append_assoc] at h1
  exact (h1.symm.trans h2).trans h3
theorem rd_con {xs : List Int} : Rd (con xs) ↔ Rd xs := by
  have one : ∀ xs : List Int, Rd xs → Rd (con xs) := by
    intro xs
    induction xs with
    | nil => exact fun _ => trivial
    | cons a t ih =>
      intro h
      rw [con_cons, rd_append]
      refine ⟨ih h.tail, trivial, fun x y hx hy => ?_⟩
      rw [con_last] at hx
      cases t with
      | nil => simp at hx
      | cons b u =>
        simp at hx hy
        have := h.1
        omega
  refine ⟨fun h => ?_, one xs⟩
  have := one _ h
  rwa [con_con] at this
theorem shr_con (xs : List Int) : shr (con xs) = con (shr xs) := shr_eq (sm_shr xs).con.symm (rd_con.2 (rd_shr xs))

/-! ### so many times -/
theorem rep_zero (xs : List Int) : rep 0 xs = [] := rfl
theorem rep_succ (n : Nat) (xs : List Int) : rep (n + 1) xs = xs ++ rep n xs := rfl
theorem rep_one (xs : List Int) : rep 1 xs = xs := by simp [rep]
theorem rep_add (m n : Nat) (xs : List Int) : rep (m + n) xs = rep m xs ++ rep n xs := by
  induction m with
  | zero => simp [rep]
  | succ m ih => rw [Nat.succ_add, rep_succ, rep_succ, ih, List.append_assoc]
theorem rep_length (n : Nat) (xs : List Int) : (rep n xs).length = n * xs.length := by
  induction n with
  | zero => simp [rep]
  | succ n ih => rw [rep_succ, List.length_append, ih, Nat.succ_mul, Nat.add_comm]
theorem rep_nil (n : Nat) : rep n [] = [] := by
  induction n with
  | zero => rfl
  | succ n ih => rw [rep_succ, ih]; rfl
theorem Sm.rep {xs ys : List Int} (h : Sm xs ys) (n : Nat) : Sm (rep n xs) (rep n ys) := by
  induction n with
  | zero => exact Sm.refl _
  | succ n ih => exact h.app ih
theorem shr_rep (n : Nat) (xs : List Int) : shr (rep n (shr xs)) = shr (rep n xs) := shr_of_sm ((sm_shr xs).rep n)
theorem rep_succ' (n : Nat) (xs : List Int) : rep (n + 1) xs = rep n xs ++ xs := by
  rw [rep_add n 1, rep_one]
theorem con_rep (n : Nat) (xs : List Int) : con (rep n xs) = rep n (con xs) := by
  induction n with
  | zero => rfl
  | succ n ih => rw [rep_succ, con_append, ih, ← rep_succ']

/-! ### the ends -/
/-- short, and its ends are no contraries -/
def Cy (w : List Int) : Prop := Rd w ∧ ∀ a b, w.head? = some a → w.getLast? = some b → a ≠ -b
/-- no letter is 0 -/
def NZ (xs : List Int) : Prop := ∀ a ∈ xs, a ≠ 0
theorem cy_nil : Cy [] := ⟨trivial, fun a b h => by simp at h⟩
theorem NZ.app {xs ys : List Int} (h : NZ xs) (k : NZ ys) : NZ (xs ++ ys) := fun a ha => by
  rcases List.mem_append.1 ha with h1 | h1
  · exact h a h1
  · exact k a h1
theorem NZ.left {xs ys : List Int} (h : NZ (xs ++ ys)) : NZ xs := fun a ha => h a (List.mem_append_left _ ha)
theorem NZ.right {xs ys : List Int} (h : NZ (xs ++ ys)) : NZ ys := fun a ha => h a (List.mem_append_right _ ha)
theorem NZ.con {xs : List Int} (h : NZ xs) : NZ (con xs) := fun a ha => by
  unfold Fr.con at ha
  obtain ⟨b, hb, rfl⟩ := List.mem_map.1 ha
  have := h b (List.mem_reverse.1 hb)
  omega
theorem push_mem {s : List Int} {a x : Int} (h : x ∈ push s a) : x = a ∨ x ∈ s := by
  cases s with
  | nil => left; simpa [push] using h
  | cons b t =>
    have h2 : x ∈ (if b = -a then t else a :: b :: t) := h
    by_cases e : b = -a
    · rw [if_pos e] at h2; exact .inr (List.mem_cons_of_mem _ h2)
    · rw [if_neg e] at h2
      rcases List.mem_cons.1 h2 with h3 | h3
      · exact .inl h3
      · exact .inr h3
theorem act_mem : ∀ {xs s : List Int} {x : Int}, x ∈ act s xs → x ∈ xs ∨ x ∈ s
  | [], _, _, h => .inr h
  | a :: t, s, x, h => by
    rw [act_cons] at h
    rcases act_mem h with h1 | h1
    · exact .inl (List.mem_cons_of_mem _ h1)
    · rcases push_mem h1 with h2 | h2
      · exact .inl (h2 ▸ List.mem_cons_self)
      · exact .inr h2
theorem shr_mem {xs : List Int} {x : Int} (h : x ∈ shr xs) : x ∈ xs := by
  unfold shr at h
  rcases act_mem (List.mem_reverse.1 h) with h1 | h1
  · exact h1
  · simp at h1
theorem NZ.shr {xs : List Int} (h : NZ xs) : NZ (shr xs) := fun a ha => h a (shr_mem ha)

/-- a row between a letter and its contrary, or one that has no such ends -/
theorem ends_or (xs : List Int) (nz : NZ xs) : (∃ a m, xs = a :: (m ++ [-a])) ∨ ∀ a b, xs.head? = some a → xs.getLast? = some b → a ≠ -b := by
  cases xs with
  | nil => right; intro a b h; simp at h
  | cons a t =>
    by_cases ht : t = []
    · subst ht
      right
      intro x y hx hy
      simp at hx hy
      have := nz a (by simp)
      omega
    · have e := List.dropLast_concat_getLast ht
      by_cases hb : t.getLast ht = -a
      · left
        refine ⟨a, t.dropLast, ?_⟩
        rw [← hb, e]
      · right
        intro x y hx hy
        rw [← e] at hy
        rw [show a :: (t.dropLast ++ [t.getLast ht]) = (a :: t.dropLast) ++ [t.getLast ht] from rfl] at hy
        rw [List.getLast?_append] at hy
        simp at hx hy
        omega
/-- every short row is a row, one that is short round, and the contrary of the first -/
theorem parted (xs : List Int) (nz : NZ xs) (r : Rd xs) : ∃ u w, xs = u ++ w ++ con u ∧ Cy w ∧ (w = [] → u = []) := by
  have gen : ∀ (n : Nat) (xs : List Int), xs.length ≤ n → NZ xs → Rd xs → ∃ u w, xs = u ++ w ++ con u ∧ Cy w ∧ (w = [] → u = []) := by
    intro n
    induction n with
    | zero =>
      intro xs h _ _
      have : xs = [] := List.length_eq_zero_iff.1 (by omega)
      subst this
      exact ⟨[], [], rfl, cy_nil, fun _ => rfl⟩
    | succ n ih =>
      intro xs h nz r
      rcases ends_or xs nz with ⟨a, m, rfl⟩ | k
      · have hr : Rd (m ++ [-a]) := r.tail
        have hm : Rd m := (rd_append.1 hr).1
        obtain ⟨u, w, e, c, z⟩ := ih m (by simp at h; omega) (fun x hx => nz x (by simp [hx])) hm
        have hne : m ≠ [] := by
          intro e0
          subst e0
          have := r.1
          simp at this
        refine ⟨a :: u, w, ?_, c, fun hw => ?_⟩
        · rw [con_cons, e]; simp
        · exfalso
          have hu := z hw
          subst hw hu
          exact hne (by simpa [con] using e)
      · exact ⟨[], xs, by simp [con], ⟨r, k⟩, fun _ => rfl⟩
  exact gen xs.length xs (Nat.le_refl _) nz r

/-- the ends off, as long as they are contraries -/
def endsN : Nat → List Int → List Int
  | 0, xs => xs
  | n + 1, xs => if 1 < xs.length ∧ xs.head? = xs.getLast?.map (fun a => -a) then endsN n xs.tail.dropLast else xs
def ends (xs : List Int) : List Int := endsN xs.length xs
theorem endsN_cy : ∀ (n : Nat) {w : List Int}, Cy w → endsN n w = w
  | 0, _, _ => rfl
  | n + 1, w, h => by
    unfold endsN
    rw [if_neg]
    rintro ⟨h1, h2⟩
    cases e : w.getLast? with
    | none =>
      rw [List.getLast?_eq_none_iff] at e
      subst e
      simp at h1
    | some b =>
      rw [e] at h2
      exact h.2 (-b) b h2 e rfl
theorem endsN_eq : ∀ (n : Nat) (u w : List Int), Cy w → u.length ≤ n → (w = [] → u = []) → endsN n (u ++ w ++ con u) = w
  | n, [], w, c, _, _ => by
    simp [con]
    exact endsN_cy n c
  | 0, a :: u, w, c, h, _ => by simp at h
  | n + 1, a :: u, w, c, h, z => by
    have e : (a :: u) ++ w ++ con (a :: u) = a :: ((u ++ w ++ con u) ++ [-a]) := by
      rw [con_cons]; simp
    rw [e]
    unfold endsN
    rw [if_pos]
    · rw [List.tail_cons, List.dropLast_concat]
      refine endsN_eq n u w c (by simp at h; exact h) fun hw => ?_
      have := z hw
      simp at this
    · constructor
      · simp only [List.length_cons, List.length_append, List.length_nil]; omega
      · rw [show a :: ((u ++ w ++ con u) ++ [-a]) = (a :: (u ++ w ++ con u)) ++ [-a] from rfl, List.getLast?_append]
        simp
theorem ends_eq {u w : List Int} (c : Cy w) (z : w = [] → u = []) : ends (u ++ w ++ con u) = w :=
  endsN_eq _ u w c (by simp) z
theorem ends_cy {w : List Int} (c : Cy w) : ends w = w := endsN_cy _ c
/-- what is left of a ring -/
def rnd (xs : List Int) : List Int := ends (shr xs)
theorem rnd_of {xs u w : List Int} (h : Sm xs (u ++ w ++ con u)) (r : Rd (u ++ w ++ con u)) (c : Cy w) (z : w = [] → u = []) : rnd xs = w := by
  unfold rnd
  rw [shr_eq h r]
  exact ends_eq c z
theorem rnd_cy {xs : List Int} (nz : NZ xs) : Cy (rnd xs) := by
  obtain ⟨u, w, e, c, z⟩ := parted (shr xs) nz.shr (rd_shr xs)
  unfold rnd
  rw [e, ends_eq c z]
  exact c
theorem rnd_sm {xs ys : List Int} (h : Sm xs ys) : rnd xs = rnd ys := by
  unfold rnd
  rw [shr_of_sm h]
theorem rnd_iff {xs : List Int} (nz : NZ xs) : rnd xs = xs ↔ Cy xs := by
  constructor
  · intro h
    rw [← h]
    exact rnd_cy nz
  · intro c
    unfold rnd
    rw [shr_short c.1, ends_cy c]

/-! ### turned -/
def Trn (xs ys : List Int) : Prop := ∃ p q, xs = p ++ q ∧ ys = q ++ p
theorem Trn.refl (xs : List Int) : Trn xs xs := ⟨[], xs, rfl, by simp⟩
theorem Trn.symm {xs ys : List Int} (h : Trn xs ys) : Trn ys xs := by
  obtain ⟨p, q, e1, e2⟩ := h
  exact ⟨q, p, e2, e1⟩
theorem Trn.trans {xs ys zs : List Int} (h : Trn xs ys) (k : Trn ys zs) : Trn xs zs := by
  obtain ⟨p, q, rfl, e⟩ := h
  obtain ⟨p2, q2, e2, rfl⟩ := k
  rw [e] at e2
  rcases List.append_eq_append_iff.1 e2 with ⟨c, h1, h2⟩ | ⟨c, h1, h2⟩
  · subst h1 h2
    exact ⟨c, q2 ++ q, by simp, by simp⟩
  · subst h1 h2
    exact ⟨p ++ p2, c, by simp, by simp⟩
theorem Trn.cy {xs ys : List Int} (h : Trn xs ys) (c : Cy xs) : Cy ys := by
  obtain ⟨p, q, rfl, rfl⟩ := h
  by_cases hp : p = []
  · subst hp; simpa using c
  by_cases hq : q = []
  · subst hq; simpa using c
  obtain ⟨r, l⟩ := c
  obtain ⟨r1, r2, r3⟩ := rd_append.1 r
  obtain ⟨a, t, rfl⟩ := List.exists_cons_of_ne_nil hp
  obtain ⟨b, s, rfl⟩ := List.exists_cons_of_ne_nil hq
  refine ⟨rd_append.2 ⟨r2, r1, fun x y hx hy => ?_⟩, fun x y hx hy => ?_⟩
  · have := l y x (by simpa using hy) (by rw [List.getLast?_append, hx]; rfl)
    omega
  · have := r3 y x (by rw [List.getLast?_append] at hy; rw [List.getLast?_eq_some_getLast (by simp)] at hy ⊢; simpa using hy) (by simpa using hx)
    omega
/-- a letter ahead and its contrary behind -/
theorem rnd_moved1 (a : Int) (ha : a ≠ 0) (xs : List Int) (nz : NZ xs) : Trn (rnd xs) (rnd ([a] ++ xs ++ [-a])) := by
  obtain ⟨u, w, e, c, z⟩ := parted (shr xs) nz.shr (rd_shr xs)
  have hr : rnd xs = w := by
    unfold rnd
    rw [e, ends_eq c z]
  have rs := rd_shr xs
  rw [e] at rs
  have base : Sm ([a] ++ xs ++ [-a]) ([a] ++ (u ++ w ++ con u) ++ [-a]) := by
    rw [← e]
    exact Sm.mid (sm_shr xs).symm
  rw [hr]
  cases u with
  | cons b u =>
    have wne : w ≠ [] := fun h => by simp at z; exact z h
    have e2 : (b :: u) ++ w ++ con (b :: u) = b :: ((u ++ w ++ con u) ++ [-b]) := by rw [con_cons]; simp
    rw [e2] at rs base
    by_cases hb : b = -a
    · have inner : Rd (u ++ w ++ con u) := (rd_append.1 rs.tail).1
      have sm : Sm ([a] ++ (b :: ((u ++ w ++ con u) ++ [-b])) ++ [-a]) (u ++ w ++ con u) := by
        subst hb
        have h1 : Sm ([a, -a] ++ (u ++ w ++ con u) ++ [a, -a]) ([] ++ (u ++ w ++ con u) ++ []) := ((Sm.out a).app (Sm.refl _)).app (Sm.out a)
        simpa using h1
      rw [rnd_of (base.trans sm) inner c fun h => absurd h wne]
      exact Trn.refl _
    · have whole : Rd ((a :: b :: u) ++ w ++ con (a :: b :: u)) := by
        have e3 : (a :: b :: u) ++ w ++ con (a :: b :: u) = [a] ++ (b :: ((u ++ w ++ con u) ++ [-b])) ++ [-a] := by
          rw [con_cons, con_cons]; simp
        rw [e3, rd_append, rd_append]
        refine ⟨⟨trivial, rs, fun x y hx hy => ?_⟩, trivial, fun x y hx hy => ?_⟩
        · simp at hx hy; omega
        · rw [show [a] ++ (b :: ((u ++ w ++ con u) ++ [-b])) = (a :: b :: (u ++ w ++ con u)) ++ [-b] by simp] at hx
          rw [List.getLast?_append] at hx
          simp at hx hy
          omega
      have sm : Sm ([a] ++ (b :: ((u ++ w ++ con u) ++ [-b])) ++ [-a]) ((a :: b :: u) ++ w ++ con (a :: b :: u)) := by
        have e3 : (a :: b :: u) ++ w ++ con (a :: b :: u) = [a] ++ (b :: ((u ++ w ++ con u) ++ [-b])) ++ [-a] := by
          rw [con_cons, con_cons]; simp
        rw [e3]
        exact Sm.refl _
      rw [rnd_of (base.trans sm) whole c fun h => absurd h wne]
      exact Trn.refl _
  | nil =>
    have e2 : ([] : List Int) ++ w ++ con [] = w := by simp [con]
    rw [e2] at rs base
    cases w with
    | nil =>
      have sm : Sm ([a] ++ [] ++ [-a]) ([] ++ [] ++ con []) := Sm.out a
      rw [rnd_of (base.trans sm) trivial cy_nil fun _ => rfl]
      exact Trn.refl _
    | cons b t =>
      by_cases hb : b = -a
      · -- the letter takes the first one out, and its contrary stands behind
        have turn : Trn (b :: t) (t ++ [b]) := ⟨[b], t, rfl, rfl⟩
        have sm : Sm ([a] ++ (b :: t) ++ [-a]) ([] ++ (t ++ [b]) ++ con []) := by
          subst hb
          have h1 : Sm ([a, -a] ++ (t ++ [-a])) ([] ++ (t ++ [-a])) := (Sm.out a).app (Sm.refl _)
          simpa [con] using h1
        have cy := turn.cy c
        rw [rnd_of (base.trans sm) (by simpa [con] using cy.1) cy fun _ => rfl]
        exact turn
      · by_cases hl : (b :: t).getLast? = some a
        · obtain ⟨m, em⟩ : ∃ m, b :: t = m ++ [a] := by
            refine ⟨(b :: t).dropLast, ?_⟩
            have h1 := List.dropLast_concat_getLast (l := b :: t) (by simp)
            rw [List.getLast?_eq_some_getLast (by simp)] at hl
            rw [Option.some.inj hl] at h1
            exact h1.symm
          rw [em] at c base ⊢
          have turn : Trn (m ++ [a]) (a :: m) := ⟨m, [a], rfl, rfl⟩
          have sm : Sm ([a] ++ (m ++ [a]) ++ [-a]) ([] ++ (a :: m) ++ con []) := by
            have h1 : Sm ((a :: m) ++ [a, -a]) ((a :: m) ++ []) := (Sm.refl _).app (Sm.out a)
            simpa [con] using h1
          have cy := turn.cy c
          rw [rnd_of (base.trans sm) (by simpa [con] using cy.1) cy fun _ => rfl]
          exact turn
        · have whole : Rd ([a] ++ (b :: t) ++ con [a]) := by
            rw [rd_append, rd_append]
            refine ⟨⟨trivial, rs, fun x y hx hy => ?_⟩, trivial, fun x y hx hy => ?_⟩
            · simp at hx hy; omega
            · rw [List.getLast?_append] at hx
              rw [List.getLast?_eq_some_getLast (by simp)] at hx hl
              simp [con] at hx hy hl
              omega
          rw [rnd_of (base.trans (by simpa [con] using Sm.refl _)) whole c fun h => by simp at h]
          exact Trn.refl _
/-- moved: a word ahead, its contrary behind -/
theorem rnd_moved : ∀ (ys xs : List Int), NZ ys → NZ xs → Trn (rnd xs) (rnd (ys ++ xs ++ con ys))
  | [], xs, _, _ => by simpa [con] using Trn.refl _
  | a :: t, xs, hy, hx => by
    have ht : NZ t := fun x h => hy x (List.mem_cons_of_mem _ h)
    have h1 := rnd_moved t xs ht hx
    have h2 := rnd_moved1 a (hy a List.mem_cons_self) (t ++ xs ++ con t) ((ht.app hx).app ht.con)
    have e : [a] ++ (t ++ xs ++ con t) ++ [-a] = (a :: t) ++ xs ++ con (a :: t) := by rw [con_cons]; simp
    rw [e] at h2
    exact h1.trans h2
/-- turned first, shortened round then -/
theorem rnd_turned {xs ys : List Int} (nz : NZ xs) (h : Trn xs ys) : Trn (rnd xs) (rnd ys) := by
  obtain ⟨p, q, rfl, rfl⟩ := h
  have h1 := rnd_moved (con p) (p ++ q) nz.left.con nz
  have sm : Sm (con p ++ (p ++ q) ++ con (con p)) (q ++ p) := by
    rw [con_con]
    have h2 : Sm ((con p ++ p) ++ (q ++ p)) ([] ++ (q ++ p)) := (sm_con' p).app (Sm.refl _)
    simpa using h2
  rw [rnd_sm sm] at h1
  exact h1

/-! ### so many times one that is short round -/
theorem rep_head {n : Nat} {w : List Int} : (rep (n + 1) w).head? = w.head? := by
  cases w with
  | nil => rw [rep_nil]
  | cons a t => rw [rep_succ]; rfl
theorem rep_last {n : Nat} {w : List Int} : (rep (n + 1) w).getLast? = w.getLast? := by
  by_cases hw : w = []
  · subst hw; rw [rep_nil]
  · rw [rep_succ', List.getLast?_append, List.getLast?_eq_some_getLast hw]; rfl
theorem cy_rep {w : List Int} (c : Cy w) : ∀ n, Cy (rep n w)
  | 0 => cy_nil
  | n + 1 => by
    have ih := cy_rep c n
    refine ⟨?_, fun a b ha hb => ?_⟩
    · rw [rep_succ, rd_append]
      refine ⟨c.1, ih.1, fun a b ha hb => ?_⟩
      cases n with
      | zero => simp [rep] at hb
      | succ n =>
        rw [rep_head] at hb
        have := c.2 b a hb ha
        omega
    · rw [rep_head] at ha
      rw [rep_last] at hb
      exact c.2 a b ha hb
/-- so many times a row: its ends stay, what is between them comes so many times -/
theorem shr_core {xs u w : List Int} (e : shr xs = u ++ w ++ con u) (c : Cy w) (z : w = [] → u = []) (n : Nat) : shr (rep (n + 1) xs) = u ++ rep (n + 1) w ++ con u := by
  have sm : ∀ n, Sm (rep (n + 1) (u ++ w ++ con u)) (u ++ rep (n + 1) w ++ con u) := by
    intro n
    induction n with
    | zero => rw [rep_one, rep_one]; exact Sm.refl _
    | succ n ih =>
      rw [rep_succ]
      refine ((Sm.refl _).app ih).trans ?_
      have h : Sm ((u ++ w) ++ (con u ++ u) ++ (rep (n + 1) w ++ con u)) ((u ++ w) ++ [] ++ (rep (n + 1) w ++ con u)) := Sm.mid (sm_con' u)
      have e2 : rep (n + 1 + 1) w = w ++ rep (n + 1) w := rfl
      rw [e2]
      simpa using h
  refine shr_eq ?_ ?_
  · have h1 : Sm (rep (n + 1) xs) (rep (n + 1) (shr xs)) := ((sm_shr xs).rep _).symm
    rw [e] at h1
    exact h1.trans (sm n)
  · have r := rd_shr xs
    rw [e] at r
    by_cases hw : w = []
    · have hu := z hw
      subst hw hu
      rw [rep_nil]
      trivial
    · obtain ⟨r12, r3, b23⟩ := rd_append.1 r
      obtain ⟨r1, r2, b12⟩ := rd_append.1 r12
      rw [rd_append, rd_append]
      refine ⟨⟨r1, (cy_rep c _).1, fun a b ha hb => ?_⟩, r3, fun a b ha hb => ?_⟩
      · rw [rep_head] at hb
        exact b12 a b ha hb
      · refine b23 a b ?_ hb
        have hne : rep (n + 1) w ≠ [] := by
          intro h
          have h2 := rep_length (n + 1) w
          rw [h, Nat.succ_mul] at h2
          simp at h2
          exact hw (List.length_eq_zero_iff.1 (by omega))
        rw [List.getLast?_append, List.getLast?_eq_some_getLast hne] at ha
        rw [List.getLast?_append, ← rep_last (n := n), List.getLast?_eq_some_getLast hne]
        exact ha
end Fr
set_option Elab.async false
set_option linter.all false
set_option maxRecDepth 100000
set_option maxHeartbeats 2000000
/-! {e for x in xs}, e an int. -/
namespace WS
open PySem PySem.Spec PyProof.Rows L2 PpSet
/-- a set as it is when it is made -/
abbrev bareSet (w : World) : Obj := { cls := .type "set", dict := none, data := .set #[] 0 (.fresh 0 0 (!w.params.followText "set-order")) }
theorem bare_ok (w : World) (h : Heap) : SetR w (h.push (bareSet w)) h.objs.size (fun _ => false) 0 := by
  have led : w.params.followText "set-order" = true ∨ (!w.params.followText "set-order") = true := by
    cases w.params.followText "set-order"
    · right; rfl
    · left; rfl
  refine ⟨bareSet w, #[], 0, _, Heap.get?_push_size _ rfl, ⟨rfl, rfl, rfl⟩, rfl, ?_, ?_, ?_, by decide, rfl, rfl, List.Pairwise.nil, led⟩
  · intro e he; simp at he
  · simp
  · intro k; simp
/-- the new set at D, filled turn by turn -/
def Fills (w : World) (J : It) (g : TG) (tt : TT) (te : TE) (vs : List Nat) (σ : L2.St) (D : Addr) (Q : VK) (W : Nat → Nat → Hp → Prop) : Prop :=
  ∀ i m H, W i m H → (J.stop i H ∧ Q (.ref D) H) ∨ (J.go i H ∧ ∃ N : Hp → Prop, (∀ H', N H' → ∃ m', m' < m ∧ W (i + 1) m' H') ∧
    ∀ x H', J.yld i H x H' → g x (wipe σ vs) H' fun σ2 H2 => wipe σ2 vs = wipe σ vs ∧ tt σ2 H2 fun b H3 => if b = true then te σ2 H3 fun y H4 => rSAdd w (.ref D) [y] H4 fun _ H5 => N H5 else N H3)
def tSetI (w : World) (wi : TI) (g : TG) (tt : TT) (te : TE) (vs : List Nat) : TE := fun σ H Q => wi σ H fun J H1 => ∀ D, H1 D = none →
  ∃ W : Nat → Nat → Hp → Prop, (∃ m, W 0 m (upd H1 D (SetO w D (fun _ => false) 0))) ∧ Fills w J g tt te vs σ D Q W
section
variable {X : Cx}
/-- what a turn leaves known -/
def Known (X : Cx) (Z : Cx) (σw : L2.St) (fp : List Addr) (tn : Nat → Heap → Prop) (W : Nat → Nat → Hp → Prop) (m : Nat) (s : Shared) : Prop :=
  ∃ (i : Nat) (H : Hp), Inv Z [] σw H s ∧ tn i s.heap ∧ (∀ b ∈ fp, H b = none) ∧ W i m H
theorem fill_set {elt tg iter : Expr} {ifs : List Expr} {scope : Scope} {own : List (PySem.Str × Nat)} {pos : Pos} {g : TG} {tt : TT} {te : TE} {pins : List (Addr × Obj)} {σ : L2.St} {H3 : Hp} {s3 : Shared} {it D : Addr} {fp : List Addr} {tn : Nat → Heap → Prop} {J : It} {m0 : Nat} {W : Nat → Nat → Hp → Prop} {Q : VK}
    (calm : X.calm = true) (nod : X.N.Nodup) (blk : BlkOk X.N X.env.scope scope own)
    (target : ∀ (s : Shared) (H : Hp) (C : Addr) (cl : List (PySem.Str × Addr)) (fp : List Addr), PG (X.blk s H scope (compEnvC scope cl C X.env) fp) tg g)
    (tests : ∀ (s : Shared) (H : Hp) (C : Addr) (cl : List (PySem.Str × Addr)) (fp : List Addr), PTs (X.blk s H scope (compEnvC scope cl C X.env) fp) ifs tt)
    (item : ∀ (s : Shared) (H : Hp) (C : Addr) (cl : List (PySem.Str × Addr)) (fp : List Addr), PE (X.blk s H scope (compEnvC scope cl C X.env) fp) elt te)
    (T : Turn X.prog X.w X.K tg J fp it tn) (I3 : Inv X pins σ H3 s3) (off : ∀ b ∈ fp, FpOk X pins H3 b ∧ b < s3.heap.objs.size) (st3 : tn 0 s3.heap) (w0 : W 0 m0 H3) (turn : Fills X.w J g tt te (own.map (·.2)) σ D Q W) :
    codeAny (model X.prog X.w) X.A (.compStart (.SetComp elt [⟨tg, iter, ifs, 0⟩] scope pos) 0 (.ref it) (.ref D) (compEnvC scope (cellsFrom (s3.heap.objs.size + 1) scope.names (cloFrom X.env.cells scope.names [])) s3.heap.objs.size X.env))
      (compPost (model X.prog X.w) X.A X.xe none (EP X pins σ Q) (.ref D) s3.heap.objs.size) { s3 with heap := pushCells (s3.heap.push { cls := .type "dict", data := .dict #[] }) scope.names } := by
  have I4 := block_start I3 blk nod off
  have pg := target s3 H3 s3.heap.objs.size (cellsFrom (s3.heap.objs.size + 1) scope.names (cloFrom X.env.cells scope.names [])) fp
  have pt := tests s3 H3 s3.heap.objs.size (cellsFrom (s3.heap.objs.size + 1) scope.names (cloFrom X.env.cells scope.names [])) fp
  have pe := item s3 H3 s3.heap.objs.size (cellsFrom (s3.heap.objs.size + 1) scope.names (cloFrom X.env.cells scope.names [])) fp
  have st4 : tn 0 (pushCells (s3.heap.push { cls := .type "dict", data := .dict #[] }) scope.names) := T.keep _ _ _ st3 fun _ _ _ e => pushCells_keeps _ _ _ _ (Heap.get?_push_of_some _ e)
  obtain ⟨ce, ece⟩ : ∃ ce : Env, ce = compEnvC scope (cellsFrom (s3.heap.objs.size + 1) scope.names (cloFrom X.env.cells scope.names [])) s3.heap.objs.size X.env := ⟨_, rfl⟩
  have loc : ce.locals = s3.heap.objs.size := by rw [ece]; rfl
  rw [← ece] at I4 pg pt pe ⊢
  -- the places that the walk keeps
  have held : ∀ {σ' : L2.St} {H' : Hp} {s' : Shared}, Inv (X.blk s3 H3 scope ce fp) [] σ' H' s' → (∀ b ∈ fp, H' b = none) → ∀ b ∈ fp, FpOk (X.blk s3 H3 scope ce fp) [] H' b := by
    intro σ' H' s' I' none' b hb
    refine ⟨none' b hb, (I'.ok.exf b hb).1, I'.ok.exfs b hb, .inl hb, (I'.ok.exf b hb).2, fun p hp => ?_⟩
    simp at hp
  have all : codeAny (model X.prog X.w) X.A (.compLoop (.SetComp elt [⟨tg, iter, ifs, 0⟩] scope pos) 0 (.ref it) (.ref D) ce) (compPost (model X.prog X.w) X.A X.xe none (EP X pins σ Q) (.ref D) s3.heap.objs.size) { s3 with heap := pushCells (s3.heap.push { cls := .type "dict", data := .dict #[] }) scope.names } := by
    refine compLoopS_any (Known X (X.blk s3 H3 scope ce fp) (wipe σ (own.map (·.2))) fp tn W) (fun m s5 known => ?_) m0 ⟨0, H3, I4, st4, fun b hb => (off b hb).1.1, w0⟩
    obtain ⟨i, H5, I5, st5, none5, w5⟩ := known
    cases turn i m H5 w5 with
    | inl ended =>
      refine thnF (T.done (X.blk s3 H3 scope ce fp) rfl rfl rfl calm i [] s5 _ H5 (fun _ _ => False) I5 (held I5 none5) st5 ended.1) fun r s6 hr => ?_
      obtain ⟨rfl, I6⟩ := hr
      have back : Inv X pins σ H5 s6 := I3.call' (ch := fp) I6.os I6.base I6.hok I6.bare fun b hb => by
        obtain ⟨⟨_, f1, f2, f3, f4, f5⟩, _⟩ := off b hb
        exact ⟨f3, f1, f4, f5⟩
      have noL : H5 s3.heap.objs.size = none := by rw [← loc]; exact I6.free
      obtain ⟨mm, names, _⟩ := I6.loc
      have names' : s6.heap.Ns s3.heap.objs.size mm := by rw [← loc]; exact names
      obtain ⟨f0, f1, f2, f3, f4, f5⟩ := I3.fpOk (Nat.le_refl _) noL
      exact ⟨mm, names', fun h' same => ⟨.ref D, H5, back.turned (t' := s6.toks) (fun b o hb e => (same.2 b hb).trans e) f0 f1 f3 f4 f5, rfl, ended.2⟩⟩
    | inr goes =>
      obtain ⟨go, N, hN, step⟩ := goes
      refine thnF (T.item (X.blk s3 H3 scope ce fp) rfl rfl rfl calm i [] s5 _ H5 (fun _ _ => False) I5 (held I5 none5) st5 go) fun r s6 hr => ?_
      obtain ⟨u, rfl, h6⟩ := hr
      refine thnF h6 fun _ s7 h7 => ?_
      obtain ⟨x, H7, I7, r7, y7, st7, none7⟩ := h7
      refine thnF (pg.run _ s7 _ H7 x u _ (I7.pinned (held I7 none7) (T.obj _ _ st7)) r7 (step x H7 y7)) fun _ s8 h8 => ?_
      obtain ⟨σ8, H8, I8, wiped, q8⟩ := h8
      refine thnF (pt.run _ s8 σ8 H8 _ I8 q8) fun b s9 h9 => ?_
      obtain ⟨H9, I9, q9⟩ := h9
      have next : ∀ {s' : Shared} {H' : Hp}, Inv (X.blk s3 H3 scope ce fp) ([] ++ pinsAt fp s7.heap) σ8 H' s' → N H' → ∃ m', m' < m ∧ Known X (X.blk s3 H3 scope ce fp) (wipe σ (own.map (·.2))) fp tn W m' s' := by
        intro s' H' I' nx
        obtain ⟨m', lt, w'⟩ := hN H' nx
        have kept : ∀ b ∈ fp, ∀ o, s7.heap.get? b = some o → s'.heap.get? b = some o ∧ H' b = none := by
          intro b hb o e
          obtain ⟨z1, z2, _⟩ := I'.pin (b, o) (List.mem_append_right _ (List.mem_append_right _ (mem_pinsAt hb e)))
          exact ⟨z1, z2⟩
        have len : (wipe σ (own.map (·.2))).length = σ8.length := by rw [← wiped, wipe_length]
        refine ⟨m', lt, i + 1, H', (I'.unpinned (pins := [])).weak len (fun j v e => ?_), T.keep _ _ _ st7 fun b hb o e => (kept b hb o e).1, fun b hb => ?_, w'⟩
        · rw [← wiped] at e
          exact (wipe_some e).1
        · obtain ⟨o, e, _⟩ := T.obj _ _ st7 b hb
          exact (kept b hb o e).2
      cases b with
      | false =>
        rw [if_neg Bool.false_ne_true] at q9 ⊢
        exact next I9 q9
      | true =>
        rw [if_pos rfl] at q9 ⊢
        refine thnF (pe.run _ s9 σ8 H9 _ I9 q9) fun z s10 h10 => ?_
        obtain ⟨yv, H10, I10, r10, adds⟩ := h10
        refine thnF (mt_sadd (X := X.blk s3 H3 scope ce fp) _ s10 σ8 H10 (.ref D) [yv] (.ref D) [z] _ I10 rfl (.cons r10 .nil) adds) fun _ s11 h11 => ?_
        obtain ⟨_, H11, I11, _, nx⟩ := h11
        exact next I11 nx
  exact codeAny_compStart_set all (T.self X.A 0 _ _ _ st4 all)
theorem pe_setI {elt tg iter : Expr} {ifs : List Expr} {scope : Scope} {own : List (PySem.Str × Nat)} {pos : Pos} {wi : TI} {g : TG} {tt : TT} {te : TE} (calm : X.calm = true) (nod : X.N.Nodup) (walked : PI X tg iter wi) (blk : BlkOk X.N X.env.scope scope own)
    (target : ∀ (s : Shared) (H : Hp) (C : Addr) (cl : List (PySem.Str × Addr)) (fp : List Addr), PG (X.blk s H scope (compEnvC scope cl C X.env) fp) tg g)
    (tests : ∀ (s : Shared) (H : Hp) (C : Addr) (cl : List (PySem.Str × Addr)) (fp : List Addr), PTs (X.blk s H scope (compEnvC scope cl C X.env) fp) ifs tt)
    (item : ∀ (s : Shared) (H : Hp) (C : Addr) (cl : List (PySem.Str × Addr)) (fp : List Addr), PE (X.blk s H scope (compEnvC scope cl C X.env) fp) elt te) (plain : ∀ x, foldedSetIterable iter X.env x = pure x := by intro _; rfl) :
    PE X (.SetComp elt [⟨tg, iter, ifs, 0⟩] scope pos) (tSetI X.w wi g tt te (own.map (·.2))) := by
  refine ⟨fun pins s σ H Q I asked => ?_⟩
  rw [eval_SetComp]
  have caught : ∀ y ∈ scope.names, y.2 = .free → ∃ c, X.env.cells.lookup y.1 = some c := by
    intro y hy e
    cases blk.free y hy e with
    | inl k => exact I.ok.has _ (.inl k)
    | inr k => exact I.ok.has _ (.inr k)
  refine wpAny_comprehension_free (use := none) rfl plain (closure_ok caught) blk.kind (fun y hy e => by rw [blk.uniq y hy, e]) ?_
  refine thn (walked.run pins s σ H _ I asked) fun _ _ h1 => thn h1 fun _ s2 h2 => ?_
  obtain ⟨it, fp, tn, J, H2, rfl, I2, T, st2, off2, fill⟩ := h2
  refine newSet_ok (newEnv_comp ?_)
  have free0 : H2 s2.heap.objs.size = none := I2.hok.fresh (Nat.le_refl _)
  obtain ⟨W, ⟨m0, w0⟩, turn⟩ := fill s2.heap.objs.size free0
  have I3 : Inv X pins σ (upd H2 s2.heap.objs.size (SetO X.w s2.heap.objs.size (fun _ => false) 0)) { s2 with heap := s2.heap.push (bareSet X.w) } :=
    I2.laid (t' := s2.toks) (fun _ _ e => Heap.get?_push_of_some _ e) (Nat.le_refl _) (setO_new (bare_ok X.w s2.heap))
  have below : ∀ b ∈ fp, b < s2.heap.objs.size := by
    intro b hb
    obtain ⟨o, e, _⟩ := T.obj _ _ st2 b hb
    exact Heap.lt_size e
  have off3 : ∀ b ∈ fp, FpOk X pins (upd H2 s2.heap.objs.size (SetO X.w s2.heap.objs.size (fun _ => false) 0)) b ∧ b < (s2.heap.push (bareSet X.w)).objs.size := by
    intro b hb
    refine ⟨⟨?_, (off2 b hb).2⟩, by rw [Heap.size_push]; exact Nat.lt_succ_of_lt (below b hb)⟩
    rw [upd_ne (Nat.ne_of_lt (below b hb))]
    exact (off2 b hb).1
  exact fill_set calm nod blk target tests item T I3 off3 (T.keep _ _ _ st2 fun _ _ _ e => Heap.get?_push_of_some _ e) w0 turn
end
end WS
set_option Elab.async false
set_option linter.all false
set_option maxRecDepth 100000
set_option maxHeartbeats 2000000
/-! t[::-1]; tuple * int for 0 and 1. -/
namespace WR
open PySem PySem.Spec PyProof.Rows L2
section
variable {prog : Program} {w : World} {A : Around} {E : Value → Shared → Prop} {s : Shared}
theorem adjust_back (n : Nat) : Builtin.Slice.sliceAdjust none none (-1) (n : Int) = ((n : Int) - 1, -1) := by
  unfold Builtin.Slice.sliceAdjust
  simp
theorem places_back (n : Nat) : Builtin.Slice.slicePlaces ((n : Int) - 1) (-1) (-1) = n := by
  unfold Builtin.Slice.slicePlaces
  have h1 : ¬ ((-1 : Int) > 0) := by omega
  simp only [h1, if_false]
  rw [show (- -1 : Int) = 1 by decide, Int.ediv_one]
  split <;> omega
theorem fm_congr {α β : Type} {f g : α → Option β} : ∀ {l : List α}, (∀ m ∈ l, f m = g m) → l.filterMap f = l.filterMap g
  | [], _ => rfl
  | a :: t, h => by
    rw [List.filterMap_cons, List.filterMap_cons, h a List.mem_cons_self, fm_congr fun m hm => h m (List.mem_cons_of_mem _ hm)]
theorem pick_back (xs : Array Value) : ((List.range xs.size).filterMap fun (m : Nat) => xs[((xs.size : Int) - 1 + (m : Int) * (-1)).toNat]?).toArray = xs.toList.reverse.toArray := by
  have e : (List.range xs.size).filterMap (fun (m : Nat) => xs[((xs.size : Int) - 1 + (m : Int) * (-1)).toNat]?) = ((List.range xs.size).map fun k => xs.size - 1 - k).filterMap (xs[·]?) := by
    rw [List.filterMap_map]
    refine fm_congr fun m hm => ?_
    have hm2 := List.mem_range.mp hm
    have : ((xs.size : Int) - 1 + (m : Int) * (-1)).toNat = xs.size - 1 - m := by omega
    rw [this]
    rfl
  rw [e, PySem.W.krv_range, List.filterMap_reverse, PySem.W.krv_all]
theorem sliceApplied_back {sl : Addr} {vl vu vs : Value} {n : Nat} {Q : Int × Int × Nat → Shared → Prop} (hs : s.heap.IsSliceOf sl vl vu vs) (pl : IsPart vl none) (pu : IsPart vu none) (ps : IsPart vs (some (-1)))
    (h : Q ((n : Int) - 1, -1, n) s) : wpAny (model prog w) A (Builtin.Slice.sliceApplied (.ref sl) (pure (n : Int))) Q E s := by
  obtain ⟨os, hos, hcs, hds⟩ := id hs
  unfold Builtin.Slice.sliceApplied Builtin.Slice.sliceFields
  refine wpAny_bind (wpAny_bind (wpAny_field hos hds (x := vl) rfl (wpAny_bind (wpAny_field hos hds (x := vu) rfl (wpAny_bind (wpAny_field hos hds (x := vs) rfl (wpAny_pure ?_)))))))
  refine wpAny_bind (HT.slicePart_ ps ?_)
  show wpAny _ _ (if ((-1 : Int) == 0) = true then _ else _) _ _ s
  rw [if_neg (by decide)]
  refine wpAny_bind (HT.slicePart_ pl (wpAny_bind (HT.slicePart_ pu (wpAny_bind (wpAny_pure ?_)))))
  show wpAny _ _ (match Builtin.Slice.sliceAdjust none none (-1) (n : Int) with | (lo, hi) => pure (lo, (-1 : Int), Builtin.Slice.slicePlaces lo hi (-1))) _ _ s
  rw [adjust_back n]
  show wpAny _ _ (pure ((n : Int) - 1, (-1 : Int), Builtin.Slice.slicePlaces ((n : Int) - 1) (-1) (-1))) _ _ s
  rw [places_back]
  exact wpAny_pure h
theorem getItem_tuple_back {t sl : Addr} {items : Array Value} {vl vu vs : Value} {Q : Value → Shared → Prop} (ht : IsTup s.heap t items) (hs : s.heap.IsSliceOf sl vl vu vs) (pl : IsPart vl none) (pu : IsPart vu none) (ps : IsPart vs (some (-1)))
    (h : Q (.ref s.heap.objs.size) { s with heap := s.heap.push { cls := .type "tuple", data := .seq items.toList.reverse.toArray } })
    (hsz : items.size ≤ sizeLine) : wpAny (model prog w) A (getItem (.ref t) (.ref sl)) Q E s := by
  have htake : sizeOk (.seq items.toList.reverse.toArray) := by
    show items.toList.reverse.toArray.size ≤ sizeLine
    rw [List.size_toArray, List.length_reverse, Array.length_toList]
    exact hsz
  obtain ⟨os, hos, hcs, hds⟩ := id hs
  have hTs : s.TypeIs (.ref sl) "slice" := ⟨os, hos, hcs⟩
  unfold getItem
  try with_reducible refine wpAny_holding ?_
  first | refine wpAny_bind (wpAny_pure ?_) | skip
  refine wpAny_bind (wpAny_sequenceKey ht.typeIs (by decide) ?_)
  refine wpAny_bind (wpAny_callSpecial?_slot (name := Str.ofString "__getitem__") ht.typeIs PyProof.Rows.slot_tuple_getitem
    (wpAny_call_entry PyProof.Rows.slot_tuple_getitem ht.typeIs entry_tuple_getitem ?_ (args_tuple_getitem _ _)))
  show wpAny _ _ (Builtin.Tuple.tupleItemsOf (.ref t) >>= _) _ _ s
  refine wpAny_bind (tupleItemsOf_ ht ?_)
  refine wpAny_bind (wpAny_typeOf hTs ?_)
  rw [if_pos (by decide)]
  refine wpAny_bind (sliceApplied_back hs pl pu ps ?_)
  have hno : ¬ ((((items.size : Int) - 1) == 0 && (-1 : Int) == 1 && items.size == items.size) = true) := by
    intro q
    rw [Bool.and_eq_true, Bool.and_eq_true] at q
    exact absurd q.1.2 (by decide)
  show wpAny _ _ (if (((items.size : Int) - 1) == 0 && (-1 : Int) == 1 && items.size == items.size) = true then _ else _) _ _ s
  rw [if_neg hno, pick_back]
  first
    | exact wpAny_bind (m := Builtin.Tuple.tupleExact _) (wpAny_newObj_type (wpAny_pure ⟨_, rfl, wpAny_pure h⟩) htake)
    | exact wpAny_bind (m := Builtin.Tuple.tupleExact _) (wpAny_newObj_type (wpAny_bind (wpAny_pure (wpAny_pure ⟨_, rfl, wpAny_pure h⟩))) htake)
end
section
variable {X : Cx}
def tRevT (K : PySem.W.Frag) (te : TE) : TE := fun σ H Q => te σ H fun x H1 => ∃ a xs, x = .ref a ∧ SqT K H1 a xs ∧ ∀ p, H1 p = none → Q (.ref p) (upd H1 p (.tup xs.reverse))
theorem pe_revT {e : Expr} {te : TE} {k : Nat} {p1 p2 p3 pos : Pos} (he : PE X e te) : PE X (.Subscript e (.Slice none none (some (.UnaryOp .USub (.Constant (.int 1) k p1) p2)) p3) pos) (tRevT X.K te) := by
  refine ⟨fun pins s σ H Q I h => ?_⟩
  refine Subscript_ (thn (he.run pins s σ H _ I h) fun v s1 ⟨x, H1, I1, r1, q1⟩ => ?_)
  obtain ⟨a, xs, ex, hx, q⟩ := q1
  subst ex
  cases r1
  have hst : PO X (some (.UnaryOp .USub (.Constant (.int 1) k p1) p2)) (tPart (tUn (rU fun i => .int (-i)) (tC (.int 1)))) := po_some (pe_un un_neg pe_int)
  refine wpAny_Slice (thn (po_none.run pins s1 σ H1 (fun o H2 => o = none ∧ H2 = H1) I1 ⟨rfl, rfl⟩) fun vl s2 ⟨l, H2, I2, pl, el, e2⟩ => ?_)
  subst el e2
  refine thn (po_none.run pins s2 σ H2 (fun o H3 => o = none ∧ H3 = H2) I2 ⟨rfl, rfl⟩) fun vu s3 ⟨u, H3, I3, pu, eu, e3⟩ => ?_
  subst eu e3
  refine thn (hst.run pins s3 σ H3 (fun o H4 => o = some (-1) ∧ H4 = H3) I3 ⟨1, rfl, -1, rfl, rfl, rfl⟩) fun vs s4 ⟨o, H4, I4, ps, eo, e4⟩ => ?_
  subst eo e4
  have I5 : Inv X pins σ H4 { s4 with heap := s4.heap.push { cls := .type "slice", data := .fields #[vl, vu, vs] } } := I4.kept (t' := s4.toks) fun b ob q => Heap.get?_push_of_some _ q
  obtain ⟨its, r, ht, hz⟩ := I5.tuple hx
  have hlen := r.length
  show wpAny (model X.prog X.w) X.A (subscriptTail e (.Slice none none (some (.UnaryOp .USub (.Constant (.int 1) k p1) p2)) p3) (.ref a) (.ref s4.heap.objs.size)) (EP X pins σ Q) X.xe { s4 with heap := s4.heap.push { cls := .type "slice", data := .fields #[vl, vu, vs] } }
  refine tail_any (ops := [.ref a, .ref s4.heap.objs.size]) ht.typeIs (PyProof.Rows.slot_tuple_getitem.lookup) ?_ (by with_unfolding_all rfl)
  refine getItem_tuple_back ht (Heap.IsSliceOf.new _ vl vu vs) pl pu ps ?_ (by rw [List.size_toArray]; omega)
  refine ⟨.ref _, _, I5.laid (t' := s4.toks) (o := .tup xs.reverse) (fun b ob q => Heap.get?_push_of_some _ q) (Nat.le_refl _) ?_, rfl, q _ (I5.hok.fresh (Nat.le_refl _))⟩
  exact ⟨by rw [List.length_reverse]; exact hz, _, r.reverse, IsTup.new _ _⟩
end

theorem tuple_mulS (l : Addr) (items : Array Value) (n : Nat) (dd : Option Addr) (sl : Array (Option Value)) (x : Int) (u : Tok) (c0 : (decide (x < -(2 ^ 63)) || decide (x ≥ 2 ^ 63)) = false) (c1 : (items.isEmpty || x == 1) = true) :
    Meets (Builtin.«tuple.__mul__» ⟨[.ref l, .int x u], []⟩) (fun _ R s => s.heap.get? l = some { cls := .type "tuple", dict := dd, data := .seq items n, slots := sl } ∧
      R (.ok (.ret (Value.ref l))) { s with heap := s.heap, toks := s.toks }) :=
  .of_wp fun prog w A R s h => by
    obtain ⟨hp, g, d, tk, os⟩ := s
    obtain ⟨hl, h⟩ := h
    have f1 := AutoSeq1.idx_int
    wp_walk using wpAny_loadPart' hl
    repeat (first
      | (refine wpAny_ite_false (decide_eq_false (by rw [c0]; exact Bool.false_ne_true)) ?_; wp_walk using wpAny_loadPart' hl)
      | (refine wpAny_ite_true (decide_eq_true c1) ?_; wp_walk using wpAny_loadPart' hl)
      | (refine wpAny_ite_true c1 ?_; wp_walk using wpAny_loadPart' hl))
    exact ⟨_, rfl, h⟩
theorem tuple_mul0 (l : Addr) (items : Array Value) (n : Nat) (dd : Option Addr) (sl : Array (Option Value)) (x : Int) (u : Tok) (c0 : (decide (x < -(2 ^ 63)) || decide (x ≥ 2 ^ 63)) = false) (c1 : (items.isEmpty || x == 1) = false) (c2 : (decide (x ≤ 0) || items.isEmpty) = true) :
    Meets (Builtin.«tuple.__mul__» ⟨[.ref l, .int x u], []⟩) (fun _ R s => s.heap.get? l = some { cls := .type "tuple", dict := dd, data := .seq items n, slots := sl } ∧
      R (.ok (.ret (Value.ref s.heap.objs.size))) { s with heap := s.heap.push { cls := Value.type "tuple", data := Data.seq #[] }, toks := s.toks }) :=
  .of_wp fun prog w A R s h => by
    obtain ⟨hp, g, d, tk, os⟩ := s
    obtain ⟨hl, h⟩ := h
    have f1 := AutoSeq1.idx_int
    wp_walk using wpAny_loadPart' hl
    repeat (first
      | (refine wpAny_ite_false (decide_eq_false (by rw [c0]; exact Bool.false_ne_true)) ?_; wp_walk using wpAny_loadPart' hl)
      | (refine wpAny_ite_false (decide_eq_false (by rw [c1]; exact Bool.false_ne_true)) ?_; wp_walk using wpAny_loadPart' hl)
      | (refine wpAny_ite_true (decide_eq_true c2) ?_; wp_walk using wpAny_loadPart' hl))
    exact ⟨_, rfl, h⟩
/-- some tuple of these values, all else as it stood -/
def NewT (K : PySem.W.Frag) (H : Hp) (Q : VK) (xs : List V) : Prop := ∀ p H', Same H H' → SqT K H' p xs → Q (.ref p) H'
theorem same_upd {H : Hp} {p : Addr} {o : HO} (hp : H p = none) : Same H (upd H p o) := fun b u e => by
  rw [upd_ne (ne_of_none e hp)]
  exact e
theorem Same.seqT {K : PySem.W.Frag} {H H' : Hp} {a : Addr} {xs : List V} (e : Same H H') (h : SqT K H a xs) : SqT K H' a xs := by
  rcases h with h | h
  · left
    rcases h with h | ⟨o, h⟩
    · exact .inl (e _ _ h)
    · exact .inr ⟨o, e _ _ h⟩
  · exact .inr h
theorem NewT.self {K : PySem.W.Frag} {H : Hp} {Q : VK} {xs : List V} {a : Addr} (k : NewT K H Q xs) (h : SqT K H a xs) : Q (.ref a) H := k a H (Same.refl H) h
theorem NewT.new {K : PySem.W.Frag} {H : Hp} {Q : VK} {xs : List V} (k : NewT K H Q xs) {p : Addr} (hp : H p = none) : Q (.ref p) (upd H p (.tup xs)) := k p _ (same_upd hp) (SqT.of upd_same)
section
variable {X : Cx}
def rSlU (K : PySem.W.Frag) : V → Option Int → Option Int → Hp → VK → Prop := fun x lo hi H Q => ∃ a xs, x = .ref a ∧ SqT K H a xs ∧ NewT K H Q (cutV xs lo hi)
theorem sl_tupU : SlR X (rSlU X.K) := by
  intro pins s σ H x v vl vu lo hi sl Q I rx hs pl pu h
  obtain ⟨a, xs, rfl, hx, k⟩ := h
  refine sl_tupA pins s σ H _ v vl vu lo hi sl Q I rx hs pl pu ⟨a, xs, rfl, hx, fun e => ?_, fun _ p hp => k.new hp⟩
  refine k.self ?_
  have : cutV xs lo hi = xs := by
    unfold cutV
    rw [e.1, e.2, List.drop_zero, Nat.sub_zero, List.take_of_length_le (Nat.le_refl _)]
  rw [this]
  exact hx
def rCatU (K : PySem.W.Frag) : R2 := fun x y H Q => ∃ a b xs ys, x = .ref a ∧ y = .ref b ∧ SqT K H a xs ∧ SqT K H b ys ∧ xs.length + ys.length ≤ sizeLine ∧ NewT K H Q (xs ++ ys)
theorem op_catU : OpR X (binaryOp .Add) (rCatU X.K) := by
  intro pins s σ H x y v u Q I rx ry h
  obtain ⟨a, b, xs, ys, rfl, rfl, ha, hb, hz, k⟩ := h
  by_cases hx : xs = []
  · subst hx
    cases rx
    cases ry
    obtain ⟨its, r1, p1, _⟩ := I.tuple ha
    obtain ⟨its2, r2, p2, _⟩ := I.tuple hb
    cases r1
    obtain ⟨⟨cls, dd, data, sl⟩, ho, hc, n, hd⟩ := id p1
    obtain ⟨⟨cls2, dd2, data2, sl2⟩, ho2, hc2, n2, hd2⟩ := id p2
    simp only at hc hd hc2 hd2
    subst hc hd hc2 hd2
    exact concat_meets ⟨_, ho, rfl⟩ ⟨_, ho2, rfl⟩ noFill_tuple_add seq_tuple_add PySem.F.slot_tuple_add PySem.F.entry_tuple_add (PySem.F.args_tuple_add_2 _ _)
      (tuple_addW0 a b _ its2.toArray n n2 dd dd2 sl sl2 (by simp)) ⟨ho, ho2, ⟨.ref b, H, I, rfl, k.self hb⟩⟩
  · refine op_catT pins s σ H _ _ v u Q I rx ry ⟨a, b, xs, ys, rfl, rfl, ha, hb, hx, hz, fun e => ?_, fun _ p hp => k.new hp⟩
    subst e
    rw [List.append_nil] at k
    exact k.self ha
def rRepU (K : PySem.W.Frag) : R2 := fun x y H Q => ∃ l k xs, x = .ref l ∧ y = .int k ∧ SqT K H l xs ∧ 0 ≤ k ∧ k ≤ 1000 ∧ xs.length ≤ 1000 ∧ NewT K H Q (List.replicate k.toNat xs).flatten
theorem op_repU : OpR X (binaryOp .Mult) (rRepU X.K) := by
  intro pins s σ H x y v u Q I rx ry h
  obtain ⟨l, k, xs, rfl, rfl, hT, h1, h2, hz, kq⟩ := h
  by_cases hne : xs ≠ [] ∧ 2 ≤ k
  · exact op_repT pins s σ H _ _ v u Q I rx ry ⟨l, k, xs, rfl, rfl, hT, hne.1, hne.2, h2, hz, fun p hp => kq.new hp⟩
  cases rx
  obtain ⟨t, rfl⟩ := ry
  obtain ⟨its, r, ⟨⟨cls, dd, data, sl⟩, ho, hc, n, hd⟩, hs⟩ := I.tuple hT
  simp only at hc hd
  subst hc hd
  have c0 : (decide (k < -(2 ^ 63)) || decide (k ≥ 2 ^ 63)) = false := by
    rw [decide_eq_false (by omega), decide_eq_false (by omega)] <;> rfl
  by_cases hs1 : (its.toArray.isEmpty || k == 1) = true
  · refine wpAny_binaryOp_repeat_ref (T := "tuple") (U := "int") (by decide) ⟨_, ho, rfl⟩ (fun s' => typeIs_int s' k t) noFill_tuple_mul F.fills_int_mul F.slot_int_rmul repeat_tuple F.slot_int_index.lookup
      (call_meets F.slot_int_rmul (typeIs_int s k t) F.entry_int_rmul (F.args_int_rmul_2 _ _) (int_rmul_tuple k t l its.toArray n dd sl)
        ⟨ho, rfl, ⟨_, ho, rfl⟩, call_meets F.slot_tuple_mul ⟨_, ho, rfl⟩ F.entry_tuple_mul (F.args_tuple_mul_2 _ _) (tuple_mulS l its.toArray n dd sl k t c0 hs1) ⟨ho, ?_⟩⟩)
    refine ⟨.ref l, H, I, rfl, kq.self ?_⟩
    rw [Bool.or_eq_true] at hs1
    rcases hs1 with e | e
    · have ei : its = [] := by simpa using e
      have ex : xs = [] := by
        have := r.length
        rw [ei] at this
        exact List.eq_nil_of_length_eq_zero this
      subst ex
      have : (List.replicate k.toNat ([] : List V)).flatten = [] := by simp
      rw [this]
      exact hT
    · have : k = 1 := eq_of_beq e
      subst this
      have : (List.replicate (1 : Int).toNat xs).flatten = xs := by simp
      rw [this]
      exact hT
  · have hs1' : (its.toArray.isEmpty || k == 1) = false := by
      cases e : (its.toArray.isEmpty || k == 1) with
      | false => rfl
      | true => exact absurd e hs1
    have hxs : xs ≠ [] := fun e => by
      subst e
      cases r
      exact hs1 rfl
    have k1 : k ≠ 1 := fun e => by
      rw [e] at hs1'
      simp at hs1'
    have k0 : k = 0 := by
      have : ¬ 2 ≤ k := fun e => hne ⟨hxs, e⟩
      omega
    subst k0
    refine wpAny_binaryOp_repeat_ref (T := "tuple") (U := "int") (by decide) ⟨_, ho, rfl⟩ (fun s' => typeIs_int s' 0 t) noFill_tuple_mul F.fills_int_mul F.slot_int_rmul repeat_tuple F.slot_int_index.lookup
      (call_meets F.slot_int_rmul (typeIs_int s 0 t) F.entry_int_rmul (F.args_int_rmul_2 _ _) (int_rmul_tuple 0 t l its.toArray n dd sl)
        ⟨ho, rfl, ⟨_, ho, rfl⟩, call_meets F.slot_tuple_mul ⟨_, ho, rfl⟩ F.entry_tuple_mul (F.args_tuple_mul_2 _ _) (tuple_mul0 l its.toArray n dd sl 0 t c0 hs1' rfl) ⟨ho, ?_⟩⟩)
    refine ⟨.ref s.heap.objs.size, _, I.laid (t' := s.toks) (o := .tup []) (fun b ob q => Heap.get?_push_of_some _ q) (Nat.le_refl _) ?_, rfl, kq.new (xs := []) (I.hok.fresh (Nat.le_refl _))⟩
    exact ⟨Nat.zero_le _, [], .nil, IsTup.new _ _⟩
end
end WR
set_option Elab.async false
set_option linter.all false
set_option maxRecDepth 100000
set_option maxHeartbeats 1000000
/-! Tuples that have no dict of their own: a method of theirs can be called (t.count(x)). tuple(..), slices, + and * make such. -/
namespace WB
open PySem PySem.Spec PyProof PyProof.Rows L2 WR
/-- no dict of its own -/
def Bare (H : Hp) (a : Addr) : Prop := ∃ (o : Obj) (u : HO), H a = some (.frz o u) ∧ o.dict = none
structure SqB (K : PySem.W.Frag) (H : Hp) (a : Addr) (xs : List V) : Prop where
  sq : SqT K H a xs
  bare : Bare H a
instance {K : PySem.W.Frag} {H : Hp} {a : Addr} {xs : List V} : Coe (SqB K H a xs) (SqT K H a xs) := ⟨SqB.sq⟩
theorem SqB.same {K : PySem.W.Frag} {H H' : Hp} {a : Addr} {xs : List V} (s : Same H H') (h : SqB K H a xs) : SqB K H' a xs := by
  obtain ⟨h1, h2⟩ := h
  refine ⟨WR.Same.seqT s h1, ?_⟩
  obtain ⟨o, u, e, d⟩ := h2
  exact ⟨o, u, s _ _ e, d⟩
/-- some such tuple of these values, all else as it stood -/
def NewB (K : PySem.W.Frag) (H : Hp) (Q : VK) (xs : List V) : Prop := ∀ p H', Same H H' → SqB K H' p xs → Q (.ref p) H'
theorem NewB.self {K : PySem.W.Frag} {H : Hp} {Q : VK} {xs : List V} {a : Addr} (k : NewB K H Q xs) (h : SqB K H a xs) : Q (.ref a) H := k a H (Same.refl H) h
theorem NewB.new {K : PySem.W.Frag} {H : Hp} {Q : VK} {xs : List V} (k : NewB K H Q xs) {p : Addr} (hp : H p = none) {o : Obj} (d : o.dict = none) : Q (.ref p) (upd H p (.frz o (.tup xs))) :=
  k p _ (same_upd hp) ⟨.inl (.inr ⟨o, upd_same⟩), ⟨o, _, upd_same, d⟩⟩
section
variable {X : Cx} {pins : List (Addr × Obj)} {σ : L2.St} {H : Hp} {s : Shared} {Q : VK} {xs : List V} {its : List Value}
/-- a new tuple of these -/
theorem born (I : Inv X pins σ H s) {h1 : Heap} (kp : ∀ b o, s.heap.get? b = some o → h1.get? b = some o) (r : Vals xs its) (hz : xs.length ≤ sizeLine) (k : NewB X.K H Q xs) :
    ∃ (v : V) (H2 : Hp), Inv X pins σ H2 { s with heap := h1.push { cls := .type "tuple", data := .seq its.toArray } } ∧ RelV v (.ref h1.objs.size) ∧ Q v H2 := by
  have J : Inv X pins σ H { s with heap := h1 } := I.kept (t' := s.toks) kp
  have hn := J.hok.fresh (Nat.le_refl h1.objs.size)
  have new : (h1.push { cls := .type "tuple", data := .seq its.toArray }).get? h1.objs.size = some { cls := .type "tuple", data := .seq its.toArray } := Heap.get?_push_size _ rfl
  exact ⟨.ref _, _, J.laid (t' := s.toks) (o := .frz { cls := .type "tuple", data := .seq its.toArray } (.tup xs)) (fun _ _ e => Heap.get?_push_of_some _ e) (Nat.le_refl _) ⟨new, hz, its, r, IsTup.new _ _⟩, rfl, k.new hn rfl⟩
theorem call_tupB : CallR X (.type "tuple") (fun xs H Q => ∃ p ys, xs = [.ref p] ∧ ((SqL X.K H p ys ∧ NewB X.K H Q ys) ∨ (SqB X.K H p ys ∧ Q (.ref p) H))) := by
  intro pins s σ H vs us Q I r h
  obtain ⟨p, ys, rfl, h⟩ := h
  obtain ⟨u, rfl, rx⟩ := vals1 r
  cases rx
  rcases h with ⟨hq, q⟩ | ⟨hq, q⟩
  · obtain ⟨its, rv, pl, hz⟩ := I.list hq
    exact call_tuple_list pl.isList (fun h1 kp => born I kp rv hz q) (by rw [List.size_toArray, ← rv.length]; exact hz)
  · obtain ⟨its, rv, pl, _⟩ := I.tuple hq.sq
    exact call_tuple_same pl ⟨.ref p, H, I, rfl, q⟩
/-- a display -/
theorem pe_tupB {es : List Expr} {t : TA} {pos : Pos} {x1} (h : PA X es t) : PE X (.Tuple es x1 pos) (fun σ H Q => t σ H fun xs H1 => xs.length ≤ sizeLine ∧ NewB X.K H1 Q xs) := by
  constructor
  intro pins s σ H Q I hq
  refine wpAny_Tuple_spliced (thn (h.run pos pins s σ H _ I hq) fun us s1 z => ?_)
  obtain ⟨xs, H1, I1, r, z, q⟩ := z
  exact ⟨by rw [← r.length]; exact z, born I1 (fun _ _ e => e) r z q⟩
def rSlB (K : PySem.W.Frag) : V → Option Int → Option Int → Hp → VK → Prop := fun x lo hi H Q => ∃ a xs, x = .ref a ∧ SqB K H a xs ∧ NewB K H Q (cutV xs lo hi)
theorem sl_tupB : SlR X (rSlB X.K) := by
  intro pins s σ H x v vl vu lo hi sl Q I rx hs pl pu h
  obtain ⟨a, xs, rfl, hx, k⟩ := h
  cases rx
  obtain ⟨its, r, ht, hz⟩ := I.tuple hx.sq
  have hlen : its.toArray.size = xs.length := List.size_toArray.trans r.length.symm
  refine ⟨"tuple", _, PyProof.Rows.slot_tuple_getitem.lookup, ht.typeIs, ?_⟩
  by_cases hw : HT.sIx xs.length 0 lo = 0 ∧ HT.sIx xs.length xs.length hi = xs.length
  · have e : cutV xs lo hi = xs := by
      unfold cutV
      rw [hw.1, hw.2, List.drop_zero, Nat.sub_zero, List.take_of_length_le (Nat.le_refl _)]
    rw [e] at k
    exact getItem_tuple_whole ht hs pl pu (hlen.symm ▸ hw) ⟨.ref a, H, I, rfl, k.self hx⟩
  · refine HT.getItem_tuple_cut ht hs pl pu (hlen.symm ▸ hw) ?_ (hlen.symm ▸ hz)
    rw [hlen]
    exact born I (fun _ _ e => e) ((r.drop _).take _) (Nat.le_trans (cutV_length xs lo hi) hz) k
def rCatB (K : PySem.W.Frag) : R2 := fun x y H Q => ∃ a b xs ys, x = .ref a ∧ y = .ref b ∧ SqB K H a xs ∧ SqB K H b ys ∧ xs.length + ys.length ≤ sizeLine ∧ NewB K H Q (xs ++ ys)
theorem op_catB : OpR X (binaryOp .Add) (rCatB X.K) := by
  intro pins s σ H x y v u Q I rx ry h
  obtain ⟨a, b, xs, ys, rfl, rfl, ha, hb, hz, k⟩ := h
  by_cases hx : xs = []
  · subst hx
    exact op_catA pins s σ H _ _ v u Q I rx ry ⟨a, b, [], ys, rfl, rfl, ha.sq, hb.sq, hz, fun _ => k.self hb, fun z => absurd rfl z, fun z => absurd rfl z⟩
  cases rx
  cases ry
  obtain ⟨its, r1, p1, _⟩ := I.tuple ha.sq
  obtain ⟨its2, r2, p2, _⟩ := I.tuple hb.sq
  refine HT.cat_tup p1 p2 (fun z => hx (r1.nil_iff.mp z)) (fun z => ?_) (fun z => ?_) (r1.length ▸ r2.length ▸ hz)
  · have e := r2.nil_iff.mp z
    subst e
    rw [List.append_nil] at k
    exact ⟨.ref a, H, I, rfl, k.self ha⟩
  · exact born I (fun _ _ e => e) (r1.append r2) (by rw [List.length_append]; exact hz) k
def rRepB (K : PySem.W.Frag) : R2 := fun x y H Q => ∃ l k xs, x = .ref l ∧ y = .int k ∧ SqB K H l xs ∧ 0 ≤ k ∧ k ≤ 1000 ∧ xs.length ≤ 1000 ∧ NewB K H Q (List.replicate k.toNat xs).flatten
theorem op_repB : OpR X (binaryOp .Mult) (rRepB X.K) := by
  intro pins s σ H x y v u Q I rx ry h
  obtain ⟨l, k, xs, rfl, rfl, hT, h1, h2, hz, kq⟩ := h
  cases rx
  obtain ⟨t, rfl⟩ := ry
  obtain ⟨its, r, ⟨⟨cls, dd, data, sl⟩, ho, hc, n, hd⟩, hs⟩ := I.tuple hT.sq
  simp only at hc hd
  subst hc hd
  have c0 : (decide (k < -(2 ^ 63)) || decide (k ≥ 2 ^ 63)) = false := by
    rw [decide_eq_false (by omega), decide_eq_false (by omega)] <;> rfl
  have hle : its.length = xs.length := r.length.symm
  have big : k.toNat * xs.length ≤ 1000 * 1000 := Nat.mul_le_mul (by omega) hz
  have flat : (List.replicate k.toNat xs).flatten.length ≤ sizeLine := by
    rw [PyProof.Rows.lm_len_rep_flat, sizeLine_eq]
    omega
  -- what the slot says is what the operator says
  have slot : ∀ {E : Value → Shared → Prop} {Qv : Value → Shared → Prop}, wpAny (model X.prog X.w) X.A (call (.builtin "tuple.__mul__") [.ref l, .int k t]) Qv E s → wpAny (model X.prog X.w) X.A (binaryOp .Mult (.ref l) (.int k t)) Qv E s := fun hh =>
    wpAny_binaryOp_repeat_ref (T := "tuple") (U := "int") (by decide) ⟨_, ho, rfl⟩ (fun s' => typeIs_int s' k t) noFill_tuple_mul F.fills_int_mul F.slot_int_rmul repeat_tuple F.slot_int_index.lookup
      (call_meets F.slot_int_rmul (typeIs_int s k t) F.entry_int_rmul (F.args_int_rmul_2 _ _) (int_rmul_tuple k t l its.toArray n dd sl) ⟨ho, rfl, ⟨_, ho, rfl⟩, hh⟩)
  refine slot ?_
  by_cases hs1 : (its.toArray.isEmpty || k == 1) = true
  · refine call_meets F.slot_tuple_mul ⟨_, ho, rfl⟩ F.entry_tuple_mul (F.args_tuple_mul_2 _ _) (tuple_mulS l its.toArray n dd sl k t c0 hs1) ⟨ho, ?_⟩
    have e : (List.replicate k.toNat xs).flatten = xs := by
      rcases Bool.or_eq_true_iff.mp hs1 with e | e
      · have e0 : xs = [] := List.eq_nil_of_length_eq_zero (by rw [← hle]; simpa using e)
        rw [e0]
        simp
      · rw [show k = 1 from eq_of_beq e]
        simp
    rw [e] at kq
    exact ⟨.ref l, H, I, rfl, kq.self hT⟩
  · have hs2 := Bool.eq_false_iff.mpr hs1
    obtain ⟨n1, n2⟩ := Bool.or_eq_false_iff.mp hs2
    by_cases k0 : k = 0
    · subst k0
      refine call_meets F.slot_tuple_mul ⟨_, ho, rfl⟩ F.entry_tuple_mul (F.args_tuple_mul_2 _ _) (tuple_mul0 l its.toArray n dd sl 0 t c0 hs2 rfl) ⟨ho, ?_⟩
      exact born (its := []) I (fun _ _ e => e) .nil (Nat.zero_le _) kq
    · have c2 : (decide (k ≤ 0) || its.toArray.isEmpty) = false := by rw [n1, Bool.or_false, decide_eq_false (by omega)]
      have hsz : its.toArray.size = xs.length := List.size_toArray.trans hle
      have c3 : ((its.toArray.size : Nat) : Int) * k ≤ 1000000 := by
        rw [hsz]
        have : ((xs.length : Nat) : Int) * k ≤ 1000 * 1000 := Int.mul_le_mul (by omega) h2 h1 (by omega)
        omega
      have c4 : Builtin.Tuple.tupleTooMany (((its.toArray.size : Nat) : Int) * k) = false := by
        unfold Builtin.Tuple.tupleTooMany
        rw [sizeLine_eq, decide_eq_false (by omega)]
      have many : (List.replicate k.toNat its).flatten.length ≤ sizeLine := by rw [PyProof.Rows.lm_len_rep_flat, hle, sizeLine_eq]; omega
      refine call_meets F.slot_tuple_mul ⟨_, ho, rfl⟩ F.entry_tuple_mul (F.args_tuple_mul_2 _ _) (tuple_mulW l its.toArray n dd sl k t c0 hs2 c2 (by omega) c4 (by rw [size_rep, List.size_toArray]; exact many)) ⟨ho, ?_⟩
      rw [size_rep]
      exact born I (fun _ _ e => e) (r.rep k.toNat) flat kq
end
end WB
set_option Elab.async false
set_option linter.all false
set_option maxRecDepth 100000
set_option maxHeartbeats 2000000
/-! Words: rows of letters. -/
namespace W14
open PySem L2 PySem.Spec PyProof.Rows WR WB
def top (i : Nat) : Stmt := PySem.Challenge.pw_handlerims_k14_mates_exchanged.main.body.getD i (.Pass ⟨0, 0, 0, 0⟩)
abbrev sCon : Stmt := top 25
abbrev sShr : Stmt := top 26
abbrev sRnd : Stmt := top 27

theorem gen_heap {P : Hp → Prop} {H : Hp} (h : ∀ H3, H3 = H → P H3) : P H := h H rfl
theorem yes_te {σ : L2.St} {H : Hp} {A B : Hp → Prop} (h : A H) : tYes σ H (fun b H3 => if b = true then A H3 else B H3) := by
  show (if (true : Bool) = true then A H else B H)
  exact iteT h
/-! ### a def that the module's name x holds, with its promise -/
structure Cal (P : Program) (w : World) (K : PySem.W.Frag) (mg : Str → Option Value) (base : Heap) (x : Str) (k : Nat) (ps : List Str) (sp : Sp) : Prop where
  ex : ∃ (f : Addr) (fd : FuncData), FnOk P w K mg base CX0 k f fd ps sp ∧ mg x = some (.ref f) ∧ PySem.W.keepIn K (.ref f) = true ∧ Binds K fd ps []
section
variable {X : Cx} {x : Str} {k j : Nat} {ps : List Str} {sp : Sp} {p pos : Pos} {e : Expr} {es : List Expr} {t : TA}
theorem pe_cal (C : Cal X.prog X.w X.K X.mg X.base x k ps sp) (hr : Room j X.A) (hkj : k ≤ j) (hg : Gl X x) (ha : PA X (e :: es) t) (hdb : (x == ("__debug__" : Str)) = false := by decide)
    (he : starEach (e :: es) X.env = (false, eval e X.env) :: starEach es X.env := by rfl) (hpl : (backTo pos (starEach es X.env)).any (·.1) = false := by rfl) :
    PE X (.Call (.Name x p) (e :: es) [] pos) (tCall sp [] E0 t) := by
  obtain ⟨f, fd, F, hm, hk, hb⟩ := C.ex
  exact pe_call F (hr.mono hkj) hg hm hk hb .nil pass0 ha hdb he hpl
end
/-! ### comprehensions that change nothing -/
theorem lc_in {wi : TI} {g : TG} {tt : TT} {te : TE} {vs : List Nat} {σ : L2.St} {H : Hp} {Q : VK} (h : wi σ H fun J H1 => tLc (fun _ H R => R J H) g tt te vs σ H1 Q) : tLc wi g tt te vs σ H Q := h
theorem lcp {J : It} {xs : List V} {G : Hp → Prop} (w : Walk J xs.length G (YAt xs)) {g : TG} {tt : TT} {te : TE} {vs : List Nat} {σ : L2.St} {H1 : Hp} {Q : VK} (f : V → Bool) (v : V → V) (hz : xs.length < 40000) (hG : ∀ H, Same H1 H → G H)
    (hs : ∀ x, x ∈ xs → ∀ H, Same H1 H → ∀ (Qy : V → Hp → Prop) (Qn : Hp → Prop), (f x = true → ∀ H', Same H H' → Qy (v x) H') → (f x = false → ∀ H', Same H H' → Qn H') →
      g x (wipe σ vs) H fun σ2 H2 => wipe σ2 vs = wipe σ vs ∧ tt σ2 H2 fun b H3 => if b = true then te σ2 H3 Qy else Qn H3)
    (hd : ∀ (D : Addr) H', H1 D = none → Same H1 H' → H' D = some (.lst ((xs.filter f).map v)) → Q (.ref D) H') : tLc (fun _ H R => R J H) g tt te vs σ H1 Q := by
  intro D hD
  refine lc_it w (fun i H => Same H1 H ∧ H D = some (.lst (((xs.take i).filter f).map v))) ⟨fun b o e => by rw [upd_ne (ne_of_none e hD)]; exact e, upd_same⟩ (fun i H _ q => hG H q.1) ?_ ?_
  · rintro i x H H' hi q ⟨rfl, hx⟩
    have hm : x ∈ xs := List.mem_of_getElem? hx
    have et : xs.take (i + 1) = xs.take i ++ [x] := by
      have hx2 : xs[i] = x := (List.getElem?_eq_some_iff.mp hx).2
      rw [List.take_succ_eq_append_getElem hi, hx2]
    refine hs x hm H' q.1 _ _ (fun hf H2 s2 => ⟨_, s2 _ _ q.2, ?_, ?_, ?_⟩) (fun hf H2 s2 => ⟨fun b o e => s2 b o (q.1 b o e), ?_⟩)
    · refine Evl.sz_lt ?_
      rw [List.length_map]
      have := List.length_filter_le f (xs.take i)
      rw [List.length_take] at this
      omega
    · intro b o e
      rw [upd_ne (ne_of_none e hD)]
      exact s2 b o (q.1 b o e)
    · rw [upd_same, et, List.filter_append, List.map_append, List.filter_cons, if_pos hf]
      rfl
    · rw [et, List.filter_append, List.filter_cons, if_neg (by rw [hf]; decide)]
      show H2 D = some (.lst (((xs.take i).filter f ++ []).map v))
      rw [List.append_nil]
      exact s2 _ _ q.2
  · intro H q
    have q2 := q.2
    rw [List.take_length] at q2
    exact hd D H hD q.1 q2

theorem ret_cb {r : List V → Hp → VK → Prop} {te : TE} {D : Ends} {σ : L2.St} {H : Hp} (h : te σ H fun x H1 => r [x] H1 D.rt) : tRet (tCB r (tCons te tNil)) D σ H := h
theorem ret_e {te : TE} {D : Ends} {σ : L2.St} {H : Hp} (h : te σ H D.rt) : tRet te D σ H := h
theorem iteT' {c : Bool} {A B : Prop} (hc : c = true) (h : A) : if c = true then A else B := by rw [if_pos hc]; exact h
abbrev iv (ns : List Int) : List V := ns.map V.int
def SqE (K : PySem.W.Frag) (H : Hp) (a : Addr) (xs : List V) : Prop := SqL K H a xs ∨ SqT K H a xs
theorem SqE.same {K : PySem.W.Frag} {H H' : Hp} {a : Addr} {xs : List V} (h : SqE K H a xs) (s : Same H H') : SqE K H' a xs := by
  rcases h with h | h
  · exact .inl (s.seq h)
  · exact .inr (WR.Same.seqT s h)
def SqW (K : PySem.W.Frag) (H : Hp) (a : Addr) (xs : List V) : Prop := SqL K H a xs ∨ SqB K H a xs
theorem SqW.same {K : PySem.W.Frag} {H H' : Hp} {a : Addr} {xs : List V} (h : SqW K H a xs) (s : Same H H') : SqW K H' a xs := by
  rcases h with h | h
  · exact .inl (s.seq h)
  · exact .inr (SqB.same s h)
theorem SqW.e {K : PySem.W.Frag} {H : Hp} {a : Addr} {xs : List V} (h : SqW K H a xs) : SqE K H a xs := h.imp id SqB.sq
def spCon (K : PySem.W.Frag) : Sp := fun vs H Q _ => ∃ (a : Addr) (ns : List Int), vs = [.ref a] ∧ SqT K H a (iv ns) ∧ ns.length ≤ 1000 ∧ NewB K H Q (iv (Fr.con ns))
def spShr (K : PySem.W.Frag) : Sp := fun vs H Q _ => ∃ (a : Addr) (ns : List Int), vs = [.ref a] ∧ SqE K H a (iv ns) ∧ ns.length ≤ 1000 ∧ NewB K H Q (iv (Fr.shr ns))
def spRnd (K : PySem.W.Frag) : Sp := fun vs H Q _ => ∃ (a : Addr) (ns : List Int), vs = [.ref a] ∧ SqE K H a (iv ns) ∧ ns.length ≤ 1000 ∧ Fr.NZ ns ∧ NewB K H Q (iv (Fr.rnd ns))
structure TxA (mg : Str → Option Value) : Prop where
  tuple : mg "tuple" = none
  len : mg "len" = none
section
variable {P : Program} {w : World} {K : PySem.W.Frag} {mg : Str → Option Value} {base : Heap}
theorem scCon : FnScope ["letters", "letter"] ["letters"] (defScope sCon) := ⟨rfl, rfl, rfl, by decide +kernel, rfl, by decide +kernel, by decide +kernel⟩
theorem ok_con {f : Addr} {fd : FuncData} (F : Fun K "contrary_letters" "contrary_letters" sCon f fd) (T : TxA mg) : FnOk P w K mg base CX0 1 f fd ["letters"] (spCon K) := by
  refine F.ok scCon (fun vs H Q E h => ?_) (fun cdv A outer s H vs Q E hr h => ?_)
  · obtain ⟨a, ns, rfl, _⟩ := h
    rfl
  · obtain ⟨a, ns, rfl, hS, hlen, k⟩ := h
    refine ⟨_, pss_one (ps_ret (pe_callTy call_tupB (by rfl) T.tuple (by decide +kernel) (pa_cons (pe_lc (own := [("letter", 1)]) (g := gName 1) (tt := tYes) rfl scCon.nd (pi_tup (pe_revT (pv 0)))
      (blkOk_by (N := ["letters", "letter"]) (sc := defScope sCon) (by decide +kernel)) (fun _ _ _ _ _ => pg_name (i := 1) scCon.nd rfl (Or.inl rfl)) (fun _ _ _ _ _ => pts_nil)
      (fun _ _ _ _ _ => pe_un un_neg (pv 1))) pa_nil))), ?_⟩
    refine ret_cb (lc_in ?_)
    refine ⟨_, rfl, a, iv ns, rfl, hS, fun p hp => ?_⟩
    refine ⟨p, rfl, ⟨_, SqT.of upd_same⟩, ?_⟩
    refine lcp (walk_tup (xs := (iv ns).reverse)) (fun _ => true) (fun x => match x with | .int i => .int (-i) | _ => .non) (by simp; omega) (fun H2 s2 => SqT.of (s2 _ _ upd_same)) ?_ ?_
    · intro x hx H2 s2 Qy Qn ky kn
      obtain ⟨i, rfl⟩ : ∃ i, x = V.int i := by
        simp at hx
        obtain ⟨i, _, rfl⟩ := hx
        exact ⟨i, rfl⟩
      refine ⟨rfl, yes_te ?_⟩
      exact ⟨_, rfl, i, rfl, ky rfl H2 (fun _ _ e => e)⟩
    · intro D H2 hD s2 h2
      refine ⟨D, _, rfl, .inl ⟨SqL.of h2, ?_⟩⟩
      have e : (((iv ns).reverse.filter fun _ => true).map fun x => match x with | .int i => V.int (-i) | _ => .non) = iv (Fr.con ns) := by
        rw [List.filter_eq_self.mpr (fun _ _ => rfl)]
        unfold Fr.con
        simp [iv, List.map_reverse, Function.comp_def]
      rw [e]
      exact fun l H3 s3 b3 => k l H3 ((same_upd hp).trans (s2.trans s3)) b3
theorem scShr : FnScope ["letters", "left", "letter"] ["letters"] (defScope sShr) := ⟨rfl, rfl, rfl, by decide +kernel, rfl, by decide +kernel, by decide +kernel⟩
theorem act_take {ns : List Int} {i : Nat} {x : Int} (h : ns[i]? = some x) : Fr.act [] (ns.take (i + 1)) = Fr.push (Fr.act [] (ns.take i)) x := by
  have hi : i < ns.length := (List.getElem?_eq_some_iff.mp h).1
  have hx : ns[i] = x := (List.getElem?_eq_some_iff.mp h).2
  rw [List.take_succ_eq_append_getElem hi, hx, Fr.act_snoc]
theorem act_len : ∀ (ns s : List Int), (Fr.act s ns).length ≤ s.length + ns.length
  | [], s => by simp [Fr.act]
  | a :: t, s => by
    rw [Fr.act_cons]
    have h1 := act_len t (Fr.push s a)
    have h2 : (Fr.push s a).length ≤ s.length + 1 := by
      cases s with
      | nil => simp [Fr.push]
      | cons b u =>
        show (if b = -a then u else a :: b :: u).length ≤ _
        split <;> simp <;> omega
    simp only [List.length_cons]
    omega
theorem shr_len (ns : List Int) : (Fr.shr ns).length ≤ ns.length := by
  unfold Fr.shr
  rw [List.length_reverse]
  simpa using act_len ns []
theorem ok_shr {f : Addr} {fd : FuncData} (F : Fun K "shortened_letters" "shortened_letters" sShr f fd) (T : TxA mg) : FnOk P w K mg base CX0 1 f fd ["letters"] (spShr K) := by
  refine F.ok scShr (fun vs H Q E h => ?_) (fun cdv A outer s H vs Q E hr h => ?_)
  · obtain ⟨a, ns, rfl, _⟩ := h
    rfl
  · obtain ⟨a, ns, rfl, hS, hlen, k⟩ := h
    rcases hS with hS | hS
    · refine ⟨_, pss_cons (ps_set (i := 1) scShr.nd rfl (Or.inl rfl) (pe_lst pa_nil))
        (pss_cons (ps_for PassesOwn.never rfl (pi_list (pv 0)) (pg_name (i := 2) scShr.nd rfl (Or.inl rfl))
          (pss_one (ps_if (PW.pt (pw_and (pt_truth (pv 1) (by intro _; rfl)) (pw_and1 (pt_cmpR op_eq (pe_ix ix_list (pv 1) (pe_un un_neg pe_int) (fun _ _ => rfl)) (pe_un un_neg (pv 2)) (nomark _)))))
            (pss_one (ps_expr (pe_bm0 PySem.F.plainAttrs_list PySem.F.slot_list_pop PySem.F.type_list_pop mt_pop (pv 1))))
            (pss_one (ps_expr (pe_bm PySem.F.plainAttrs_list PySem.F.slot_list_append PySem.F.type_list_append mt_append (pv 1) (pa_cons (pv 2) pa_nil)))))))
        (pss_one (ps_ret (pe_callTy call_tupB (by rfl) T.tuple (by decide +kernel) (pa_cons (pv 1) pa_nil))))), ?_⟩
      refine ⟨Nat.zero_le _, fun l hl => ?_⟩
      refine ⟨_, rfl, a, rfl, ⟨_, (by have s := same_upd (o := HO.lst []) hl; exact (s.seq hS))⟩, for_list (K := K) (a := a) (xs := iv ns) (fun i σ H1 => ∃ v, σ = [some (.ref a), some (.ref l), v] ∧ Same H H1 ∧ H1 l = some (.lst (iv (Fr.act [] (ns.take i)).reverse)))
        ⟨none, rfl, same_upd hl, by rw [upd_same]; rfl⟩ (fun i σ H1 _ ⟨_, _, s, _⟩ => (s.seq hS)) ?_ ?_⟩
      · rintro i y σ H1 hi ⟨v, rfl, sm, hL⟩
        obtain ⟨x, hx, rfl⟩ : ∃ x, ns[i]? = some x ∧ y = V.int x := by
          rw [List.getElem?_map] at hi
          cases e : ns[i]? with
          | none => rw [e] at hi; cases hi
          | some x => rw [e] at hi; exact ⟨x, rfl, (Option.some.inj hi).symm⟩
        have hi2 : i < ns.length := (List.getElem?_eq_some_iff.mp hx).1
        have nx := act_take hx
        have hsz : (Fr.act [] (ns.take i)).length ≤ 1000 := by
          have := act_len (ns.take i) []
          rw [List.length_take] at this
          simp at this
          omega
        have put : ∀ xs, Same H (L2.upd H1 l (.lst xs)) := fun xs b o e => by
          rw [upd_ne (ne_of_none e hl)]
          exact sm b o e
        refine ⟨_, rfl, _, .inl ⟨_, SqL.of hL, rfl⟩, ?_⟩
        cases est : Fr.act [] (ns.take i) with
        | nil =>
          rw [est] at hL nx
          refine iteF ?_
          refine iteF ?_
          refine ⟨_, rfl, .inl ⟨rfl, _, SqL.of hL⟩, _, rfl, l, _, _, rfl, rfl, hL, Evl.sz_lt (by simp), ?_⟩
          refine ⟨_, rfl, put _, ?_⟩
          rw [upd_same, nx]
          rfl
        | cons b t =>
          rw [est] at hL nx hsz
          have eL : iv (b :: t).reverse = iv t.reverse ++ [V.int b] := by simp [iv]
          refine iteT' (by simp [iv]) ?_
          refine ⟨_, rfl, _, rfl, l, _, _, _, rfl, rfl, SqL.of hL, (by rw [eL]; exact atI_last _ _), _, rfl, x, rfl, rfl, _, rfl, ?_⟩
          refine ite2 (fun hb => ?_) (fun hb => ?_)
          · have eb : b = -x := by
              have := of_decide_eq_true hb
              injection this
            refine ⟨_, rfl, .inl ⟨rfl, _, SqL.of hL⟩, l, _, V.int b, rfl, rfl, hL, (by rw [eL]; simp), ?_⟩
            refine ⟨_, rfl, put _, ?_⟩
            rw [upd_same, nx]
            have : Fr.push (b :: t) x = t := by simp [Fr.push, eb]
            rw [this, eL, List.dropLast_concat]
          · have eb : ¬ b = -x := fun e => hb (decide_eq_true (by rw [e]))
            refine ⟨_, rfl, .inl ⟨rfl, _, SqL.of hL⟩, _, rfl, l, _, _, rfl, rfl, hL, Evl.sz_lt (by simp [iv] at hsz ⊢; omega), ?_⟩
            refine ⟨_, rfl, put _, ?_⟩
            rw [upd_same, nx]
            have : Fr.push (b :: t) x = x :: b :: t := by simp [Fr.push, eb]
            rw [this]
            simp [iv]
      · rintro σ H1 ⟨v, rfl, sm, hL⟩
        rw [List.take_of_length_le (by simp)] at hL
        exact ⟨_, rfl, l, _, rfl, .inl ⟨SqL.of hL, fun p H3 s3 b3 => k p H3 (sm.trans s3) b3⟩⟩
    · refine ⟨_, pss_cons (ps_set (i := 1) scShr.nd rfl (Or.inl rfl) (pe_lst pa_nil))
        (pss_cons (ps_for PassesOwn.never rfl (pi_tup (pv 0)) (pg_name (i := 2) scShr.nd rfl (Or.inl rfl))
          (pss_one (ps_if (PW.pt (pw_and (pt_truth (pv 1) (by intro _; rfl)) (pw_and1 (pt_cmpR op_eq (pe_ix ix_list (pv 1) (pe_un un_neg pe_int) (fun _ _ => rfl)) (pe_un un_neg (pv 2)) (nomark _)))))
            (pss_one (ps_expr (pe_bm0 PySem.F.plainAttrs_list PySem.F.slot_list_pop PySem.F.type_list_pop mt_pop (pv 1))))
            (pss_one (ps_expr (pe_bm PySem.F.plainAttrs_list PySem.F.slot_list_append PySem.F.type_list_append mt_append (pv 1) (pa_cons (pv 2) pa_nil)))))))
        (pss_one (ps_ret (pe_callTy call_tupB (by rfl) T.tuple (by decide +kernel) (pa_cons (pv 1) pa_nil))))), ?_⟩
      refine ⟨Nat.zero_le _, fun l hl => ?_⟩
      refine ⟨_, rfl, a, rfl, ⟨_, (by have s := same_upd (o := HO.lst []) hl; exact (WR.Same.seqT s hS))⟩, for_tup (K := K) (a := a) (xs := iv ns) (fun i σ H1 => ∃ v, σ = [some (.ref a), some (.ref l), v] ∧ Same H H1 ∧ H1 l = some (.lst (iv (Fr.act [] (ns.take i)).reverse)))
        ⟨none, rfl, same_upd hl, by rw [upd_same]; rfl⟩ (fun i σ H1 _ ⟨_, _, s, _⟩ => (WR.Same.seqT s hS)) ?_ ?_⟩
      · rintro i y σ H1 hi ⟨v, rfl, sm, hL⟩
        obtain ⟨x, hx, rfl⟩ : ∃ x, ns[i]? = some x ∧ y = V.int x := by
          rw [List.getElem?_map] at hi
          cases e : ns[i]? with
          | none => rw [e] at hi; cases hi
          | some x => rw [e] at hi; exact ⟨x, rfl, (Option.some.inj hi).symm⟩
        have hi2 : i < ns.length := (List.getElem?_eq_some_iff.mp hx).1
        have nx := act_take hx
        have hsz : (Fr.act [] (ns.take i)).length ≤ 1000 := by
          have := act_len (ns.take i) []
          rw [List.length_take] at this
          simp at this
          omega
        have put : ∀ xs, Same H (L2.upd H1 l (.lst xs)) := fun xs b o e => by
          rw [upd_ne (ne_of_none e hl)]
          exact sm b o e
        refine ⟨_, rfl, _, .inl ⟨_, SqL.of hL, rfl⟩, ?_⟩
        cases est : Fr.act [] (ns.take i) with
        | nil =>
          rw [est] at hL nx
          refine iteF ?_
          refine iteF ?_
          refine ⟨_, rfl, .inl ⟨rfl, _, SqL.of hL⟩, _, rfl, l, _, _, rfl, rfl, hL, Evl.sz_lt (by simp), ?_⟩
          refine ⟨_, rfl, put _, ?_⟩
          rw [upd_same, nx]
          rfl
        | cons b t =>
          rw [est] at hL nx hsz
          have eL : iv (b :: t).reverse = iv t.reverse ++ [V.int b] := by simp [iv]
          refine iteT' (by simp [iv]) ?_
          refine ⟨_, rfl, _, rfl, l, _, _, _, rfl, rfl, SqL.of hL, (by rw [eL]; exact atI_last _ _), _, rfl, x, rfl, rfl, _, rfl, ?_⟩
          refine ite2 (fun hb => ?_) (fun hb => ?_)
          · have eb : b = -x := by
              have := of_decide_eq_true hb
              injection this
            refine ⟨_, rfl, .inl ⟨rfl, _, SqL.of hL⟩, l, _, V.int b, rfl, rfl, hL, (by rw [eL]; simp), ?_⟩
            refine ⟨_, rfl, put _, ?_⟩
            rw [upd_same, nx]
            have : Fr.push (b :: t) x = t := by simp [Fr.push, eb]
            rw [this, eL, List.dropLast_concat]
          · have eb : ¬ b = -x := fun e => hb (decide_eq_true (by rw [e]))
            refine ⟨_, rfl, .inl ⟨rfl, _, SqL.of hL⟩, _, rfl, l, _, _, rfl, rfl, hL, Evl.sz_lt (by simp [iv] at hsz ⊢; omega), ?_⟩
            refine ⟨_, rfl, put _, ?_⟩
            rw [upd_same, nx]
            have : Fr.push (b :: t) x = x :: b :: t := by simp [Fr.push, eb]
            rw [this]
            simp [iv]
      · rintro σ H1 ⟨v, rfl, sm, hL⟩
        rw [List.take_of_length_le (by simp)] at hL
        exact ⟨_, rfl, l, _, rfl, .inl ⟨SqL.of hL, fun p H3 s3 b3 => k p H3 (sm.trans s3) b3⟩⟩
end
end W14
set_option Elab.async false
set_option linter.all false
set_option maxRecDepth 100000
set_option maxHeartbeats 2000000
namespace W14
open PySem L2 PySem.Spec PyProof.Rows WR WB
section
variable {P : Program} {w : World} {K : PySem.W.Frag} {mg : Str → Option Value} {base : Heap}
theorem iteF' {c : Bool} {A B : Prop} (hc : c = false) (h : B) : if c = true then A else B := by rw [if_neg (by rw [hc]; exact Bool.false_ne_true)]; exact h
theorem iv_get {ns : List Int} {i : Nat} {x : Int} (h : ns[i]? = some x) : (iv ns)[i]? = some (V.int x) := by
  rw [List.getElem?_map, h]
  rfl
theorem con_get {u : List Int} {j : Nat} (h : j < u.length) : (Fr.con u)[u.length - 1 - j]? = some (-u[j]) := by
  unfold Fr.con
  rw [List.getElem?_map, List.getElem?_reverse (by omega)]
  have e : u.length - 1 - (u.length - 1 - j) = j := by omega
  rw [e, List.getElem?_eq_getElem h]
  rfl
theorem whole_len (u w : List Int) : (u ++ w ++ Fr.con u).length = 2 * u.length + w.length := by
  rw [List.length_append, List.length_append, Fr.con_length]
  omega
theorem whole_lo {u w : List Int} {j : Nat} (h : j < u.length) : (u ++ w ++ Fr.con u)[j]? = some u[j] := by
  rw [List.append_assoc, List.getElem?_append_left h, List.getElem?_eq_getElem h]
theorem whole_hi {u w : List Int} {j : Nat} (h : j < u.length) : (u ++ w ++ Fr.con u)[2 * u.length + w.length - 1 - j]? = some (-u[j]) := by
  rw [List.getElem?_append_right (by rw [List.length_append]; omega), List.length_append]
  have e : 2 * u.length + w.length - 1 - j - (u.length + w.length) = u.length - 1 - j := by omega
  rw [e, con_get h]
theorem mid_lo {u w : List Int} (hw : w ≠ []) : (u ++ w ++ Fr.con u)[u.length]? = w.head? := by
  have : 0 < w.length := List.length_pos_iff.mpr hw
  rw [List.append_assoc, List.getElem?_append_right (Nat.le_refl _), Nat.sub_self, List.getElem?_append_left this, List.head?_eq_getElem?]
theorem mid_hi {u w : List Int} (hw : w ≠ []) : (u ++ w ++ Fr.con u)[2 * u.length + w.length - 1 - u.length]? = w.getLast? := by
  have : 0 < w.length := List.length_pos_iff.mpr hw
  rw [List.append_assoc, List.getElem?_append_right (by omega)]
  have e : 2 * u.length + w.length - 1 - u.length - u.length = w.length - 1 := by omega
  rw [e, List.getElem?_append_left (by omega), List.getLast?_eq_getElem?]
theorem whole_cut (u w : List Int) : ((u ++ w ++ Fr.con u).drop u.length).take w.length = w := by
  rw [List.append_assoc, List.drop_left, List.take_left]
theorem scRnd : FnScope ["letters", "left", "skipped"] ["letters"] (defScope sRnd) := ⟨rfl, rfl, rfl, by decide +kernel, rfl, by decide +kernel, by decide +kernel⟩
theorem cut_nat {xs : List V} {i j : Nat} (hi : i ≤ xs.length) (hj : j ≤ xs.length) : cutV xs (some (i : Int)) (some (j : Int)) = (xs.drop i).take (j - i) := by
  unfold cutV
  rw [HT.sIx_nat, HT.sIx_nat, Nat.min_eq_left hi, Nat.min_eq_left hj]
theorem ok_rnd {f : Addr} {fd : FuncData} (F : Fun K "rounded_letters" "rounded_letters" sRnd f fd) (GS : Cal P w K mg base "shortened_letters" 1 ["letters"] (spShr K)) (T : TxA mg) : FnOk P w K mg base CX0 2 f fd ["letters"] (spRnd K) := by
  refine F.ok scRnd (fun vs H Q E h => ?_) (fun cdv A outer s H vs Q E hr h => ?_)
  · obtain ⟨a, ns, rfl, _⟩ := h
    rfl
  · obtain ⟨a, ns, rfl, hS, hlen, nz, k⟩ := h
    refine ⟨_, pss_cons (ps_set (i := 1) scRnd.nd rfl (Or.inl rfl) (pe_cal GS hr (by decide) (by rfl) (pa_cons (pv 0) pa_nil)))
      (pss_cons (ps_set (i := 2) scRnd.nd rfl (Or.inl rfl) pe_int)
      (pss_cons (ps_while PassesOwn.never (PW.pt (pw_and (pt_cmpR op_lt (pe_op op_mul pe_int (pv 2)) (pe_callB call_len_seq (by rfl) T.len PySem.boot_len (pa_cons (pv 1) pa_nil)) (nomark _))
          (pw_and1 (pt_cmpR op_eq (pe_ix ix_tup (pv 1) (pv 2) (fun _ _ => rfl)) (pe_un un_neg (pe_ix ix_tup (pv 1) (pe_op op_sub (pe_op op_sub (pe_callB call_len_seq (by rfl) T.len PySem.boot_len (pa_cons (pv 1) pa_nil)) pe_int) (pv 2)) (fun _ _ => rfl))) (nomark _)))))
        (pss_one (ps_aug (i := 2) scRnd.nd rfl (Or.inl rfl) pe_int ip_add)))
      (pss_one (ps_ret (pe_slice sl_tupB (pv 1) (po_some (pv 2)) (po_some (pe_op op_sub (pe_callB call_len_seq (by rfl) T.len PySem.boot_len (pa_cons (pv 1) pa_nil)) (pv 2)))))))), ?_⟩
    refine ⟨_, rfl, a, ns, rfl, hS, hlen, fun p H1 sm hPB => ?_⟩
    obtain ⟨u, m, e, c, z⟩ := Fr.parted (Fr.shr ns) nz.shr (Fr.rd_shr ns)
    have er : Fr.rnd ns = m := by
      unfold Fr.rnd
      rw [e, Fr.ends_eq c z]
    rw [er] at k
    have hl := shr_len ns
    rw [e] at hPB hl
    have hP := hPB.sq
    rw [whole_len] at hl
    have L : (iv (u ++ m ++ Fr.con u)).length = 2 * u.length + m.length := by rw [List.length_map, whole_len]
    refine ⟨fun n σ H' => ∃ j, n = u.length - j ∧ j ≤ u.length ∧ σ = [some (.ref a), some (.ref p), some (.int ((j : Nat) : Int))] ∧ H' = H1, ⟨_, 0, rfl, Nat.zero_le _, rfl, rfl⟩, ?_⟩
    rintro n σ H' ⟨j, rfl, hj, rfl, rfl⟩
    refine ⟨_, rfl, _, _, rfl, rfl, .inl ⟨by decide, by decide⟩, _, rfl, p, _, rfl, .inr hP, _, _, rfl, rfl, _, rfl, ?_⟩
    have hback : ((iv (u ++ m ++ Fr.con u)).length : Int) - 1 - (j : Int) = ((2 * u.length + m.length - 1 - j : Nat) : Int) ∨ 2 * u.length + m.length = 0 := by
      rw [L]
      by_cases h0 : 2 * u.length + m.length = 0
      · exact .inr h0
      · left; omega
    by_cases hlt : j < u.length
    · refine iteT' (decide_eq_true (by rw [L]; omega)) ?_
      have hb := hback.resolve_right (by omega)
      refine ⟨_, rfl, _, rfl, p, _, _, _, rfl, rfl, hP, atI_nat (iv_get (whole_lo hlt)), ?_⟩
      refine ⟨_, rfl, _, rfl, p, _, rfl, .inr hP, _, _, rfl, rfl, _, rfl, _, _, rfl, rfl, p, _, _, _, rfl, rfl, hP, (by rw [hb]; exact atI_nat (iv_get (whole_hi hlt))), _, rfl, rfl, _, rfl, ?_⟩
      refine iteT' (decide_eq_true (by show V.int _ = V.int (- -_); rw [Int.neg_neg])) ?_
      refine ⟨fun σ' H'' => ∃ j', u.length - (j + 1) = u.length - j' ∧ j' ≤ u.length ∧ σ' = [some (.ref a), some (.ref p), some (.int ((j' : Nat) : Int))] ∧ H'' = H', fun σ' H'' ⟨j', q1, q2, q3, q4⟩ => ⟨_, by omega, j', q1, q2, q3, q4⟩, ?_⟩
      refine ⟨_, rfl, _, _, rfl, rfl, ?_⟩
      exact ⟨j + 1, rfl, hlt, by rfl, rfl⟩
    · have hj2 : j = u.length := by omega
      subst hj2
      have fin : NewB K H' Q (cutV (iv (u ++ m ++ Fr.con u)) (some ((u.length : Nat) : Int)) (some (((iv (u ++ m ++ Fr.con u)).length : Int) - ((u.length : Nat) : Int)))) := by
        have e1 : ((iv (u ++ m ++ Fr.con u)).length : Int) - ((u.length : Nat) : Int) = ((u.length + m.length : Nat) : Int) := by rw [L]; omega
        rw [e1, cut_nat (by rw [L]; omega) (by rw [L]; omega)]
        have e2 : u.length + m.length - u.length = m.length := by omega
        rw [e2]
        have e3 : ((iv (u ++ m ++ Fr.con u)).drop u.length).take m.length = iv m := by
          rw [← List.map_drop, ← List.map_take, whole_cut]
        rw [e3]
        exact fun q H2 s2 h2 => k q H2 (sm.trans s2) h2
      by_cases hm : m = []
      · have hu := z hm
        refine iteF' (decide_eq_false (by rw [L, hm, hu]; simp)) ?_
        refine iteF ?_
        exact ⟨_, rfl, _, rfl, _, rfl, _, rfl, p, _, rfl, .inr hP, _, rfl, _, _, rfl, rfl, _, rfl, p, _, rfl, hPB, fin⟩
      · refine iteT' (decide_eq_true (by have := List.length_pos_iff.mpr hm; rw [L]; omega)) ?_
        have hb := hback.resolve_right (by have := List.length_pos_iff.mpr hm; omega)
        obtain ⟨x, hx⟩ : ∃ x, m.head? = some x := by
          cases m with
          | nil => exact absurd rfl hm
          | cons x t => exact ⟨x, rfl⟩
        obtain ⟨y, hy⟩ : ∃ y, m.getLast? = some y := ⟨_, List.getLast?_eq_some_getLast hm⟩
        have lo := (mid_lo (u := u) hm).trans hx
        have hi := (mid_hi (u := u) hm).trans hy
        refine ⟨_, rfl, _, rfl, p, _, _, _, rfl, rfl, hP, atI_nat (iv_get lo), ?_⟩
        refine ⟨_, rfl, _, rfl, p, _, rfl, .inr hP, _, _, rfl, rfl, _, rfl, _, _, rfl, rfl, p, _, _, _, rfl, rfl, hP, (by rw [hb]; exact atI_nat (iv_get hi)), _, rfl, rfl, _, rfl, ?_⟩
        refine iteF' (decide_eq_false fun q => ?_) ?_
        · have q2 : V.int x = V.int (-y) := q
          injection q2 with q3
          exact c.2 x y hx hy q3
        exact ⟨_, rfl, _, rfl, _, rfl, _, rfl, p, _, rfl, .inr hP, _, rfl, _, _, rfl, rfl, _, rfl, p, _, rfl, hPB, fin⟩
end
end W14
set_option Elab.async false
set_option linter.all false
set_option maxRecDepth 100000
set_option maxHeartbeats 2000000
namespace W14
open PySem L2 PySem.Spec PyProof.Rows WR WS WR WB
abbrev sKinds : Stmt := top 29
theorem pigeon : ∀ (m : Nat) (L : List Int), L.Nodup → (∀ k ∈ L, 1 ≤ k ∧ k ≤ (m : Int)) → L.length ≤ m
  | 0, L, _, h => by
    cases L with
    | nil => simp
    | cons a t =>
      have := h a (by simp)
      omega
  | m + 1, L, nd, h => by
    by_cases hm : ((m + 1 : Nat) : Int) ∈ L
    · have ih := pigeon m (L.erase ((m + 1 : Nat) : Int)) (nd.erase _) fun k hk => by
        have h1 := (nd.mem_erase_iff).mp hk
        have h2 := h k h1.2
        have h3 := h1.1
        omega
      rw [List.length_erase_of_mem hm] at ih
      omega
    · have ih := pigeon m L nd fun k hk => by
        have h2 := h k hk
        have : k ≠ ((m + 1 : Nat) : Int) := fun e => hm (e ▸ hk)
        omega
      omega
theorem sci {w : World} {J : It} {xs : List V} {G : Hp → Prop} (wk : Walk J xs.length G (YAt xs)) {g : TG} {tt : TT} {te : TE} {vs : List Nat} {σ : L2.St} {H1 : Hp} {Q : VK} (v : V → Int)
    (hv : ∀ x ∈ xs, 1 ≤ v x ∧ v x ≤ 26) (hG : ∀ H, Same H1 H → G H)
    (hs : ∀ x, x ∈ xs → ∀ H, Same H1 H → ∀ (Qy : V → Hp → Prop) (Qn : Hp → Prop), Qy (.int (v x)) H →
      g x (wipe σ vs) H fun σ2 H2 => wipe σ2 vs = wipe σ vs ∧ tt σ2 H2 fun b H3 => if b = true then te σ2 H3 Qy else Qn H3)
    (hd : ∀ (D : Addr) (S : Int → Bool) (n : Nat) H', H1 D = none → Same H1 H' → H' D = some (SetO w D S n) → n ≤ 26 → (∀ k, S k = true ↔ ∃ x ∈ xs, k = v x) → Q (.ref D) H') : tSetI w (fun _ H R => R J H) g tt te vs σ H1 Q := by
  intro D hD
  refine ⟨fun i m H => m = xs.length - i ∧ i ≤ xs.length ∧ Same H1 H ∧ ∃ (S : Int → Bool) (L : List Int), H D = some (SetO w D S L.length) ∧ L.Nodup ∧ (∀ k, S k = true ↔ k ∈ L) ∧ ∀ k, k ∈ L ↔ ∃ x ∈ xs.take i, k = v x, ?_, ?_⟩
  · refine ⟨_, rfl, Nat.zero_le _, same_upd hD, fun _ => false, [], by rw [upd_same]; rfl, List.nodup_nil, fun k => by simp, fun k => by simp⟩
  · rintro i m H ⟨rfl, hi, sm, S, L, hS, nd, hL, hm⟩
    have bound : L.length ≤ 26 := pigeon 26 L nd fun k hk => by
      obtain ⟨x, hx, e⟩ := (hm k).mp hk
      have := hv x (List.mem_of_mem_take hx)
      omega
    by_cases hlt : i < xs.length
    · right
      refine ⟨wk.goes i H hlt (hG H sm), fun H' => Same H1 H' ∧ ∃ (S : Int → Bool) (L : List Int), H' D = some (SetO w D S L.length) ∧ L.Nodup ∧ (∀ k, S k = true ↔ k ∈ L) ∧ ∀ k, k ∈ L ↔ ∃ x ∈ xs.take (i + 1), k = v x, ?_, ?_⟩
      · rintro H' ⟨s2, q⟩
        exact ⟨xs.length - (i + 1), by omega, rfl, hlt, s2, q⟩
      · intro x H' hy
        obtain ⟨rfl, hx⟩ := wk.yields i H x H' hlt (hG H sm) hy
        have hmem : x ∈ xs := List.mem_of_getElem? hx
        have et : xs.take (i + 1) = xs.take i ++ [x] := by
          have hx2 : xs[i] = x := (List.getElem?_eq_some_iff.mp hx).2
          rw [List.take_succ_eq_append_getElem hlt, hx2]
        refine hs x hmem H' sm _ _ ?_
        refine ⟨D, v x, S, L.length, rfl, rfl, hS, ?_, ?_⟩
        · have : scanBound = 40000 ∨ 64 < scanBound := by right; decide
          have h64 : 64 < scanBound := by decide
          omega
        refine ⟨fun b o e => by rw [upd_ne (ne_of_none e hD)]; exact sm b o e, fun j => S j || decide (j = v x), if S (v x) = true then L else v x :: L, ?_, ?_, ?_, ?_⟩
        · rw [upd_same]
          by_cases c : S (v x) = true
          · rw [if_pos c, if_pos c]
          · rw [if_neg c, if_neg c]; rfl
        · by_cases c : S (v x) = true
          · rw [if_pos c]; exact nd
          · rw [if_neg c]
            exact List.nodup_cons.mpr ⟨fun h => c ((hL _).mpr h), nd⟩
        · intro k
          rw [Bool.or_eq_true, decide_eq_true_eq]
          by_cases c : S (v x) = true
          · rw [if_pos c, ← hL]
            constructor
            · rintro (h | rfl)
              · exact h
              · exact c
            · exact .inl
          · rw [if_neg c, List.mem_cons, ← hL]
            exact or_comm
        · intro k
          have e : (k ∈ if S (v x) = true then L else v x :: L) ↔ (k = v x ∨ k ∈ L) := by
            by_cases c : S (v x) = true
            · rw [if_pos c]
              constructor
              · exact .inr
              · rintro (rfl | h)
                · exact (hL _).mp c
                · exact h
            · rw [if_neg c, List.mem_cons]
          rw [e, hm, et]
          constructor
          · rintro (rfl | ⟨y, hy, rfl⟩)
            · exact ⟨x, by simp, rfl⟩
            · exact ⟨y, by simp [hy], rfl⟩
          · rintro ⟨y, hy, rfl⟩
            rw [List.mem_append, List.mem_singleton] at hy
            rcases hy with hy | rfl
            · exact .inr ⟨y, hy, rfl⟩
            · exact .inl rfl
    · left
      have hi2 : i = xs.length := by omega
      subst hi2
      rw [List.take_length] at hm
      exact ⟨wk.stops H (hG H sm), hd D S L.length H hD sm hS bound fun k => (hL k).trans (hm k)⟩
def kindsOk (ns ks : List Int) : Prop := ks.Pairwise (· < ·) ∧ ∀ k : Int, k ∈ ks ↔ ∃ x ∈ ns, k = (x.natAbs : Int)
/-- every letter of a kind from 1 to 26 -/
def Lts (ns : List Int) : Prop := ∀ x ∈ ns, 1 ≤ x.natAbs ∧ x.natAbs ≤ 26
def spKinds (K : PySem.W.Frag) : Sp := fun vs H Q _ => ∃ (a : Addr) (ns : List Int), vs = [.ref a] ∧ SqE K H a (iv ns) ∧ ns.length ≤ 1000 ∧ Lts ns ∧ ∀ ks, kindsOk ns ks → NewT K H Q (iv ks)
structure TxB (mg : Str → Option Value) : Prop where
  sorted : mg "sorted" = none
  abs : mg "abs" = none
section
variable {P : Program} {w : World} {K : PySem.W.Frag} {mg : Str → Option Value} {base : Heap}
theorem scKinds : FnScope ["letters", "letter"] ["letters"] (defScope sKinds) := ⟨rfl, rfl, rfl, by decide +kernel, rfl, by decide +kernel, by decide +kernel⟩
theorem ok_kinds {f : Addr} {fd : FuncData} (F : Fun K "kinds_of" "kinds_of" sKinds f fd) (T : TxA mg) (T2 : TxB mg) : FnOk P w K mg base CX0 1 f fd ["letters"] (spKinds K) := by
  refine F.ok scKinds (fun vs H Q E h => ?_) (fun cdv A outer s H vs Q E hr h => ?_)
  · obtain ⟨a, ns, rfl, _⟩ := h
    rfl
  · obtain ⟨a, ns, rfl, hS, hlen, hk, k⟩ := h
    have fin : ∀ (D : Addr) (S : Int → Bool) (n : Nat) H', H D = none → Same H H' → H' D = some (SetO w D S n) → n ≤ 26 → (∀ k, S k = true ↔ ∃ x ∈ iv ns, k = (match x with | .int i => (i.natAbs : Int) | _ => 0)) →
        rSortedSet w [.ref D] H' fun x H2 => ∃ p ys, [x] = [V.ref p] ∧ ((SqL K H2 p ys ∧ ∀ l, H2 l = none → Q (.ref l) (L2.upd H2 l (.tup ys))) ∨ (SqT K H2 p ys ∧ Q (.ref p) H2)) := by
      intro D S n H' hD sm hS hn hm
      refine ⟨D, S, n, rfl, hS, by omega, fun ks p up mem _ hp => ?_⟩
      refine ⟨p, _, rfl, .inl ⟨SqL.of upd_same, fun l hl => ?_⟩⟩
      refine k ks ⟨up, fun j => ?_⟩ l _ ((sm.trans (same_upd hp)).trans (same_upd hl)) (SqT.of upd_same)
      rw [mem, hm]
      constructor
      · rintro ⟨x, hx, e⟩
        obtain ⟨i, hi, rfl⟩ := List.mem_map.mp hx
        exact ⟨i, hi, e⟩
      · rintro ⟨i, hi, e⟩
        exact ⟨_, List.mem_map_of_mem hi, e⟩
    have turn : ∀ x, x ∈ iv ns → ∀ H2, Same H H2 → ∀ (Qy : V → Hp → Prop) (Qn : Hp → Prop), Qy (.int (match x with | .int i => (i.natAbs : Int) | _ => 0)) H2 →
        gName 1 x (wipe [some (.ref a), none] [1]) H2 fun σ2 H2 => wipe σ2 [1] = wipe [some (.ref a), none] [1] ∧ tYes σ2 H2 fun b H3 => if b = true then tCB (fun xs H Q => ∃ i, xs = [.int i] ∧ Q (.int (if i < 0 then -i else i)) H) (tCons (tVar 1) tNil) σ2 H3 Qy else Qn H3 := by
      intro x hx H2 s2 Qy Qn ky
      obtain ⟨i, hi, rfl⟩ := List.mem_map.mp hx
      refine ⟨rfl, yes_te ⟨_, rfl, i, rfl, ?_⟩⟩
      have e : (if i < 0 then -i else i) = (i.natAbs : Int) := by split <;> omega
      rw [e]
      exact ky
    have bd : ∀ x ∈ iv ns, 1 ≤ (match x with | .int i => (i.natAbs : Int) | _ => 0) ∧ (match x with | .int i => (i.natAbs : Int) | _ => 0) ≤ 26 := by
      intro x hx
      obtain ⟨i, hi, rfl⟩ := List.mem_map.mp hx
      have := hk i hi
      show 1 ≤ (i.natAbs : Int) ∧ (i.natAbs : Int) ≤ 26
      omega
    rcases hS with hS | hS
    · refine ⟨_, pss_one (ps_ret (pe_callTy call_tuple_of (by rfl) T.tuple (by decide +kernel) (pa_cons (pe_callB (cr_sortedSet rfl) (by rfl) T2.sorted (by decide +kernel) (pa_cons (pe_setI (own := [("letter", 1)]) (g := gName 1) (tt := tYes) rfl scKinds.nd (pi_list (pv 0))
        (blkOk_by (N := ["letters", "letter"]) (sc := defScope sKinds) (by decide +kernel)) (fun _ _ _ _ _ => pg_name (i := 1) scKinds.nd rfl (Or.inl rfl)) (fun _ _ _ _ _ => pts_nil)
        (fun _ _ _ _ _ => pe_callB call_abs (by rfl) T2.abs (by decide +kernel) (pa_cons (pv 1) pa_nil))) pa_nil)) pa_nil))), ?_⟩
      refine ⟨_, rfl, a, rfl, ⟨_, hS⟩, ?_⟩
      exact sci (walk_list (xs := iv ns)) _ bd (fun H2 s2 => s2.seq hS) turn fin
    · refine ⟨_, pss_one (ps_ret (pe_callTy call_tuple_of (by rfl) T.tuple (by decide +kernel) (pa_cons (pe_callB (cr_sortedSet rfl) (by rfl) T2.sorted (by decide +kernel) (pa_cons (pe_setI (own := [("letter", 1)]) (g := gName 1) (tt := tYes) rfl scKinds.nd (pi_tup (pv 0))
        (blkOk_by (N := ["letters", "letter"]) (sc := defScope sKinds) (by decide +kernel)) (fun _ _ _ _ _ => pg_name (i := 1) scKinds.nd rfl (Or.inl rfl)) (fun _ _ _ _ _ => pts_nil)
        (fun _ _ _ _ _ => pe_callB call_abs (by rfl) T2.abs (by decide +kernel) (pa_cons (pv 1) pa_nil))) pa_nil)) pa_nil))), ?_⟩
      refine ⟨_, rfl, a, rfl, ⟨_, hS⟩, ?_⟩
      exact sci (walk_tup (xs := iv ns)) _ bd (fun H2 s2 => WR.Same.seqT s2 hS) turn fin
end
end W14
set_option Elab.async false
set_option linter.all false
set_option maxRecDepth 100000
set_option maxHeartbeats 2000000
namespace W14
open PySem L2 PySem.Spec PyProof.Rows WR WB
abbrev sIsInt : Stmt := top 16
abbrev sWithin : Stmt := top 17
abbrev sLetter : Stmt := top 18
abbrev sListed : Stmt := top 19
abbrev sNeedW : Stmt := top 38
abbrev sFew : Stmt := top 40
/-! ### values and their classes -/
inductive Typ (H : Hp) : V → String → Prop
  | int (i : Int) : Typ H (.int i) "int"
  | bl (b : Bool) : Typ H (.bl b) "bool"
  | str (z : Str) : Typ H (.str z) "str"
  | non : Typ H .non "NoneType"
  | lst {p : Addr} {xs : List V} (e : H p = some (.lst xs)) : Typ H (.ref p) "list"
  | tup {p : Addr} {xs : List V} (e : H p = some (.tup xs)) : Typ H (.ref p) "tuple"
  | dct {p : Addr} {kvs : List (Key × V)} (e : H p = some (.dK kvs)) : Typ H (.ref p) "dict"
def isI : V → Bool
  | .int _ => true
  | _ => false
def isB : V → Bool
  | .bl _ => true
  | _ => false
def isS : V → Bool
  | .str _ => true
  | _ => false
theorem Typ.same {H H' : Hp} {x : V} {t : String} (h : Typ H x t) (s : Same H H') : Typ H' x t := by
  cases h with
  | int i => exact .int i
  | bl b => exact .bl b
  | str z => exact .str z
  | non => exact .non
  | lst e => exact .lst (s _ _ e)
  | tup e => exact .tup (s _ _ e)
  | dct e => exact .dct (s _ _ e)
theorem Typ.ty {K : PySem.W.Frag} {H : Hp} {x : V} {t : String} (h : Typ H x t) : TyX K H x (.type t) := by
  cases h with
  | int i => exact .base (.int i)
  | bl b => exact .base (.bl b)
  | str z => exact .base (.str z)
  | non => exact .base .non
  | lst e => exact .base (.lst e)
  | tup e => exact .base (.tup e)
  | dct e => exact .base (.dK e)
theorem Typ.kInt {K : PySem.W.Frag} {H : Hp} {x : V} {t : String} (h : Typ H x t) : PySem.W.kitOne K (.type t) (.type "int") = some (isI x || isB x) := by
  cases h <;> first | exact kit_ty (show kitB _ _ = some true by decide +kernel) | exact kit_ty (show kitB _ _ = some false by decide +kernel)
theorem Typ.kBool {K : PySem.W.Frag} {H : Hp} {x : V} {t : String} (h : Typ H x t) : PySem.W.kitOne K (.type t) (.type "bool") = some (isB x) := by
  cases h <;> first | exact kit_ty (show kitB _ _ = some true by decide +kernel) | exact kit_ty (show kitB _ _ = some false by decide +kernel)
theorem Typ.kStr {K : PySem.W.Frag} {H : Hp} {x : V} {t : String} (h : Typ H x t) : PySem.W.kitOne K (.type t) (.type "str") = some (isS x) := by
  cases h <;> first | exact kit_ty (show kitB _ _ = some true by decide +kernel) | exact kit_ty (show kitB _ _ = some false by decide +kernel)
theorem Typ.kTup {K : PySem.W.Frag} {H : Hp} {x : V} {t : String} (h : Typ H x t) : PySem.W.kitOne K (.type t) (.type "tuple") = some (t == "tuple") := by
  cases h <;> first | exact kit_ty (show kitB _ _ = some true by decide +kernel) | exact kit_ty (show kitB _ _ = some false by decide +kernel)
theorem Typ.kList {K : PySem.W.Frag} {H : Hp} {x : V} {t : String} (h : Typ H x t) : PySem.W.kitOne K (.type t) (.type "list") = some (t == "list") := by
  cases h <;> first | exact kit_ty (show kitB _ _ = some true by decide +kernel) | exact kit_ty (show kitB _ _ = some false by decide +kernel)
theorem Typ.kSeq {K : PySem.W.Frag} {H : Hp} {x : V} {t : String} (h : Typ H x t) : PySem.W.kitAny K (.type t) [.type "list", .type "tuple"] = some (t == "list" || t == "tuple") := by
  refine kitAny_cons h.kList (fun e => ?_) (fun e => by rw [e]; rfl)
  refine kitAny_cons h.kTup (fun e2 => ?_) (fun e2 => by rw [e2]; simp)
  rw [kitAny_nil, e, e2]
  rfl

def spIsInt : Sp := fun vs H Q _ => ∃ (x : V) (t : String), vs = [x] ∧ Typ H x t ∧ Q (.bl (isI x)) H
structure TxI (mg : Str → Option Value) : Prop where
  isin : mg "isinstance" = none
  int : mg "int" = none
  bool : mg "bool" = none
  str : mg "str" = none
  list : mg "list" = none
  tuple : mg "tuple" = none
section
variable {P : Program} {w : World} {K : PySem.W.Frag} {mg : Str → Option Value} {base : Heap}
theorem scIsInt : FnScope ["value"] ["value"] (defScope sIsInt) := ⟨rfl, rfl, rfl, by decide +kernel, rfl, by decide +kernel, by decide +kernel⟩
theorem ok_isInt {f : Addr} {fd : FuncData} (F : Fun K "is_integer" "is_integer" sIsInt f fd) (T : TxI mg) : FnOk P w K mg base CX0 1 f fd ["value"] spIsInt := by
  refine F.ok scIsInt (fun vs H Q E h => ?_) (fun cdv A outer s H vs Q E hr h => ?_)
  · obtain ⟨x, t, rfl, _⟩ := h
    rfl
  · obtain ⟨x, t, rfl, ht, k⟩ := h
    refine ⟨_, pss_one (ps_ret (pe_and (pe_callB call_isi (by rfl) T.isin (by decide +kernel) (pa_cons (pv 0) (pa_cons (pe_bltn (v := .ty "int") (by rfl) T.int (by decide +kernel) rfl) pa_nil)))
      (pe_one (pe_not (pe_callB call_isi (by rfl) T.isin (by decide +kernel) (pa_cons (pv 0) (pa_cons (pe_bltn (v := .ty "bool") (by rfl) T.bool (by decide +kernel) rfl) pa_nil))))))), ?_⟩
    refine ⟨_, rfl, x, _, _, _, _, rfl, .ty _, ht.ty, ht.kInt, _, rfl, ?_⟩
    refine ite2 (fun hi => ?_) (fun hn => ?_)
    · refine ⟨_, rfl, x, _, _, _, _, rfl, .ty _, ht.ty, ht.kBool, _, rfl, ?_⟩
      have e : (!isB x) = isI x := by cases ht <;> first | rfl | exact absurd hi Bool.false_ne_true
      show Q (.bl (!isB x)) H
      rw [e]
      exact k
    · have e : isI x = false := by cases ht <;> first | rfl | exact absurd rfl hn
      show Q (.bl false) H
      rw [← e]
      exact k
end
def Bnd (v : V) : Prop := v = .non ∨ ∃ i, v = .int i
def geB (i : Int) : V → Bool
  | .int a => decide (a ≤ i)
  | _ => true
def leB (i : Int) : V → Bool
  | .int b => decide (i ≤ b)
  | _ => true
def within : V → V → V → Bool
  | .int i, l, m => geB i l && leB i m
  | _, _, _ => false
def spWithin : Sp := fun vs H Q _ => ∃ (x l m : V) (t : String), vs = [x, l, m] ∧ Typ H x t ∧ Bnd l ∧ Bnd m ∧ Q (.bl (within x l m)) H
def letterB : V → Bool
  | .int i => (decide (-26 ≤ i) && decide (i ≤ 26)) && !decide (i = 0)
  | _ => false
def spLetter : Sp := fun vs H Q _ => ∃ (x : V) (t : String), vs = [x] ∧ Typ H x t ∧ Q (.bl (letterB x)) H
def spListed : Sp := fun vs H Q _ => ∃ (x : V) (t : String), vs = [x] ∧ Typ H x t ∧ ∀ H', Same H H' → Q (.bl (t == "list" || t == "tuple")) H'
structure TxC (mg : Str → Option Value) : Prop where
  kind : ∃ t, mg "MOST_KIND" = some (.int 26 t)
  all : mg "all" = none
section
variable {P : Program} {w : World} {K : PySem.W.Frag} {mg : Str → Option Value} {base : Heap}
theorem scWithin : FnScope ["value", "least", "most"] ["value", "least", "most"] (defScope sWithin) := ⟨rfl, rfl, rfl, by decide +kernel, rfl, by decide +kernel, by decide +kernel⟩
theorem ok_within {f : Addr} {fd : FuncData} (F : Fun K "is_within" "is_within" sWithin f fd) (GI : Cal P w K mg base "is_integer" 1 ["value"] spIsInt) : FnOk P w K mg base CX0 2 f fd ["value", "least", "most"] spWithin := by
  refine F.ok scWithin (fun vs H Q E h => ?_) (fun cdv A outer s H vs Q E hr h => ?_)
  · obtain ⟨x, l, m, t, rfl, _⟩ := h
    rfl
  · obtain ⟨x, l, m, t, rfl, ht, hl, hm, k⟩ := h
    refine ⟨_, pss_cons (ps_if (pt_not (pt_val (pe_cal GI hr (by decide) (by rfl) (pa_cons (pv 0) pa_nil)))) (pss_one (ps_ret pe_bl)) pss_nil)
      (pss_one (ps_ret (pe_and (pe_or (pe_cmpR op_isN (pv 1) pe_non (nomark _)) (pe_one (pe_cmpR op_ge (pv 0) (pv 1) (nomark _)))) (pe_one (pe_or (pe_cmpR op_isN (pv 2) pe_non (nomark _)) (pe_one (pe_cmpR op_le (pv 0) (pv 2) (nomark _)))))))), ?_⟩
    refine ⟨_, rfl, x, t, rfl, ht, _, rfl, ?_⟩
    refine ite2 (fun hn => ?_) (fun hi => ?_)
    · have e : within x l m = false := by cases ht <;> first | rfl | exact absurd hn Bool.false_ne_true
      rw [e] at k
      exact k
    · obtain ⟨i, rfl⟩ : ∃ i, x = .int i := by cases ht <;> first | exact ⟨_, rfl⟩ | exact absurd rfl hi
      -- the second half, whatever the first one says
      have half : ∀ H1 : Hp, H1 = H → ∀ Q1 : VK, Q1 (.bl (leB i m)) H1 → tOrV (tOp (fun x y H Q => y = .non ∧ Q (.bl (decide (x = .non))) H) (tVar 2) (tC .non)) (tOp (rI0 fun i j => .bl (decide (i ≤ j))) (tVar 0) (tVar 2)) [some (.int i), some l, some m] H1 Q1 := by
        intro H1 _ Q1 q
        rcases hm with rfl | ⟨b, rfl⟩
        · exact ⟨_, rfl, rfl, _, rfl, iteT q⟩
        · exact ⟨_, rfl, rfl, _, rfl, iteF ⟨_, rfl, _, rfl, _, _, rfl, rfl, q⟩⟩
      rcases hl with rfl | ⟨a, rfl⟩
      · refine ⟨_, rfl, rfl, _, rfl, iteT ⟨_, rfl, iteT (half H rfl _ ?_)⟩⟩
        exact k
      · refine ⟨_, rfl, rfl, _, rfl, iteF ⟨_, rfl, _, rfl, _, _, rfl, rfl, _, rfl, ?_⟩⟩
        refine ite2 (fun hg => half H rfl _ ?_) (fun hg => ?_)
        · have e : within (.int i) (.int a) m = leB i m := by
            show (decide (a ≤ i) && leB i m) = leB i m
            rw [hg]
            rfl
          rw [e] at k
          exact k
        · have e : within (.int i) (.int a) m = false := by
            show (decide (a ≤ i) && leB i m) = false
            rw [Bool.eq_false_iff.mpr hg]
            rfl
          rw [e] at k
          exact k
theorem scLetter : FnScope ["value"] ["value"] (defScope sLetter) := ⟨rfl, rfl, rfl, by decide +kernel, rfl, by decide +kernel, by decide +kernel⟩
theorem ok_letter {f : Addr} {fd : FuncData} (F : Fun K "is_letter" "is_letter" sLetter f fd) (GW : Cal P w K mg base "is_within" 2 ["value", "least", "most"] spWithin) (T : TxC mg) : FnOk P w K mg base CX0 3 f fd ["value"] spLetter := by
  refine F.ok scLetter (fun vs H Q E h => ?_) (fun cdv A outer s H vs Q E hr h => ?_)
  · obtain ⟨x, t, rfl, _⟩ := h
    rfl
  · obtain ⟨x, t, rfl, ht, k⟩ := h
    obtain ⟨tk, mK⟩ := T.kind
    refine ⟨_, pss_one (ps_ret (pe_and (pe_cal GW hr (by decide) (by rfl) (pa_cons (pv 0) (pa_cons (pe_un un_neg (pe_glob (v := .int 26) (by rfl) mK ⟨_, rfl⟩)) (pa_cons (pe_glob (v := .int 26) (by rfl) mK ⟨_, rfl⟩) pa_nil)))) (pe_one (pe_cmpR op_ne (pv 0) pe_int (nomark _))))), ?_⟩
    refine ⟨_, rfl, _, rfl, x, _, _, t, rfl, ht, .inr ⟨_, rfl⟩, .inr ⟨_, rfl⟩, _, rfl, ?_⟩
    refine ite2 (fun hi => ?_) (fun hn => ?_)
    · obtain ⟨i, rfl⟩ : ∃ i, x = .int i := by cases ht <;> first | exact ⟨_, rfl⟩ | exact absurd hi Bool.false_ne_true
      refine ⟨_, rfl, rfl, ?_⟩
      have e : letterB (.int i) = !decide (V.int i = V.int 0) := by
        have h2 : (decide (-26 ≤ i) && decide (i ≤ 26)) = true := hi
        show ((decide (-26 ≤ i) && decide (i ≤ 26)) && !decide (i = 0)) = _
        rw [h2, Bool.true_and]
        congr 1
        by_cases h0 : i = 0
        · subst h0; rfl
        · rw [decide_eq_false h0, decide_eq_false (fun q => h0 (by injection q))]
      rw [e] at k
      exact k
    · have e : letterB x = false := by
        cases ht with
        | int i =>
          have h2 : (decide (-26 ≤ i) && decide (i ≤ 26)) = false := Bool.eq_false_iff.mpr hn
          show ((decide (-26 ≤ i) && decide (i ≤ 26)) && !decide (i = 0)) = false
          rw [h2]
          rfl
        | _ => rfl
      rw [e] at k
      exact k
theorem scListed : FnScope ["value"] ["value"] (defScope sListed) := ⟨rfl, rfl, rfl, by decide +kernel, rfl, by decide +kernel, by decide +kernel⟩
theorem ok_listed {f : Addr} {fd : FuncData} (F : Fun K "is_listed" "is_listed" sListed f fd) (T : TxI mg) : FnOk P w K mg base CX0 1 f fd ["value"] spListed := by
  refine F.ok scListed (fun vs H Q E h => ?_) (fun cdv A outer s H vs Q E hr h => ?_)
  · obtain ⟨x, t, rfl, _⟩ := h
    rfl
  · obtain ⟨x, t, rfl, ht, k⟩ := h
    refine ⟨_, pss_one (ps_ret (pe_callB call_isiT (by rfl) T.isin (by decide +kernel) (pa_cons (pv 0) (pa_cons (pe_tup (pa_cons (pe_bltn (v := .ty "list") (by rfl) T.list (by decide +kernel) rfl) (pa_cons (pe_bltn (v := .ty "tuple") (by rfl) T.tuple (by decide +kernel) rfl) pa_nil))) pa_nil)))), ?_⟩
    refine ⟨_, rfl, (by show 2 ≤ sizeLine; decide), fun p hp => ?_⟩
    have sm : Same H (upd H p (.tup [.ty "list", .ty "tuple"])) := fun b o e => by rw [upd_ne (ne_of_none e hp)]; exact e
    exact ⟨x, p, _, _, _, _, rfl, upd_same, .cons (.ty _) (.cons (.ty _) .nil), (ht.same sm).ty, (ht.same sm).kSeq, k _ sm⟩
end
end W14
set_option Elab.async false
set_option linter.all false
set_option maxRecDepth 100000
set_option maxHeartbeats 2000000
namespace W14
open PySem L2 PySem.Spec PyProof.Rows WR WB
abbrev sInit : Stmt := inClass (top 41) 0
theorem SqL.tyx {K : PySem.W.Frag} {H : Hp} {a : Addr} {xs : List V} (h : SqL K H a xs) : TyX K H (.ref a) (.type "list") := by
  rcases h with h | ⟨o, its, n, e, c, _⟩
  · rcases h with h | ⟨o, h⟩
    · exact .base (.lst h)
    · exact .base (.frz h)
  · exact .kList e c
theorem SqT.tyx {K : PySem.W.Frag} {H : Hp} {a : Addr} {xs : List V} (h : SqT K H a xs) : TyX K H (.ref a) (.type "tuple") := by
  rcases h with h | ⟨o, its, n, e, c, _⟩
  · rcases h with h | ⟨o, h⟩
    · exact .base (.tup h)
    · exact .fTuple h
  · exact .kTuple e c
def spListE (K : PySem.W.Frag) : Sp := fun vs H Q _ => ∃ (a : Addr) (xs : List V), vs = [.ref a] ∧ SqE K H a xs ∧ ∀ H', Same H H' → Q (.bl true) H'
def spFew : Sp := fun vs H Q _ => ∃ n : Int, vs = [.int n] ∧ n ≤ 500 ∧ Q .non H
structure TxW (K : PySem.W.Frag) (mg : Str → Option Value) (C : Addr) : Prop where
  cl : Cls K C
  nL : NoAttr K C "letters"
  nN : NoAttr K C "length"
  nK : NoAttr K C "kinds"
  nS : NoAttr K C "is_short"
  nR : NoAttr K C "is_short_round"
  ca : PySem.W.findIn K (.ref C) "__class__" = some (some (.builtin "object.__class__"))
  cn : PySem.W.specialIn K (.builtin "object.__class__") "__get__" = some (some (.builtin "getset_descriptor.__get__"))
  ct : PySem.W.takesIn K (.builtin "object.__class__") = some true
  cm : PySem.W.mroIn K C (.type "object") = some true
  mgW : mg "Word" = some (.ref C)
  most : ∃ t, mg "MOST_LETTERS" = some (.int 500 t)
  isin : mg "isinstance" = none
  all : mg "all" = none
/-! ### a word -/
def wf (tl : Addr) (n : Nat) (tk : Addr) (b1 b2 : Bool) : List (Str × V) := [("letters", .ref tl), ("length", .int (n : Int)), ("kinds", .ref tk), ("is_short", .bl b1), ("is_short_round", .bl b2)]
theorem ne1 : ¬ (("letters" : Str) = "length") := by decide +kernel
theorem ne2 : ¬ (("letters" : Str) = "kinds") := by decide +kernel
theorem ne3 : ¬ (("letters" : Str) = "is_short") := by decide +kernel
theorem ne4 : ¬ (("letters" : Str) = "is_short_round") := by decide +kernel
theorem ne5 : ¬ (("length" : Str) = "kinds") := by decide +kernel
theorem ne6 : ¬ (("length" : Str) = "is_short") := by decide +kernel
theorem ne7 : ¬ (("length" : Str) = "is_short_round") := by decide +kernel
theorem ne8 : ¬ (("kinds" : Str) = "is_short") := by decide +kernel
theorem ne9 : ¬ (("kinds" : Str) = "is_short_round") := by decide +kernel
theorem ne10 : ¬ (("is_short" : Str) = "is_short_round") := by decide +kernel
theorem lk_eq {k : Str} {v : V} {t : List (Str × V)} : List.lookup k ((k, v) :: t) = some v := by
  rw [List.lookup_cons, beq_self_eq_true k]
theorem lk_ne {k g : Str} {v : V} {t : List (Str × V)} (h : ¬ k = g) : List.lookup k ((g, v) :: t) = List.lookup k t := by
  rw [List.lookup_cons, show (k == g) = false from beq_eq_false_iff_ne.mpr h]
theorem pf_ne {k g : Str} {v x : V} {t : List (Str × V)} (h : ¬ g = k) : putF k v ((g, x) :: t) = (g, x) :: putF k v t := by
  show (if g = k then _ else _) = _
  rw [if_neg h]
theorem wf_letters {tl tk n b1 b2} : (wf tl n tk b1 b2).lookup ("letters" : Str) = some (.ref tl) := lk_eq
theorem wf_length {tl tk n b1 b2} : (wf tl n tk b1 b2).lookup ("length" : Str) = some (.int (n : Int)) := by
  unfold wf
  rw [lk_ne fun e => ne1 e.symm, lk_eq]
theorem wf_kinds {tl tk n b1 b2} : (wf tl n tk b1 b2).lookup ("kinds" : Str) = some (.ref tk) := by
  unfold wf
  rw [lk_ne fun e => ne2 e.symm, lk_ne fun e => ne5 e.symm, lk_eq]
theorem wf_short {tl tk n b1 b2} : (wf tl n tk b1 b2).lookup ("is_short" : Str) = some (.bl b1) := by
  unfold wf
  rw [lk_ne fun e => ne3 e.symm, lk_ne fun e => ne6 e.symm, lk_ne fun e => ne8 e.symm, lk_eq]
theorem wf_round {tl tk n b1 b2} : (wf tl n tk b1 b2).lookup ("is_short_round" : Str) = some (.bl b2) := by
  unfold wf
  rw [lk_ne fun e => ne4 e.symm, lk_ne fun e => ne7 e.symm, lk_ne fun e => ne9 e.symm, lk_ne fun e => ne10 e.symm, lk_eq]
theorem wf_no {tl tk n b1 b2} {m : Str} (h1 : ¬ m = "letters") (h2 : ¬ m = "length") (h3 : ¬ m = "kinds") (h4 : ¬ m = "is_short") (h5 : ¬ m = "is_short_round") : (wf tl n tk b1 b2).lookup m = none := by
  unfold wf
  rw [lk_ne h1, lk_ne h2, lk_ne h3, lk_ne h4, lk_ne h5]
  rfl
def WordAt (K : PySem.W.Frag) (C : Addr) (H : Hp) (p : Addr) (ns : List Int) : Prop :=
  ∃ (dx tl tk : Addr) (ks : List Int), H p = some (.ins C dx (wf tl ns.length tk (decide (Fr.shr ns = ns)) (decide (Fr.rnd ns = ns)))) ∧ SqB K H tl (iv ns) ∧ SqT K H tk (iv ks) ∧ kindsOk ns ks
theorem WordAt.same {K : PySem.W.Frag} {C : Addr} {H H' : Hp} {p : Addr} {ns : List Int} (h : WordAt K C H p ns) (s : Same H H') : WordAt K C H' p ns := by
  obtain ⟨dx, tl, tk, ks, h1, h2, h3, h4⟩ := h
  exact ⟨dx, tl, tk, ks, s _ _ h1, SqB.same s h2, WR.Same.seqT s h3, h4⟩
theorem Lts.nz {ns : List Int} (h : Lts ns) : Fr.NZ ns := fun a ha => by
  have := h a ha
  omega
def spInit (K : PySem.W.Frag) (C : Addr) : Sp := fun vs H Q _ => ∃ (H0 : Hp) (p dx a : Addr) (ns : List Int), vs = [.ref p, .ref a] ∧ Same H0 H ∧ H0 p = none ∧ H p = some (.ins C dx []) ∧ SqW K H0 a (iv ns) ∧ ns.length ≤ 500 ∧ Lts ns ∧
  ∀ H', Same H0 H' → WordAt K C H' p ns → Q .non H'
/-! ### tuples of ints held against one another -/
theorem dp_iv {K : PySem.W.Frag} {H : Hp} : ∀ ns : List Int, DpAll K H (iv ns) (ns.map PyData.int)
  | [] => .nil
  | n :: r => .cons (.int n) (dp_iv r)
theorem eqvAll_ints : ∀ ns ms : List Int, PyData.eqvAll (ns.map PyData.int) (ms.map PyData.int) = decide (ns = ms)
  | [], [] => rfl
  | [], b :: r => rfl
  | a :: r, [] => rfl
  | a :: r, b :: q => by
    have ih := eqvAll_ints r q
    show (PyData.eqv (.int a) (.int b) && PyData.eqvAll (r.map PyData.int) (q.map PyData.int)) = _
    rw [ih]
    have : PyData.eqv (.int a) (.int b) = decide (a = b) := by
      simp only [PyData.eqv]
      exact Bool.eq_iff_iff.mpr (by simp)
    rw [this]
    by_cases e1 : a = b <;> by_cases e2 : r = q <;> simp [e1, e2]
theorem eqv_ints (ns ms : List Int) : PyData.eqv (.tuple (ns.map .int)) (.tuple (ms.map .int)) = decide (ns = ms) := by
  show PyData.eqvAll _ _ = _
  exact eqvAll_ints ns ms
theorem lay_ints : ∀ ns : List Int, PyData.canLayAll0 (ns.map PyData.int) = true ∧ PyData.depthAll (ns.map PyData.int) = 0
  | [] => ⟨rfl, rfl⟩
  | n :: r => by
    obtain ⟨h1, h2⟩ := lay_ints r
    exact ⟨by simp [PyData.canLayAll0, PyData.canLay0, h1], by simp [PyData.depthAll, PyData.depth, h2]⟩
theorem shaped_ints (ns : List Int) : SeqAt.shaped (.tuple (ns.map .int)) = true := by
  obtain ⟨h1, h2⟩ := lay_ints ns
  simp [SeqAt.shaped, PyData.canLay0, PyData.depth, h1, h2]
section
variable {P : Program} {w : World} {K : PySem.W.Frag} {mg : Str → Option Value} {base : Heap}
theorem ok_listE {f : Addr} {fd : FuncData} (F : Fun K "is_listed" "is_listed" sListed f fd) (T : TxI mg) : FnOk P w K mg base CX0 1 f fd ["value"] (spListE K) := by
  refine F.ok scListed (fun vs H Q E h => ?_) (fun cdv A outer s H vs Q E hr h => ?_)
  · obtain ⟨a, xs, rfl, _⟩ := h
    rfl
  · obtain ⟨a, xs, rfl, hS, k⟩ := h
    refine ⟨_, pss_one (ps_ret (pe_callB call_isiT (by rfl) T.isin (by decide +kernel) (pa_cons (pv 0) (pa_cons (pe_tup (pa_cons (pe_bltn (v := .ty "list") (by rfl) T.list (by decide +kernel) rfl) (pa_cons (pe_bltn (v := .ty "tuple") (by rfl) T.tuple (by decide +kernel) rfl) pa_nil))) pa_nil)))), ?_⟩
    refine ⟨_, rfl, (by show 2 ≤ sizeLine; decide), fun p hp => ?_⟩
    have sm : Same H (upd H p (.tup [.ty "list", .ty "tuple"])) := same_upd hp
    rcases hS.same sm with hS | hS
    · exact ⟨_, p, _, _, _, _, rfl, upd_same, .cons (.ty _) (.cons (.ty _) .nil), SqL.tyx hS, (by rfl), k _ sm⟩
    · exact ⟨_, p, _, _, _, _, rfl, upd_same, .cons (.ty _) (.cons (.ty _) .nil), SqT.tyx hS, (Typ.tup (H := fun _ => some (.tup [])) (p := a) (xs := []) rfl).kSeq, k _ sm⟩
theorem scFew : FnScope ["many"] ["many"] (defScope sFew) := ⟨rfl, rfl, rfl, by decide +kernel, rfl, by decide +kernel, by decide +kernel⟩
theorem ok_few {C : Addr} {f : Addr} {fd : FuncData} (F : Fun K "need_few_letters" "need_few_letters" sFew f fd) (T : TxW K mg C) : FnOk P w K mg base CX0 1 f fd ["many"] spFew := by
  refine F.ok scFew (fun vs H Q E h => ?_) (fun cdv A outer s H vs Q E hr h => ?_)
  · obtain ⟨n, rfl, _⟩ := h
    rfl
  · obtain ⟨n, rfl, hn, k⟩ := h
    obtain ⟨tk, mM⟩ := T.most
    refine ⟨_, pss_one (ps_if (pt_cmpR op_gt (pv 0) (pe_glob (v := .int 500) (by rfl) mM ⟨_, rfl⟩) (nomark _)) (pss_one ps_never) pss_nil), ?_⟩
    refine ⟨_, rfl, _, _, rfl, rfl, _, rfl, ?_⟩
    exact iteF' (decide_eq_false (by omega)) k
end
end W14
set_option Elab.async false
set_option linter.all false
set_option maxRecDepth 100000
set_option maxHeartbeats 2000000
namespace W14
open PySem L2 PySem.Spec PyProof.Rows WR WB
theorem SqT.put {K : PySem.W.Frag} {H : Hp} {a p C dx : Addr} {fs : List (Str × V)} {o : HO} {xs : List V} (h : SqT K H a xs) (hp : H p = some (.ins C dx fs)) : SqT K (L2.upd H p o) a xs := by
  rcases h with h | h
  · left
    have ne : ∀ u, H a = some u → (∀ C dx fs, u ≠ .ins C dx fs) → a ≠ p := fun u e q z => by
      rw [z, hp] at e
      exact q _ _ _ (Option.some.inj e).symm
    rcases h with h | ⟨o', h⟩
    · exact .inl (by rw [upd_ne (ne _ h fun _ _ _ => by intro z; cases z)]; exact h)
    · exact .inr ⟨o', by rw [upd_ne (ne _ h fun _ _ _ => by intro z; cases z)]; exact h⟩
  · exact .inr h
theorem SqB.put {K : PySem.W.Frag} {H : Hp} {a p C dx : Addr} {fs : List (Str × V)} {o : HO} {xs : List V} (h : SqB K H a xs) (hp : H p = some (.ins C dx fs)) : SqB K (L2.upd H p o) a xs := by
  obtain ⟨h1, h2⟩ := h
  refine ⟨SqT.put h1 hp, ?_⟩
  obtain ⟨o', u, e, d⟩ := h2
  exact ⟨o', u, by rw [upd_ne (fun z => by rw [z, hp] at e; cases e)]; exact e, d⟩
theorem same_put {H0 H : Hp} {p : Addr} {o : HO} (s : Same H0 H) (hp : H0 p = none) : Same H0 (L2.upd H p o) := fun b u e => by
  have : b ≠ p := fun z => by rw [z, hp] at e; cases e
  rw [upd_ne this]
  exact s _ _ e
theorem letter_ok {i : Int} (h : 1 ≤ i.natAbs ∧ i.natAbs ≤ 26) : letterB (.int i) = true := by
  show ((decide (-26 ≤ i) && decide (i ≤ 26)) && !decide (i = 0)) = true
  rw [decide_eq_true (by omega), decide_eq_true (by omega), decide_eq_false (by omega)]
  rfl
theorem all_ok {ns : List Int} (h : Lts ns) : ((ns.map fun i => letterB (.int i)).all id) = true := by
  rw [List.all_eq_true]
  intro b hb
  obtain ⟨i, hi, rfl⟩ := List.mem_map.mp hb
  exact letter_ok (h i hi)
theorem bl_of {b c : Bool} (h : b = c) : V.bl b = V.bl c := by rw [h]
theorem kindsOk_ex (ns : List Int) : True := trivial
theorem not_lc {r : List V → Hp → VK → Prop} {wi : TI} {g : TG} {tt : TT} {te : TE} {vs : List Nat} {σ : L2.St} {H : Hp} {Q : Bool → Hp → Prop}
    (h : wi σ H fun J H1 => tLc (fun _ H R => R J H) g tt te vs σ H1 fun x H2 => r [x] H2 fun v H3 => ∃ c, v = .bl c ∧ Q (!c) H3) :
    tNot (fun σ H Q => tCB r (tCons (tLc wi g tt te vs) tNil) σ H fun x H1 => ∃ c, x = .bl c ∧ Q c H1) σ H Q := h
abbrev nInit : List Str := ["self", "letters", "letter"]
section
variable {P : Program} {w : World} {K : PySem.W.Frag} {mg : Str → Option Value} {base : Heap}
theorem scInit : FnScope nInit ["self", "letters"] (defScope sInit) := ⟨rfl, rfl, rfl, by decide +kernel, rfl, by decide +kernel, by decide +kernel⟩
theorem ok_init {C f : Addr} {fd : FuncData} (F : Fun K "__init__" "Word.__init__" sInit f fd) (T : TxW K mg C) (TA : TxA mg) (GL : Cal P w K mg base "is_listed" 1 ["value"] (spListE K)) (GX : Cal P w K mg base "is_letter" 3 ["value"] spLetter)
    (GF : Cal P w K mg base "need_few_letters" 1 ["many"] spFew) (GK : Cal P w K mg base "kinds_of" 1 ["letters"] (spKinds K)) (GS : Cal P w K mg base "shortened_letters" 1 ["letters"] (spShr K)) (GR : Cal P w K mg base "rounded_letters" 2 ["letters"] (spRnd K)) :
    FnOk P w K mg base CX0 4 f fd ["self", "letters"] (spInit K C) := by
  refine F.ok scInit (fun vs H Q E h => ?_) (fun cdv A outer s H vs Q E hr h => ?_)
  · obtain ⟨H0, p, dx, a, ns, rfl, _⟩ := h
    rfl
  · obtain ⟨H0, p, dx, a, ns, rfl, s0, p0, hp, hS, hlen, hl, k⟩ := h
    rcases hS with hS | hS
    · refine ⟨_, pss_cons (ps_if (PW.pt (pw_or (pt_not (pt_val (pe_cal GL hr (by decide) (by rfl) (pa_cons (pv 1) pa_nil)))) (pw_or1 (pt_not (pt_val (pe_callB (cr_all rfl) (by rfl) T.all (by decide +kernel) (pa_cons (pe_lc (own := [("letter", 2)]) (g := gName 2) (tt := tYes) rfl scInit.nd (pi_list (pv 1))
          (blkOk_by (N := nInit) (sc := defScope sInit) (by decide +kernel)) (fun _ _ _ _ _ => pg_name (i := 2) scInit.nd rfl (Or.inl rfl)) (fun _ _ _ _ _ => pts_nil)
          (fun _ _ _ _ _ => pe_cal GX hr (by decide) (by rfl) (pa_cons (pv 2) pa_nil))) pa_nil))))))) (pss_one ps_never) pss_nil)
        (pss_cons (ps_expr (pe_cal GF hr (by decide) (by rfl) (pa_cons (pe_callB call_len_seq (by rfl) TA.len PySem.boot_len (pa_cons (pv 1) pa_nil)) pa_nil)))
        (pss_cons (ps_fld (pv 0) (pe_callTy call_tupB (by rfl) TA.tuple (by decide +kernel) (pa_cons (pv 1) pa_nil)) rfl)
        (pss_cons (ps_fld (pv 0) (pe_callB call_len_seq (by rfl) TA.len PySem.boot_len (pa_cons (pv 1) pa_nil)) rfl)
        (pss_cons (ps_fld (pv 0) (pe_cal GK hr (by decide) (by rfl) (pa_cons (pv 1) pa_nil)) rfl)
        (pss_cons (ps_fld (pv 0) (pe_cmpR (op_eqD hr.units) (pe_cal GS hr (by decide) (by rfl) (pa_cons (pv 1) pa_nil)) (pe_fld (pv 0) rfl) (nomark _)) rfl)
        (pss_one (ps_fld (pv 0) (pe_cmpR (op_eqD hr.units) (pe_cal GR hr (by decide) (by rfl) (pa_cons (pv 1) pa_nil)) (pe_fld (pv 0) rfl) (nomark _)) rfl))))))), ?_⟩
      have E0 : SqE K H0 a (iv ns) := .inl hS
      refine ⟨_, rfl, a, _, rfl, E0.same s0, fun H1 s1 => ⟨_, rfl, ?_⟩⟩
      have s01 := s0.trans s1
      refine iteF ?_
      refine not_lc ?_
      refine ⟨_, rfl, a, rfl, ⟨_, (s01.seq hS)⟩, ?_⟩
      refine lcp (walk_list (xs := iv ns)) (fun _ => true) (fun x => .bl (letterB x)) (by simp; omega) (fun H2 s2 => (s01.trans s2).seq hS) ?_ ?_
      · intro x hx H2 s2 Qy Qn ky kn
        obtain ⟨i, hi, rfl⟩ := List.mem_map.mp hx
        exact ⟨rfl, yes_te ⟨_, rfl, .int i, _, rfl, .int i, ky rfl H2 (fun _ _ e => e)⟩⟩
      intro D H2 hD s2 h2
      have s02 := s01.trans s2
      refine ⟨D, ns.map fun i => letterB (.int i), rfl, SqL.of (by
        rw [h2, List.filter_eq_self.mpr (fun _ _ => rfl), List.map_map, List.map_map]
        rfl), ?_⟩
      rw [all_ok hl]
      refine ⟨_, rfl, iteF ?_⟩
      -- not too many
      refine ⟨_, rfl, a, _, rfl, E0.same s02, ((iv ns).length : Int), rfl, by rw [List.length_map]; omega, ?_⟩
      have hp2 : H2 p = some (.ins C dx []) := s2 _ _ (s1 _ _ hp)
      -- its letters
      refine ⟨_, rfl, a, _, rfl, .inl ⟨s02.seq hS, fun tl H3 s23 t3 => ?_⟩⟩
      have s3 := s02.trans s23
      have hp3 := s23 _ _ hp2
      refine ⟨_, rfl, p, C, dx, _, rfl, hp3, T.cl, T.nL, (by show 0 < 1000; decide), ?_⟩
      have hp4 : L2.upd H3 p (.ins C dx (putF "letters" (.ref tl) [])) p = some (.ins C dx [("letters", .ref tl)]) := by rw [upd_same]; rfl
      have s4 := same_put (o := .ins C dx (putF "letters" (.ref tl) [])) s3 p0
      have t4 := SqB.put (o := .ins C dx (putF "letters" (.ref tl) [])) t3 hp3
      refine gen_heap fun H4 e4 => ?_
      rw [← e4] at hp4 s4 t4
      -- how many
      refine ⟨_, rfl, a, _, rfl, E0.same s4, _, rfl, p, C, dx, _, rfl, hp4, T.cl, T.nN, (by show 1 < 1000; decide), ?_⟩
      have hp5 : L2.upd H4 p (.ins C dx (putF "length" (.int ((iv ns).length : Nat)) [("letters", .ref tl)])) p = some (.ins C dx [("letters", .ref tl), ("length", .int (ns.length : Nat))]) := by
        rw [upd_same, pf_ne ne1, List.length_map]
        rfl
      have s5 := same_put (o := .ins C dx (putF "length" (.int ((iv ns).length : Nat)) [("letters", .ref tl)])) s4 p0
      have t5 := SqB.put (o := .ins C dx (putF "length" (.int ((iv ns).length : Nat)) [("letters", .ref tl)])) t4 hp4
      refine gen_heap fun H5 e5 => ?_
      rw [← e5] at hp5 s5 t5
      -- its kinds
      refine ⟨_, rfl, a, ns, rfl, E0.same s5, by omega, hl, fun ks hk tk H6 s6 tk6 => ?_⟩
      have hp6 := s6 _ _ hp5
      have s06 := s5.trans s6
      have t6 := SqB.same s6 t5
      refine ⟨_, rfl, p, C, dx, _, rfl, hp6, T.cl, T.nK, (by show 2 < 1000; decide), ?_⟩
      have hp7 : L2.upd H6 p (.ins C dx (putF "kinds" (.ref tk) [("letters", .ref tl), ("length", .int (ns.length : Nat))])) p = some (.ins C dx [("letters", .ref tl), ("length", .int (ns.length : Nat)), ("kinds", .ref tk)]) := by
        rw [upd_same, pf_ne ne2, pf_ne ne5]
        rfl
      have s7 := same_put (o := .ins C dx (putF "kinds" (.ref tk) [("letters", .ref tl), ("length", .int (ns.length : Nat))])) s06 p0
      have t7 := SqB.put (o := .ins C dx (putF "kinds" (.ref tk) [("letters", .ref tl), ("length", .int (ns.length : Nat))])) t6 hp6
      have k7 := SqT.put (o := .ins C dx (putF "kinds" (.ref tk) [("letters", .ref tl), ("length", .int (ns.length : Nat))])) tk6 hp6
      refine gen_heap fun H7 e7 => ?_
      rw [← e7] at hp7 s7 t7 k7
      -- short
      refine ⟨_, rfl, a, ns, rfl, E0.same s7, by omega, fun q H8 s8 q8 => ?_⟩
      have hp8 := s8 _ _ hp7
      have s08 := s7.trans s8
      have t8 := SqB.same s8 t7
      have k8 := WR.Same.seqT s8 k7
      refine ⟨_, rfl, p, C, dx, _, _, rfl, hp8, T.cl, T.nL, lk_eq, ?_⟩
      refine ⟨_, _, .tup q8.sq (dp_iv _), .tup t8.sq (dp_iv _), shaped_ints _, shaped_ints _, ?_⟩
      rw [eqv_ints]
      refine ⟨_, rfl, p, C, dx, _, rfl, hp8, T.cl, T.nS, (by show 3 < 1000; decide), ?_⟩
      have hp9 : L2.upd H8 p (.ins C dx (putF "is_short" (.bl (decide (Fr.shr ns = ns))) [("letters", .ref tl), ("length", .int (ns.length : Nat)), ("kinds", .ref tk)])) p = some (.ins C dx [("letters", .ref tl), ("length", .int (ns.length : Nat)), ("kinds", .ref tk), ("is_short", .bl (decide (Fr.shr ns = ns)))]) := by
        rw [upd_same, pf_ne ne3, pf_ne ne6, pf_ne ne8]
        rfl
      have s9 := same_put (o := .ins C dx (putF "is_short" (.bl (decide (Fr.shr ns = ns))) [("letters", .ref tl), ("length", .int (ns.length : Nat)), ("kinds", .ref tk)])) s08 p0
      have t9 := SqB.put (o := .ins C dx (putF "is_short" (.bl (decide (Fr.shr ns = ns))) [("letters", .ref tl), ("length", .int (ns.length : Nat)), ("kinds", .ref tk)])) t8 hp8
      have k9 := SqT.put (o := .ins C dx (putF "is_short" (.bl (decide (Fr.shr ns = ns))) [("letters", .ref tl), ("length", .int (ns.length : Nat)), ("kinds", .ref tk)])) k8 hp8
      refine gen_heap fun H9 e9 => ?_
      rw [← e9] at hp9 s9 t9 k9
      -- short round
      refine ⟨_, rfl, a, ns, rfl, E0.same s9, by omega, hl.nz, fun q2 Ha sa qa => ?_⟩
      have hpa := sa _ _ hp9
      have s0a := s9.trans sa
      have ta := SqB.same sa t9
      have ka := WR.Same.seqT sa k9
      refine ⟨_, rfl, p, C, dx, _, _, rfl, hpa, T.cl, T.nL, lk_eq, ?_⟩
      refine ⟨_, _, .tup qa.sq (dp_iv _), .tup ta.sq (dp_iv _), shaped_ints _, shaped_ints _, ?_⟩
      rw [eqv_ints]
      refine ⟨_, rfl, p, C, dx, _, rfl, hpa, T.cl, T.nR, (by show 4 < 1000; decide), ?_⟩
      refine k _ (same_put s0a p0) ⟨dx, tl, tk, ks, ?_, SqB.put ta hpa, SqT.put ka hpa, hk⟩
      rw [upd_same, pf_ne ne4, pf_ne ne7, pf_ne ne9, pf_ne ne10]
      rfl
    · refine ⟨_, pss_cons (ps_if (PW.pt (pw_or (pt_not (pt_val (pe_cal GL hr (by decide) (by rfl) (pa_cons (pv 1) pa_nil)))) (pw_or1 (pt_not (pt_val (pe_callB (cr_all rfl) (by rfl) T.all (by decide +kernel) (pa_cons (pe_lc (own := [("letter", 2)]) (g := gName 2) (tt := tYes) rfl scInit.nd (pi_tup (pv 1))
          (blkOk_by (N := nInit) (sc := defScope sInit) (by decide +kernel)) (fun _ _ _ _ _ => pg_name (i := 2) scInit.nd rfl (Or.inl rfl)) (fun _ _ _ _ _ => pts_nil)
          (fun _ _ _ _ _ => pe_cal GX hr (by decide) (by rfl) (pa_cons (pv 2) pa_nil))) pa_nil))))))) (pss_one ps_never) pss_nil)
        (pss_cons (ps_expr (pe_cal GF hr (by decide) (by rfl) (pa_cons (pe_callB call_len_seq (by rfl) TA.len PySem.boot_len (pa_cons (pv 1) pa_nil)) pa_nil)))
        (pss_cons (ps_fld (pv 0) (pe_callTy call_tupB (by rfl) TA.tuple (by decide +kernel) (pa_cons (pv 1) pa_nil)) rfl)
        (pss_cons (ps_fld (pv 0) (pe_callB call_len_seq (by rfl) TA.len PySem.boot_len (pa_cons (pv 1) pa_nil)) rfl)
        (pss_cons (ps_fld (pv 0) (pe_cal GK hr (by decide) (by rfl) (pa_cons (pv 1) pa_nil)) rfl)
        (pss_cons (ps_fld (pv 0) (pe_cmpR (op_eqD hr.units) (pe_cal GS hr (by decide) (by rfl) (pa_cons (pv 1) pa_nil)) (pe_fld (pv 0) rfl) (nomark _)) rfl)
        (pss_one (ps_fld (pv 0) (pe_cmpR (op_eqD hr.units) (pe_cal GR hr (by decide) (by rfl) (pa_cons (pv 1) pa_nil)) (pe_fld (pv 0) rfl) (nomark _)) rfl))))))), ?_⟩
      have E0 : SqE K H0 a (iv ns) := .inr hS
      refine ⟨_, rfl, a, _, rfl, E0.same s0, fun H1 s1 => ⟨_, rfl, ?_⟩⟩
      have s01 := s0.trans s1
      refine iteF ?_
      refine not_lc ?_
      refine ⟨_, rfl, a, rfl, ⟨_, (WR.Same.seqT s01 hS.sq)⟩, ?_⟩
      refine lcp (walk_tup (xs := iv ns)) (fun _ => true) (fun x => .bl (letterB x)) (by simp; omega) (fun H2 s2 => WR.Same.seqT (s01.trans s2) hS.sq) ?_ ?_
      · intro x hx H2 s2 Qy Qn ky kn
        obtain ⟨i, hi, rfl⟩ := List.mem_map.mp hx
        exact ⟨rfl, yes_te ⟨_, rfl, .int i, _, rfl, .int i, ky rfl H2 (fun _ _ e => e)⟩⟩
      intro D H2 hD s2 h2
      have s02 := s01.trans s2
      refine ⟨D, ns.map fun i => letterB (.int i), rfl, SqL.of (by
        rw [h2, List.filter_eq_self.mpr (fun _ _ => rfl), List.map_map, List.map_map]
        rfl), ?_⟩
      rw [all_ok hl]
      refine ⟨_, rfl, iteF ?_⟩
      -- not too many
      refine ⟨_, rfl, a, _, rfl, E0.same s02, ((iv ns).length : Int), rfl, by rw [List.length_map]; omega, ?_⟩
      have hp2 : H2 p = some (.ins C dx []) := s2 _ _ (s1 _ _ hp)
      -- its letters
      refine ⟨_, rfl, a, _, rfl, .inr ⟨SqB.same s02 hS, ?_⟩⟩
      have s3 := s02
      have hp3 := hp2
      have t3 : SqB K H2 a (iv ns) := SqB.same s02 hS
      refine gen_heap fun H3 e3 => ?_
      rw [← e3] at s3 hp3 t3
      refine ⟨_, rfl, p, C, dx, _, rfl, hp3, T.cl, T.nL, (by show 0 < 1000; decide), ?_⟩
      have hp4 : L2.upd H3 p (.ins C dx (putF "letters" (.ref a) [])) p = some (.ins C dx [("letters", .ref a)]) := by rw [upd_same]; rfl
      have s4 := same_put (o := .ins C dx (putF "letters" (.ref a) [])) s3 p0
      have t4 := SqB.put (o := .ins C dx (putF "letters" (.ref a) [])) t3 hp3
      refine gen_heap fun H4 e4 => ?_
      rw [← e4] at hp4 s4 t4
      -- how many
      refine ⟨_, rfl, a, _, rfl, E0.same s4, _, rfl, p, C, dx, _, rfl, hp4, T.cl, T.nN, (by show 1 < 1000; decide), ?_⟩
      have hp5 : L2.upd H4 p (.ins C dx (putF "length" (.int ((iv ns).length : Nat)) [("letters", .ref a)])) p = some (.ins C dx [("letters", .ref a), ("length", .int (ns.length : Nat))]) := by
        rw [upd_same, pf_ne ne1, List.length_map]
        rfl
      have s5 := same_put (o := .ins C dx (putF "length" (.int ((iv ns).length : Nat)) [("letters", .ref a)])) s4 p0
      have t5 := SqB.put (o := .ins C dx (putF "length" (.int ((iv ns).length : Nat)) [("letters", .ref a)])) t4 hp4
      refine gen_heap fun H5 e5 => ?_
      rw [← e5] at hp5 s5 t5
      -- its kinds
      refine ⟨_, rfl, a, ns, rfl, E0.same s5, by omega, hl, fun ks hk tk H6 s6 tk6 => ?_⟩
      have hp6 := s6 _ _ hp5
      have s06 := s5.trans s6
      have t6 := SqB.same s6 t5
      refine ⟨_, rfl, p, C, dx, _, rfl, hp6, T.cl, T.nK, (by show 2 < 1000; decide), ?_⟩
      have hp7 : L2.upd H6 p (.ins C dx (putF "kinds" (.ref tk) [("letters", .ref a), ("length", .int (ns.length : Nat))])) p = some (.ins C dx [("letters", .ref a), ("length", .int (ns.length : Nat)), ("kinds", .ref tk)]) := by
        rw [upd_same, pf_ne ne2, pf_ne ne5]
        rfl
      have s7 := same_put (o := .ins C dx (putF "kinds" (.ref tk) [("letters", .ref a), ("length", .int (ns.length : Nat))])) s06 p0
      have t7 := SqB.put (o := .ins C dx (putF "kinds" (.ref tk) [("letters", .ref a), ("length", .int (ns.length : Nat))])) t6 hp6
      have k7 := SqT.put (o := .ins C dx (putF "kinds" (.ref tk) [("letters", .ref a), ("length", .int (ns.length : Nat))])) tk6 hp6
      refine gen_heap fun H7 e7 => ?_
      rw [← e7] at hp7 s7 t7 k7
      -- short
      refine ⟨_, rfl, a, ns, rfl, E0.same s7, by omega, fun q H8 s8 q8 => ?_⟩
      have hp8 := s8 _ _ hp7
      have s08 := s7.trans s8
      have t8 := SqB.same s8 t7
      have k8 := WR.Same.seqT s8 k7
      refine ⟨_, rfl, p, C, dx, _, _, rfl, hp8, T.cl, T.nL, lk_eq, ?_⟩
      refine ⟨_, _, .tup q8.sq (dp_iv _), .tup t8.sq (dp_iv _), shaped_ints _, shaped_ints _, ?_⟩
      rw [eqv_ints]
      refine ⟨_, rfl, p, C, dx, _, rfl, hp8, T.cl, T.nS, (by show 3 < 1000; decide), ?_⟩
      have hp9 : L2.upd H8 p (.ins C dx (putF "is_short" (.bl (decide (Fr.shr ns = ns))) [("letters", .ref a), ("length", .int (ns.length : Nat)), ("kinds", .ref tk)])) p = some (.ins C dx [("letters", .ref a), ("length", .int (ns.length : Nat)), ("kinds", .ref tk), ("is_short", .bl (decide (Fr.shr ns = ns)))]) := by
        rw [upd_same, pf_ne ne3, pf_ne ne6, pf_ne ne8]
        rfl
      have s9 := same_put (o := .ins C dx (putF "is_short" (.bl (decide (Fr.shr ns = ns))) [("letters", .ref a), ("length", .int (ns.length : Nat)), ("kinds", .ref tk)])) s08 p0
      have t9 := SqB.put (o := .ins C dx (putF "is_short" (.bl (decide (Fr.shr ns = ns))) [("letters", .ref a), ("length", .int (ns.length : Nat)), ("kinds", .ref tk)])) t8 hp8
      have k9 := SqT.put (o := .ins C dx (putF "is_short" (.bl (decide (Fr.shr ns = ns))) [("letters", .ref a), ("length", .int (ns.length : Nat)), ("kinds", .ref tk)])) k8 hp8
      refine gen_heap fun H9 e9 => ?_
      rw [← e9] at hp9 s9 t9 k9
      -- short round
      refine ⟨_, rfl, a, ns, rfl, E0.same s9, by omega, hl.nz, fun q2 Ha sa qa => ?_⟩
      have hpa := sa _ _ hp9
      have s0a := s9.trans sa
      have ta := SqB.same sa t9
      have ka := WR.Same.seqT sa k9
      refine ⟨_, rfl, p, C, dx, _, _, rfl, hpa, T.cl, T.nL, lk_eq, ?_⟩
      refine ⟨_, _, .tup qa.sq (dp_iv _), .tup ta.sq (dp_iv _), shaped_ints _, shaped_ints _, ?_⟩
      rw [eqv_ints]
      refine ⟨_, rfl, p, C, dx, _, rfl, hpa, T.cl, T.nR, (by show 4 < 1000; decide), ?_⟩
      refine k _ (same_put s0a p0) ⟨dx, a, tk, ks, ?_, SqB.put ta hpa, SqT.put ka hpa, hk⟩
      rw [upd_same, pf_ne ne4, pf_ne ne7, pf_ne ne9, pf_ne ne10]
      rfl
end
end W14
set_option Elab.async false
set_option linter.all false
set_option maxRecDepth 100000
set_option maxHeartbeats 2000000
namespace W14
open PySem L2 PySem.Spec PyProof.Rows WR WB
abbrev sEq : Stmt := inClass (top 41) 1
abbrev sContrary : Stmt := inClass (top 41) 4
abbrev sShort : Stmt := inClass (top 41) 5
abbrev sThen : Stmt := inClass (top 41) 8
/-- some word of these letters, all else as it stood -/
def NewW (K : PySem.W.Frag) (C : Addr) (H : Hp) (Q : VK) (ns : List Int) : Prop := ∀ p H', Same H H' → WordAt K C H' p ns → Q (.ref p) H'
theorem make_word {K : PySem.W.Frag} {C : Addr} {H1 : Hp} {q : Addr} {ms : List Int} {Q : VK} {E : XK} (hq : SqW K H1 q (iv ms)) (hlen : ms.length ≤ 500) (hl : Lts ms) (k : NewW K C H1 Q ms) :
    ∀ x dx, H1 x = none → H1 dx = none → dx ≠ x → spInit K C [.ref x, .ref q] (L2.upd (L2.upd H1 dx (.own x)) x (.ins C dx [])) (fun v H2 => v = .non ∧ Q (.ref x) H2) E := by
  intro x dx nx ndx nex
  have s0 : Same H1 (L2.upd (L2.upd H1 dx (.own x)) x (.ins C dx [])) := fun b o e => by
    rw [upd_ne (ne_of_none e nx), upd_ne (ne_of_none e ndx)]
    exact e
  exact ⟨H1, x, dx, q, ms, rfl, s0, nx, upd_same, hq, hlen, hl, fun H' s' W' => ⟨rfl, k x H' s' W'⟩⟩
def spOne (K : PySem.W.Frag) (C : Addr) (fn : List Int → List Int) : Sp := fun vs H Q _ => ∃ (p : Addr) (ns : List Int), vs = [.ref p] ∧ WordAt K C H p ns ∧ ns.length ≤ 500 ∧ Lts ns ∧ NewW K C H Q (fn ns)
def spEq (K : PySem.W.Frag) (C : Addr) : Sp := fun vs H Q _ => ∃ (p q : Addr) (ns ms : List Int), vs = [.ref p, .ref q] ∧ WordAt K C H p ns ∧ WordAt K C H q ms ∧ Q (.bl (decide (ns = ms))) H
def spThen (K : PySem.W.Frag) (C : Addr) : Sp := fun vs H Q _ => ∃ (p q : Addr) (ns ms : List Int), vs = [.ref p, .ref q] ∧ WordAt K C H p ns ∧ WordAt K C H q ms ∧ ns.length + ms.length ≤ 500 ∧ Lts ns ∧ Lts ms ∧ NewW K C H Q (ns ++ ms)
/-- so many times, for a number below 0 the contrary so many times -/
def tms (n : Int) (ns : List Int) : List Int := if 0 < n then Fr.rep n.natAbs ns else Fr.rep n.natAbs (Fr.con ns)
def spTimes (K : PySem.W.Frag) (C : Addr) : Sp := fun vs H Q _ => ∃ (p : Addr) (n : Int) (ns : List Int), vs = [.ref p, .int n] ∧ WordAt K C H p ns ∧ ns.length ≤ 500 ∧ ns.length * n.natAbs ≤ 500 ∧ Lts ns ∧ NewW K C H Q (tms n ns)
def spNeedW (K : PySem.W.Frag) (C : Addr) : Sp := fun vs H Q _ => ∃ (q : Addr) (z : V) (ms : List Int), vs = [.ref q, z] ∧ WordAt K C H q ms ∧ Q .non H
theorem Lts.con {ns : List Int} (h : Lts ns) : Lts (Fr.con ns) := fun x hx => by
  unfold Fr.con at hx
  obtain ⟨y, hy, rfl⟩ := List.mem_map.mp hx
  have := h y (List.mem_reverse.mp hy)
  rw [Int.natAbs_neg]
  exact this
theorem Lts.app {ns ms : List Int} (h : Lts ns) (k : Lts ms) : Lts (ns ++ ms) := fun x hx => by
  rcases List.mem_append.mp hx with e | e
  · exact h x e
  · exact k x e
theorem Lts.shr {ns : List Int} (h : Lts ns) : Lts (Fr.shr ns) := fun x hx => h x (Fr.shr_mem hx)
theorem Lts.rep {ns : List Int} (h : Lts ns) : ∀ n, Lts (Fr.rep n ns)
  | 0 => fun x hx => nomatch hx
  | n + 1 => h.app (Lts.rep h n)
theorem rnd_sub {ns : List Int} (nz : Fr.NZ ns) : ∃ u, Fr.shr ns = u ++ Fr.rnd ns ++ Fr.con u := by
  obtain ⟨u, m, e, c, z⟩ := Fr.parted (Fr.shr ns) nz.shr (Fr.rd_shr ns)
  refine ⟨u, ?_⟩
  have er : Fr.rnd ns = m := by
    unfold Fr.rnd
    rw [e, Fr.ends_eq c z]
  rw [er]
  exact e
theorem Lts.rnd {ns : List Int} (h : Lts ns) : Lts (Fr.rnd ns) := fun x hx => by
  obtain ⟨u, e⟩ := rnd_sub h.nz
  refine h.shr x ?_
  rw [e]
  simp [hx]
theorem rnd_len {ns : List Int} (h : Lts ns) : (Fr.rnd ns).length ≤ ns.length := by
  obtain ⟨u, e⟩ := rnd_sub h.nz
  have h1 := shr_len ns
  rw [e] at h1
  rw [whole_len] at h1
  omega
theorem rep_flat (n : Nat) (ns : List Int) : (List.replicate n (iv ns)).flatten = iv (Fr.rep n ns) := by
  induction n with
  | zero => rfl
  | succ n ih => 
    rw [List.replicate_succ, List.flatten_cons, ih, Fr.rep_succ]
    exact List.map_append.symm
theorem WordAt.tyx {K : PySem.W.Frag} {mg : Str → Option Value} {C : Addr} {H : Hp} {p : Addr} {ns : List Int} (h : WordAt K C H p ns) (T : TxW K mg C) : TyX K H (.ref p) (.ref C) := by
  obtain ⟨dx, tl, tk, ks, h1, _⟩ := h
  exact .base (.ins h1 T.cl T.ca T.cn T.ct T.cm)
theorem kit_self {K : PySem.W.Frag} (C : Addr) : PySem.W.kitOne K (.ref C) (.ref C) = some true := by
  unfold PySem.W.kitOne
  rw [if_pos (by simp)]
structure MkW (P : Program) (w : World) (K : PySem.W.Frag) (mg : Str → Option Value) (base : Heap) (C : Addr) : Prop where
  ex : ∃ (f : Addr) (fd : FuncData), Mk K C f ∧ FnOk P w K mg base CX0 4 f fd ["self", "letters"] (spInit K C) ∧ Binds K fd ["self", "letters"] []
section
variable {X : Cx} {C : Addr} {p pos : Pos} {e : Expr} {es : List Expr} {t : TA} {j : Nat}
theorem pe_word (M : MkW X.prog X.w X.K X.mg X.base C) (T : TxW X.K X.mg C) (hr : Room j X.A) (hkj : 5 ≤ j) (hg : Gl X "Word") (ha : PA X (e :: es) t)
    (he : starEach (e :: es) X.env = (false, eval e X.env) :: starEach es X.env := by rfl) (hpl : (backTo pos (starEach es X.env)).any (·.1) = false := by rfl) :
    PE X (.Call (.Name "Word" p) (e :: es) [] pos) (tMake C (spInit X.K C) [] E0 t) := by
  obtain ⟨f, fd, M, F, hb⟩ := M.ex
  exact pe_make M F (hr.mono hkj) hg T.mgW hb .nil pass0 ha (by decide) he hpl
end
section
variable {P : Program} {w : World} {K : PySem.W.Frag} {mg : Str → Option Value} {base : Heap}
theorem scEq : FnScope ["self", "other"] ["self", "other"] (defScope sEq) := ⟨rfl, rfl, rfl, by decide +kernel, rfl, by decide +kernel, by decide +kernel⟩
theorem ok_eq {C f : Addr} {fd : FuncData} (F : Fun K "__eq__" "Word.__eq__" sEq f fd) (T : TxW K mg C) : FnOk P w K mg base CX0 1 f fd ["self", "other"] (spEq K C) := by
  refine F.ok scEq (fun vs H Q E h => ?_) (fun cdv A outer s H vs Q E hr h => ?_)
  · obtain ⟨p, q, ns, ms, rfl, _⟩ := h
    rfl
  · obtain ⟨p, q, ns, ms, rfl, W1, W2, k⟩ := h
    refine ⟨_, pss_one (ps_ret (pe_and (pe_callB call_isi (by rfl) T.isin (by decide +kernel) (pa_cons (pv 1) (pa_cons (pe_glob (v := .ref C) (by rfl) T.mgW rfl) pa_nil)))
      (pe_one (pe_cmpR (op_eqD hr.units) (pe_fld (pv 0) rfl) (pe_fld (pv 1) rfl) (nomark _))))), ?_⟩
    refine ⟨_, rfl, _, _, _, _, _, rfl, .own C, W2.tyx T, kit_self C, _, rfl, ?_⟩
    refine iteT ?_
    obtain ⟨dx, tl, tk, ks, h1, h2, h3, h4⟩ := W1
    obtain ⟨dx', tl', tk', ks', h1', h2', h3', h4'⟩ := W2
    refine ⟨_, rfl, p, C, dx, _, _, rfl, h1, T.cl, T.nL, wf_letters, _, rfl, q, C, dx', _, _, rfl, h1', T.cl, T.nL, wf_letters, ?_⟩
    refine ⟨_, _, .tup h2.sq (dp_iv _), .tup h2'.sq (dp_iv _), shaped_ints _, shaped_ints _, ?_⟩
    rw [eqv_ints]
    exact k
theorem scNeedW : FnScope ["value", "part"] ["value", "part"] (defScope sNeedW) := ⟨rfl, rfl, rfl, by decide +kernel, rfl, by decide +kernel, by decide +kernel⟩
theorem ok_needW {C f : Addr} {fd : FuncData} (F : Fun K "need_word" "need_word" sNeedW f fd) (T : TxW K mg C) : FnOk P w K mg base CX0 1 f fd ["value", "part"] (spNeedW K C) := by
  refine F.ok scNeedW (fun vs H Q E h => ?_) (fun cdv A outer s H vs Q E hr h => ?_)
  · obtain ⟨q, z, ms, rfl, _⟩ := h
    rfl
  · obtain ⟨q, z, ms, rfl, W2, k⟩ := h
    refine ⟨_, pss_one (ps_if (pt_not (pt_val (pe_callB call_isi (by rfl) T.isin (by decide +kernel) (pa_cons (pv 0) (pa_cons (pe_glob (v := .ref C) (by rfl) T.mgW rfl) pa_nil))))) (pss_one ps_never) pss_nil), ?_⟩
    exact ⟨_, rfl, _, _, _, _, _, rfl, .own C, W2.tyx T, kit_self C, _, rfl, iteF k⟩
theorem scContrary : FnScope ["self"] ["self"] (defScope sContrary) := ⟨rfl, rfl, rfl, by decide +kernel, rfl, by decide +kernel, by decide +kernel⟩
theorem ok_contrary {C f : Addr} {fd : FuncData} (F : Fun K "contrary" "Word.contrary" sContrary f fd) (T : TxW K mg C) (M : MkW P w K mg base C) (GC : Cal P w K mg base "contrary_letters" 1 ["letters"] (spCon K)) :
    FnOk P w K mg base CX0 6 f fd ["self"] (spOne K C Fr.con) := by
  refine F.ok scContrary (fun vs H Q E h => ?_) (fun cdv A outer s H vs Q E hr h => ?_)
  · obtain ⟨p, ns, rfl, _⟩ := h
    rfl
  · obtain ⟨p, ns, rfl, ⟨dx, tl, tk, ks, h1, h2, h3, h4⟩, hlen, hl, k⟩ := h
    refine ⟨_, pss_one (ps_ret (pe_word M T hr (by decide) (by rfl) (pa_cons (pe_cal GC hr (by decide) (by rfl) (pa_cons (pe_fld (pv 0) rfl) pa_nil)) pa_nil))), ?_⟩
    refine ⟨_, rfl, p, C, dx, _, _, rfl, h1, T.cl, T.nL, wf_letters, tl, ns, rfl, h2, by omega, fun q H1 s1 hq => ?_⟩
    exact make_word (.inr hq) (by rw [Fr.con_length]; exact hlen) hl.con fun x H' s' W => k x H' (s1.trans s') W
theorem scShort : FnScope ["self"] ["self"] (defScope sShort) := ⟨rfl, rfl, rfl, by decide +kernel, rfl, by decide +kernel, by decide +kernel⟩
theorem ok_shortened {C f : Addr} {fd : FuncData} (F : Fun K "shortened" "Word.shortened" sShort f fd) (T : TxW K mg C) (M : MkW P w K mg base C) (GS : Cal P w K mg base "shortened_letters" 1 ["letters"] (spShr K)) :
    FnOk P w K mg base CX0 6 f fd ["self"] (spOne K C Fr.shr) := by
  refine F.ok scShort (fun vs H Q E h => ?_) (fun cdv A outer s H vs Q E hr h => ?_)
  · obtain ⟨p, ns, rfl, _⟩ := h
    rfl
  · obtain ⟨p, ns, rfl, ⟨dx, tl, tk, ks, h1, h2, h3, h4⟩, hlen, hl, k⟩ := h
    refine ⟨_, pss_one (ps_ret (pe_word M T hr (by decide) (by rfl) (pa_cons (pe_cal GS hr (by decide) (by rfl) (pa_cons (pe_fld (pv 0) rfl) pa_nil)) pa_nil))), ?_⟩
    refine ⟨_, rfl, p, C, dx, _, _, rfl, h1, T.cl, T.nL, wf_letters, tl, ns, rfl, .inr h2, by omega, fun q H1 s1 hq => ?_⟩
    exact make_word (.inr hq) (Nat.le_trans (shr_len ns) hlen) hl.shr fun x H' s' W => k x H' (s1.trans s') W
theorem scThen : FnScope ["self", "other"] ["self", "other"] (defScope sThen) := ⟨rfl, rfl, rfl, by decide +kernel, rfl, by decide +kernel, by decide +kernel⟩
theorem ok_then {C f : Addr} {fd : FuncData} (F : Fun K "then" "Word.then" sThen f fd) (T : TxW K mg C) (M : MkW P w K mg base C) (GN : Cal P w K mg base "need_word" 1 ["value", "part"] (spNeedW K C)) :
    FnOk P w K mg base CX0 6 f fd ["self", "other"] (spThen K C) := by
  refine F.ok scThen (fun vs H Q E h => ?_) (fun cdv A outer s H vs Q E hr h => ?_)
  · obtain ⟨p, q, ns, ms, rfl, _⟩ := h
    rfl
  · obtain ⟨p, q, ns, ms, rfl, W1, W2, hlen, hl, hl2, k⟩ := h
    refine ⟨_, pss_cons (ps_expr (pe_cal GN hr (by decide) (by rfl) (pa_cons (pv 1) (pa_cons pe_str pa_nil))))
      (pss_one (ps_ret (pe_word M T hr (by decide) (by rfl) (pa_cons (pe_op op_catB (pe_fld (pv 0) rfl) (pe_fld (pv 1) rfl)) pa_nil)))), ?_⟩
    refine ⟨_, rfl, q, _, ms, rfl, W2, ?_⟩
    obtain ⟨dx, tl, tk, ks, h1, h2, h3, h4⟩ := W1
    obtain ⟨dx', tl', tk', ks', h1', h2', h3', h4'⟩ := W2
    refine ⟨_, rfl, p, C, dx, _, _, rfl, h1, T.cl, T.nL, wf_letters, _, rfl, q, C, dx', _, _, rfl, h1', T.cl, T.nL, wf_letters, ?_⟩
    refine ⟨tl, tl', _, _, rfl, rfl, h2, h2', Evl.sz_of (by simp; omega), fun r H1 s1 hr1 => ?_⟩
    rw [← List.map_append] at hr1
    exact make_word (.inr hr1) (by rw [List.length_append]; exact hlen) (hl.app hl2) fun x H' s' W => k x H' (s1.trans s') W
theorem abs_eq (n : Int) : (if n < 0 then -n else n) = (n.natAbs : Int) := by split <;> omega
end
end W14
set_option Elab.async false
set_option linter.all false
set_option maxRecDepth 100000
set_option maxHeartbeats 2000000
namespace W14
open PySem L2 WR WB
abbrev sJar : Stmt := top 63
abbrev sDraw : Stmt := top 64
/-! ### the hand that draws -/
/-- at a: a hand, of which at most n cells were begun -/
def HandAt (H : Hp) (a c : Addr) (n : Nat) : Prop := ∃ (ns : List Int) (i r : Int), H a = some (.lst [.ref c, .int i, .int r]) ∧ H c = some (.lst (ns.map V.int)) ∧ c ≠ a ∧ ns.length ≤ 1000 ∧ 0 ≤ i ∧ i ≤ (n : Int) ∧ 0 ≤ r
/-- all but what is at a stands as it did -/
def Kept (a : Addr) (H H' : Hp) : Prop := ∀ b o, b ≠ a → H b = some o → H' b = some o
theorem Kept.refl {a : Addr} {H : Hp} : Kept a H H := fun _ _ _ e => e
theorem Kept.trans {a : Addr} {H H1 H2 : Hp} (h1 : Kept a H H1) (h2 : Kept a H1 H2) : Kept a H H2 := fun b o n e => h2 b o n (h1 b o n e)
theorem Kept.upd {a : Addr} {H : Hp} {o : HO} : Kept a H (upd H a o) := fun b u n e => by rw [upd_ne n]; exact e
theorem Kept.new {a p : Addr} {H H' : Hp} {o : HO} (k : Kept a H H') (hp : H' p = none) : Kept a H (L2.upd H' p o) := fun b u n e => by
  rw [upd_ne (ne_of_none (k b u n e) hp)]
  exact k b u n e

theorem HandAt.put {H : Hp} {a c : Addr} {ns : List Int} {i r : Int} {n : Nat} (hC : H c = some (.lst (ns.map V.int))) (hca : c ≠ a) (hl : ns.length ≤ 1000) (i0 : 0 ≤ i) (hi : i ≤ (n : Int)) (r0 : 0 ≤ r) :
    HandAt (L2.upd H a (.lst [.ref c, .int i, .int r])) a c n := ⟨ns, i, r, upd_same, by rw [upd_ne hca]; exact hC, hca, hl, i0, hi, r0⟩
def spHand (K : PySem.W.Frag) : Sp := fun vs H Q _ => ∃ (a : Addr) (ns : List Int), vs = [.ref a] ∧ SqL K H a (ns.map V.int) ∧ ns.length ≤ 1000 ∧
  ∀ (H' : Hp) (p c : Addr), Same H H' → H p = none → H c = none → HandAt H' p c 0 → Q (.ref p) H'
def spTake : Sp := fun vs H Q _ => ∃ (a c : Addr) (m : Int) (n : Nat), vs = [.ref a, .int m] ∧ HandAt H a c n ∧ n ≤ 10000 ∧ 0 < m ∧ m.natAbs < 2 ^ 200 ∧
  ∀ (H' : Hp) (q : Int), 0 ≤ q → q < m → HandAt H' a c (n + 1) → Kept a H H' → Q (.int q) H'

theorem dpInts {K : PySem.W.Frag} {H : Hp} : ∀ ns : List Int, DpAll K H (ns.map V.int) (ns.map PyData.int)
  | [] => .nil
  | n :: r => .cons (.int n) (dpInts r)
structure TxL (mg : Str → Option Value) : Prop where
  int : mg "int" = none
  len : mg "len" = none
  abs : mg "abs" = none
section
variable {P : Program} {w : World} {K : PySem.W.Frag} {mg : Str → Option Value} {base : Heap}
theorem scHand : FnScope ["_law_script", "_law_cell"] ["_law_script"] (defScope sJar) := ⟨rfl, rfl, rfl, by decide +kernel, rfl, by decide +kernel, by decide +kernel⟩
theorem ok_hand {f : Addr} {fd : FuncData} (F : Fun K "_law_pen" "_law_pen" sJar f fd) (T : TxL mg) : FnOk P w K mg base CX0 1 f fd ["_law_script"] (spHand K) := by
  refine F.ok scHand (fun vs H Q E h => ?_) (fun cdv A outer s H vs Q E hr h => ?_)
  · obtain ⟨a, ns, rfl, _⟩ := h
    rfl
  · obtain ⟨a, ns, rfl, hS, hlen, k⟩ := h
    refine ⟨_, pss_one (ps_ret (pe_lst (pa_cons (pe_lc (own := [("_law_cell", 1)]) (g := gName 1) (tt := tYes) rfl scHand.nd (pi_list (pe_slice sl_list (pv 0) po_none (po_some pe_int)))
      (blkOk_by (N := ["_law_script", "_law_cell"]) (sc := defScope sJar) (by decide +kernel)) (fun _ _ _ _ _ => pg_name (i := 1) scHand.nd rfl (Or.inl rfl)) (fun _ _ _ _ _ => pts_nil)
      (fun _ _ _ _ _ => pe_callTy call_int1 (by rfl) T.int (by decide +kernel) (pa_cons (pv 1) pa_nil))) (pa_cons pe_int (pa_cons pe_int pa_nil))))), ?_⟩
    refine ⟨_, rfl, 62, rfl, a, ns.map V.int, rfl, hS, fun p hp => ?_⟩
    refine ⟨p, rfl, ⟨_, SqL.of upd_same⟩, fun D hD => ?_⟩
    have hDp : D ≠ p := fun e => by
      rw [e, upd_same] at hD
      cases hD
    have hD0 : H D = none := by
      rw [upd_ne hDp] at hD
      exact hD
    have hc : cutV (ns.map V.int) none (some 62) = (ns.take 62).map V.int := by
      unfold cutV
      rw [List.map_take, List.length_map]
      have e0 : HT.sIx ns.length 0 none = 0 := rfl
      rw [e0, List.drop_zero]
      have e1 : HT.sIx ns.length ns.length (some 62) = min 62 ns.length := by
        unfold HT.sIx
        simp
        try omega
      rw [e1, Nat.sub_zero]
      by_cases h : 62 ≤ ns.length
      · rw [Nat.min_eq_left h]
      · rw [Nat.min_eq_right (by omega), List.take_of_length_le (by simp), List.take_of_length_le (by simp; omega)]
    refine lc_list (K := K) (a := p) (xs := (ns.take 62).map V.int) (fun i H' => H' D = some (.lst (((ns.take 62).take i).map V.int)) ∧ H' p = some (.lst ((ns.take 62).map V.int)) ∧ Same H H') ⟨upd_same, ?_, ?_⟩ (fun i H' _ q => SqL.of q.2.1) ?_ ?_
    · rw [upd_ne hDp.symm, upd_same, hc]
    · intro b o e
      rw [upd_ne (ne_of_none e hD0), upd_ne (ne_of_none e hp)]
      exact e
    · intro i x H' hi q
      obtain ⟨z, hz, rfl⟩ : ∃ z, (ns.take 62)[i]? = some z ∧ x = V.int z := by
        rw [List.getElem?_map] at hi
        cases e : (ns.take 62)[i]? with
        | none =>
          rw [e] at hi
          cases hi
        | some z =>
          rw [e] at hi
          exact ⟨z, rfl, (Option.some.inj hi).symm⟩
      have hli : i < (ns.take 62).length := (List.getElem?_eq_some_iff.mp hz).1
      have hl60 : (ns.take 62).length ≤ 62 := by rw [List.length_take]; omega
      refine ⟨rfl, ?_⟩
      refine yes_te ?_
      refine ⟨_, rfl, .inl ⟨z, rfl, _, q.1, Evl.sz_lt (by rw [List.length_map, List.length_take]; omega), ?_⟩⟩
      refine ⟨?_, ?_, ?_⟩
      · rw [upd_same]
        congr 2
        have ez : (ns.take 62)[i] = z := (List.getElem?_eq_some_iff.mp hz).2
        rw [List.take_succ_eq_append_getElem hli, ez, List.map_append]
        rfl
      · rw [upd_ne hDp.symm]
        exact q.2.1
      · intro b o e
        rw [upd_ne (ne_of_none e hD0)]
        exact q.2.2 b o e
    · intro H' q
      refine ⟨by show 3 ≤ sizeLine; decide, fun l hl => ?_⟩
      have hlD : D ≠ l := ne_of_none q.1 hl
      have hl0 : H l = none := by
        cases e : H l with
        | none => rfl
        | some o => rw [q.2.2 l o e] at hl; cases hl
      refine k _ l D (fun b o e => by rw [upd_ne (ne_of_none e hl0)]; exact q.2.2 b o e) hl0 hD0 ?_
      have q1 := q.1
      rw [List.length_map, List.take_length] at q1
      exact ⟨ns.take 62, 0, 0, upd_same, by rw [upd_ne hlD]; exact q1, hlD, by rw [List.length_take]; omega, Int.le_refl _, Int.le_refl _, Int.le_refl _⟩

theorem scTake : FnScope ["_law_pen_here", "_law_many", "_law_rest", "_law_at", "_law_cell", "_law_mixed_here"] ["_law_pen_here", "_law_many"] (defScope sDraw) := ⟨rfl, rfl, rfl, by decide +kernel, rfl, by decide +kernel, by decide +kernel⟩
theorem ok_take {f : Addr} {fd : FuncData} (F : Fun K "_law_draw" "_law_draw" sDraw f fd) (T : TxL mg) : FnOk P w K mg base CX0 1 f fd ["_law_pen_here", "_law_many"] spTake := by
  refine F.ok scTake (fun vs H Q E h => ?_) (fun cdv A outer s H vs Q E hr h => ?_)
  · obtain ⟨a, c, m, n, rfl, _⟩ := h
    rfl
  · obtain ⟨a, c, m, n, rfl, ⟨ns, i, r, hA, hC, hca, hlen, i0, hi, r0⟩, hn, m0, hm, k⟩ := h
    refine ⟨_, pss_cons (ps_if (pt_cmpR op_gt (pe_ix ix_list (pv 0) pe_int (fun _ _ => rfl)) pe_int (nomark _))
        (pss_cons (ps_set (i := 2) scTake.nd rfl (Or.inl rfl) (pe_callTy call_int1 (by rfl) T.int (by decide +kernel) (pa_cons (pe_ix ix_list (pv 0) pe_int (fun _ _ => rfl)) pa_nil)))
        (pss_cons (ps_asg (pe_op op_fdivW (pv 2) (pv 1)) (pg_sub (pv 0) pe_int set_list))
        (pss_one (ps_ret (pe_op op_mod (pe_callTy call_int1 (by rfl) T.int (by decide +kernel) (pa_cons (pv 2) pa_nil)) (pv 1)))))) pss_nil)
      (pss_cons (ps_set (i := 3) scTake.nd rfl (Or.inl rfl) (pe_ix ix_list (pv 0) pe_int (fun _ _ => rfl)))
      (pss_cons (ps_asg (pe_op op_add (pv 3) pe_int) (pg_sub (pv 0) pe_int set_list))
      (pss_cons (ps_set (i := 4) scTake.nd rfl (Or.inl rfl) (pe_op op_add (pe_op op_mul pe_int (pv 3)) pe_int))
      (Evl.pss_cut (ps_if (pt_cmpR (op_neD hr.units) (pe_ix ix_list (pv 0) pe_int (fun _ _ => rfl)) (pe_lst pa_nil) (nomark _))
        (pss_one (ps_set (i := 4) scTake.nd rfl (Or.inl rfl) (pe_ix ix_list (pe_ix ix_list (pv 0) pe_int (fun _ _ => rfl)) (pe_op op_mod (pe_callTy call_int1 (by rfl) T.int (by decide +kernel) (pa_cons (pv 3) pa_nil)) (pe_callB call_len_seq (by rfl) T.len PySem.boot_len (pa_cons (pe_ix ix_list (pv 0) pe_int (fun _ _ => rfl)) pa_nil))) (fun _ _ => rfl)))) pss_nil)
      (Evl.pss_cut (ps_if (PW.pt (pw_and (pt_cmpR op_lt (pv 3) (pe_callB call_len_seq (by rfl) T.len PySem.boot_len (pa_cons (pe_ix ix_list (pv 0) pe_int (fun _ _ => rfl)) pa_nil)) (nomark _)) (pw_and1 (pt_cmpR op_ge (pe_callB call_abs (by rfl) T.abs (by decide +kernel) (pa_cons (pv 4) pa_nil)) (pe_op op_pow pe_int pe_int) (nomark _)))))
        (pss_cons (ps_set (i := 2) scTake.nd rfl (Or.inl rfl) (pe_op op_add (pe_op op_mul pe_int (pe_op op_sub (pe_callB call_abs (by rfl) T.abs (by decide +kernel) (pa_cons (pv 4) pa_nil)) (pe_op op_pow pe_int pe_int))) (pe_callTy call_int1 (by rfl) T.int (by decide +kernel) (pa_cons (pe_cmpR op_lt (pv 4) pe_int (nomark _)) pa_nil))))
        (pss_cons (ps_asg (pe_op op_fdivW (pe_callTy call_int1 (by rfl) T.int (by decide +kernel) (pa_cons (pv 2) pa_nil)) (pv 1)) (pg_sub (pv 0) pe_int set_list))
        (pss_one (ps_ret (pe_op op_mod (pe_callTy call_int1 (by rfl) T.int (by decide +kernel) (pa_cons (pv 2) pa_nil)) (pv 1)))))) pss_nil)
      (pss_cons (ps_set (i := 5) scTake.nd rfl (Or.inl rfl) (pe_op op_mod (pe_callTy call_int1 (by rfl) T.int (by decide +kernel) (pa_cons (pe_op op_pow (pe_op op_add (pe_op op_add (pe_op op_mod (pe_callTy call_int1 (by rfl) T.int (by decide +kernel) (pa_cons (pv 4) pa_nil)) pe_int) (pe_op op_mul pe_int (pv 3))) pe_int) pe_int) pa_nil)) pe_int))
      (pss_cons (ps_set (i := 5) scTake.nd rfl (Or.inl rfl) (pe_op op_mod (pe_callTy call_int1 (by rfl) T.int (by decide +kernel) (pa_cons (pe_op op_pow (pe_op op_add (pe_op op_add (pe_op op_mul (pv 5) (pe_op op_add (pe_op op_mul pe_int (pv 3)) pe_int)) (pe_op op_mul (pe_op op_mul pe_int (pv 3)) (pv 3))) pe_int) pe_int) pa_nil)) pe_int))
      (pss_one (ps_ret (pe_op op_mod (pe_callTy call_int1 (by rfl) T.int (by decide +kernel) (pa_cons (pe_op op_fdiv (pv 5) pe_int) pa_nil)) (pv 1)))))))))))
      , ?_⟩
    have hdv : ∀ x : Int, CDivW x m := fun x => wide_div m0 hm (by decide) (by decide)
    -- if hand[2] > 0
    refine ⟨_, rfl, a, _, 2, _, rfl, rfl, SqL.of hA, rfl, _, _, rfl, rfl, _, rfl, ?_⟩
    refine ite2 (fun hp => ?_) (fun _ => ?_)
    · refine ⟨_, rfl, a, _, 2, _, rfl, rfl, SqL.of hA, rfl, .inl ⟨_, rfl, ?_⟩⟩
      refine ⟨_, rfl, _, rfl, _, _, rfl, rfl, hdv _, _, rfl, a, _, 2, 2, rfl, rfl, hA, rfl, ?_⟩
      refine ⟨_, rfl, .inl ⟨_, rfl, _, rfl, _, _, rfl, rfl, m0, ?_⟩⟩
      exact k _ (r % m) (Int.emod_nonneg _ (by omega)) (Int.emod_lt_of_pos _ m0) (HandAt.put hC hca hlen i0 (by omega) (Int.ediv_nonneg r0 (by omega))) Kept.upd
    -- at = hand[1]; hand[1] = at + 1; cell = ..
    refine ⟨_, rfl, a, _, 1, _, rfl, rfl, SqL.of hA, rfl, ?_⟩
    refine ⟨_, rfl, _, _, rfl, rfl, _, rfl, a, _, 1, 1, rfl, rfl, hA, rfl, ?_⟩
    refine ⟨_, rfl, _, _, rfl, rfl, .inl ⟨by decide, by decide⟩, _, _, rfl, rfl, ?_⟩
    -- H1: the heap behind this
    obtain ⟨H1, eH1⟩ : ∃ H1, H1 = upd H a (.lst [.ref c, .int (i + 1), .int r]) := ⟨_, rfl⟩
    have kH : Kept a H H1 := by rw [eH1]; exact Kept.upd
    have hA1 : H1 a = some (.lst [.ref c, .int (i + 1), .int r]) := by rw [eH1]; exact upd_same
    have hC1 : H1 c = some (.lst (ns.map V.int)) := by rw [eH1, upd_ne hca]; exact hC
    show Evl.tCut _ _ _ _ (upd H a (.lst [.ref c, .int (i + 1), .int r]))
    rw [← eH1]
    refine ⟨fun σ' H' => Same H1 H' ∧ ∃ cell : Int, σ' = [some (.ref a), some (.int m), none, some (.int i), some (.int cell), none], ?_, ?_⟩
    · refine ⟨_, rfl, a, _, 0, _, rfl, rfl, SqL.of hA1, rfl, Nat.zero_le _, fun p hp => ?_⟩
      have hcp : c ≠ p := ne_of_none hC1 hp
      have hap : a ≠ p := ne_of_none hA1 hp
      have sm : Same H1 (upd H1 p (.lst [])) := fun b o e => by rw [upd_ne (ne_of_none e hp)]; exact e
      refine ⟨.list (ns.map PyData.int), .list [], .lst (SqL.of (sm _ _ hC1)) (dpInts ns), .lst (SqL.of upd_same) .nil, PySem.W.ke_shaped_ints ns, rfl, _, rfl, ?_⟩
      refine ite2 (fun hne => ?_) (fun _ => ?_)
      · have hn0 : 0 < ns.length := by
          cases ns with
          | nil => exact absurd hne (by decide)
          | cons x xs => exact Nat.succ_pos _
        have hl0 : (0 : Int) < (((ns.map V.int).length : Nat) : Int) := by rw [List.length_map]; omega
        have hj0 : 0 ≤ i % (((ns.map V.int).length : Nat) : Int) := Int.emod_nonneg _ (by omega)
        have hj1 : i % (((ns.map V.int).length : Nat) : Int) < (((ns.map V.int).length : Nat) : Int) := Int.emod_lt_of_pos _ hl0
        obtain ⟨j, hj⟩ : ∃ j : Nat, i % (((ns.map V.int).length : Nat) : Int) = (j : Int) := ⟨(i % (((ns.map V.int).length : Nat) : Int)).toNat, by omega⟩
        have hjl : j < ns.length := by rw [List.length_map] at hj1 hj; omega
        refine ⟨_, rfl, a, _, 0, _, rfl, rfl, SqL.of (sm _ _ hA1), rfl, _, rfl, .inl ⟨_, rfl, ?_⟩⟩
        refine ⟨_, rfl, a, _, 0, _, rfl, rfl, SqL.of (sm _ _ hA1), rfl, c, _, rfl, .inl (SqL.of (sm _ _ hC1)), _, _, rfl, rfl, hl0, c, _, _, .int ns[j], rfl, rfl, SqL.of (sm _ _ hC1), ?_, ?_⟩
        · rw [hj]
          exact atI_nat (by rw [List.getElem?_map, List.getElem?_eq_getElem hjl]; rfl)
        · exact ⟨sm, ns[j], rfl⟩
      · exact ⟨sm, _, rfl⟩
    · rintro σ' H2 ⟨sm, cell, rfl⟩
      have hA2 := sm _ _ hA1
      have hC2 := sm _ _ hC1
      have kH2 : Kept a H H2 := fun b o e q => sm b o (kH b o e q)
      -- a great cell: what is left of it
      refine ⟨fun σ' H' => σ' = [some (.ref a), some (.int m), none, some (.int i), some (.int cell), none] ∧ H' = H2, ?_, ?_⟩
      · refine ⟨_, rfl, _, rfl, a, _, 0, _, rfl, rfl, SqL.of hA2, rfl, c, _, rfl, .inl (SqL.of hC2), _, _, rfl, rfl, _, rfl, ?_⟩
        refine ite2 (fun _ => ?_) (fun _ => ?_)
        · refine ⟨_, rfl, cell, rfl, _, _, rfl, rfl, ⟨by decide, by decide, by decide⟩, _, _, rfl, rfl, _, rfl, ?_⟩
          refine ite2 (fun hge => ?_) (fun _ => ⟨rfl, rfl⟩)
          have hge' := of_decide_eq_true hge
          refine ⟨_, rfl, cell, rfl, _, _, rfl, rfl, ⟨by decide, by decide, by decide⟩, _, _, rfl, rfl, _, _, rfl, rfl, .inl ⟨by decide, by decide⟩, _, rfl, _, _, rfl, rfl, .inr ⟨_, rfl, _, _, rfl, rfl, ?_⟩⟩
          have hr2 : ∀ b : Bool, 0 ≤ 2 * ((if cell < 0 then -cell else cell) - (10 : Int) ^ Int.toNat 18) + (if b = true then 1 else 0) := by
            intro b
            have e1 : (if b = true then (1 : Int) else 0) ≥ 0 := by cases b <;> decide
            have e2 : (10 : Int) ^ Int.toNat 18 ≤ (if cell < 0 then -cell else cell) := hge'
            omega
          refine ⟨_, rfl, .inl ⟨_, rfl, _, rfl, _, _, rfl, rfl, hdv _, _, rfl, a, _, 2, 2, rfl, rfl, hA2, rfl, ?_⟩⟩
          refine ⟨_, rfl, .inl ⟨_, rfl, _, rfl, _, _, rfl, rfl, m0, ?_⟩⟩
          exact k _ _ (Int.emod_nonneg _ (by omega)) (Int.emod_lt_of_pos _ m0) (HandAt.put hC2 hca hlen (by omega) (by omega) (Int.ediv_nonneg (hr2 _) (by omega))) (kH2.trans Kept.upd)
        · exact ⟨rfl, rfl⟩
      · rintro σ' H3 ⟨rfl, rfl⟩
        have hin : i ≤ 10000 := by omega
        have b1 : 0 ≤ cell % 2147483549 := Int.emod_nonneg _ (by decide)
        have b2 : cell % 2147483549 < 2147483549 := Int.emod_lt_of_pos _ (by decide)
        refine ⟨_, rfl, .inl ⟨_, rfl, _, _, rfl, rfl, (by decide : (0 : Int) < 2147483549), _, rfl, _, _, rfl, rfl, .inl ⟨by decide, by decide⟩, _, _, rfl, rfl, _, _, rfl, rfl, _, _, rfl, rfl, ⟨by decide, by decide, ?_⟩, ?_⟩⟩
        · show (cell % 2147483549 + 40129 * i + 7151).natAbs < 2 ^ 64
          have e : (2 : Nat) ^ 64 = 18446744073709551616 := by decide
          rw [e]
          omega
        have hb : ∀ x : Int, ((x % 2147483579) * (2 * i + 2221) + 56131 * i * i + 60037).natAbs < 2 ^ 64 := by
          intro x
          have b3 : 0 ≤ x % 2147483579 := Int.emod_nonneg _ (by decide)
          have b4 : x % 2147483579 < 2147483579 := Int.emod_lt_of_pos _ (by decide)
          have e : (2 : Nat) ^ 64 = 18446744073709551616 := by decide
          have c1 : 0 ≤ (x % 2147483579) * (2 * i + 2221) := Int.mul_nonneg b3 (by omega)
          have c2 : (x % 2147483579) * (2 * i + 2221) ≤ 2147483579 * 22221 := Int.mul_le_mul (by omega) (by omega) (by omega) (by omega)
          have c3 : 0 ≤ 56131 * i * i := Int.mul_nonneg (by omega) i0
          have c4 : 56131 * i * i ≤ 561310000 * 10000 := Int.mul_le_mul (by omega) hin i0 (by omega)
          rw [e]
          omega
        have hc : ∀ x : Int, CMul (x % 2147483579) (2 * i + 2221) := by
          intro x
          have b3 : 0 ≤ x % 2147483579 := Int.emod_nonneg _ (by decide)
          have b4 : x % 2147483579 < 2147483579 := Int.emod_lt_of_pos _ (by decide)
          exact .inl ⟨by omega, by omega⟩
        refine .inl ⟨_, rfl, _, _, rfl, rfl, (by decide : (0 : Int) < 2147483579), ?_⟩
        refine ⟨_, rfl, _, rfl, _, _, rfl, rfl, .inl ⟨by decide, by decide⟩, _, _, rfl, rfl, _, _, rfl, rfl, hc _, _, rfl, _, _, rfl, rfl, .inl ⟨by decide, by decide⟩, _, rfl, _, _, rfl, rfl, .inl ⟨by omega, by omega⟩, _, _, rfl, rfl, _, _, rfl, rfl, _, _, rfl, rfl, ⟨by decide, by decide, hb _⟩, ?_⟩
        refine .inl ⟨_, rfl, _, _, rfl, rfl, (by decide : (0 : Int) < 2147483563), ?_⟩
        refine ⟨_, rfl, _, _, rfl, rfl, ⟨by decide, by decide⟩, .inl ⟨_, rfl, _, rfl, _, _, rfl, rfl, m0, ?_⟩⟩
        exact k _ _ (Int.emod_nonneg _ (by omega)) (Int.emod_lt_of_pos _ m0) ⟨ns, i + 1, r, hA2, hC2, hca, hlen, by omega, by omega, r0⟩ kH2
end
end W14
set_option Elab.async false
set_option linter.all false
set_option maxRecDepth 100000
set_option maxHeartbeats 2000000
namespace W14
open PySem L2 PySem.Spec PyProof.Rows WR WB
structure EqW (P : Program) (w : World) (K : PySem.W.Frag) (mg : Str → Option Value) (base : Heap) (C : Addr) : Prop where
  ex : ∃ (f : Addr) (fd : FuncData), FnOk P w K mg base CX0 1 f fd ["self", "other"] (spEq K C) ∧ PySem.W.findIn K (.ref C) "__eq__" = some (some (.ref f)) ∧ PySem.W.isFn K (.ref f) = true ∧ Binds K fd ["self", "other"] []
/-- two words, held against one another -/
def rEqW (K : PySem.W.Frag) (C : Addr) : R2 := fun x y H Q => ∃ (p q : Addr) (ns ms : List Int), x = .ref p ∧ y = .ref q ∧ WordAt K C H p ns ∧ WordAt K C H q ms ∧ Q (.bl (decide (ns = ms))) H
section
variable {X : Cx} {C : Addr}
theorem op_eqW (M : EqW X.prog X.w X.K X.mg X.base C) {j : Nat} (hr : Room j X.A) (hj : 1 ≤ j) : OpR X (compareOp .Eq) (rEqW X.K C) := by
  intro pins s σ H x y u v Q I rx ry d
  obtain ⟨f, fd, F, hs, hf, hb⟩ := M.ex
  obtain ⟨a, b, ns, ms, rfl, rfl, W1, W2, hq⟩ := d
  cases rx
  cases ry
  obtain ⟨dx, tl, tk, ks, ha, _⟩ := id W1
  obtain ⟨dx', tl', tk', ks', hb', _⟩ := id W2
  obtain ⟨mA, J, _⟩ := ins_get I.hok ha
  obtain ⟨mB, J', _⟩ := ins_get I.hok hb'
  obtain ⟨od, J, _⟩ := J.look
  obtain ⟨od', J', _⟩ := J'.look
  obtain ⟨m, hF⟩ := I.fr
  have rm : Room 1 X.A := hr.mono hj
  show wpAny (model X.prog X.w) X.A (richCompare .Eq (.ref a) (.ref b)) (EP X pins σ Q) X.xe s
  refine PySem.W.cmp_K (op := .Eq) (tb := .ref C) rm.units0 hF I.ok.mod.kin J J'.type (by simp [PySem.W.notFirst]) hs hf ?_
  have hsp : spEq X.K C [.ref a, .ref b] H (fun v H' => ∃ c, v = .bl c ∧ Q (.bl c) H') E0 := ⟨a, b, ns, ms, rfl, W1, W2, _, rfl, hq⟩
  have e0 : Env0 X.prog X.w X.K X.mg X.base X.A X.stack s H := I.env0
  have hl := F.len _ _ _ _ hsp
  have r2 : Vals [V.ref a, V.ref b] [Value.ref a, Value.ref b] := .cons rfl (.cons rfl .nil)
  refine wpAny_call (codeAny_mono (F.run X.A X.stack s H ⟨[.ref a, .ref b], []⟩ [.ref a, .ref b] [.ref a, .ref b] _ E0 rm e0 (by
    have := hb s [.ref a, .ref b] I.kIn (by simpa using hl)
    simpa using this) r2 hsp) fun r s' hq => ?_)
  cases r with
  | error e => exact pass0 pins σ H s e s' I hq
  | ok fl =>
    cases fl with
    | ret w =>
      obtain ⟨z, H', I', rz, c, ez, q⟩ := I.after hq
      subst ez
      cases rz
      exact ⟨.bl c, H', I', rfl, q⟩
    | next => exact False.elim hq
    | brk => exact False.elim hq
    | cont => exact False.elim hq
end
end W14
set_option Elab.async false
set_option linter.all false
set_option maxRecDepth 100000
set_option maxHeartbeats 2000000
/-! x != y, of two instances whose class has an own == and no own !=. -/
namespace NeK
open PySem PySem.Spec PyProof.Rows PySem.SeqAt
section
variable {M : Model} {prog : Program} {w : World} {A : Around} {E : Value → Shared → Prop} {s : Shared} {K : PySem.W.Frag} {x y f C : Addr} {ox oy : Obj} {od od' : Option Obj}
theorem ne_entry (hu : A.units < cLine) (X : K.In s.heap) (I : PySem.W.InstAt s.heap x ox C od) (hs : PySem.W.findIn K (.ref C) "__eq__" = some (some (.ref f))) (hf : PySem.W.isFn K (.ref f) = true) {Q : Fin → Shared → Prop}
    (hcall : wpAny (model prog w) A (call (.ref f) [.ref x, .ref y]) (fun v s' => ∃ b, v = .bool b ∧ Q (.done (.ret (.bool (!b)))) s') E s) :
    wpAny (model prog w) A (Builtin.«object.__ne__» ⟨[.ref x, .ref y], []⟩) Q E s := by
  unfold Builtin.«object.__ne__»
  repeat (first
    | with_reducible refine wpAny_cRoomFor hu ?_
    | (refine wpAny_bind (m := callSpecialIfBound? (.ref x) (Str.ofString "__eq__") [.ref y])
        (PySem.W.ifBound_K X I hs hf (wpAny_mono hcall (fun r s' hr => by
          obtain ⟨b, rfl, hq⟩ := hr
          repeat (first | exact hq | exact wpAny_pure hq | exact wpAny_truthy_bool hq | (refine wpAny_bind (m := truthy (.bool _)) (wpAny_truthy_bool ?_)) | wp_step)) fun _ _ e => e)))
    | wp_step)
theorem ifBound_ne {args : List Value} {Q : Option Value → Shared → Prop} (X : K.In s.heap) (I : PySem.W.InstAt s.heap x ox C od) (hs : PySem.W.findIn K (.ref C) "__ne__" = some (some (.builtin "object.__ne__")))
    (h : wpAny M A (call (.builtin "object.__ne__") (.ref x :: args)) (fun v => Q (some v)) E s) : wpAny M A (callSpecialIfBound? (.ref x) "__ne__" args) Q E s := by
  simp only [callSpecialIfBound?, bindSpecialIfBound?]
  refine wpAny_holding (wpAny_bind (wpAny_bind (wpAny_bind (I.type.here ((PySem.W.looks_findIn X hs).here ?_)))))
  refine wpAny_bind (wpAny_askSetting (wpAny_ite ?_))
  have fin : wpAny M A (call (.builtin "object.__ne__") ([.ref x] ++ args) >>= fun v => pure (some v)) Q E s := wpAny_bind (wpAny_mono h (fun v s' h' => wpAny_pure h') fun _ _ h' => h')
  split
  · exact wpAny_bind (wpAny_of_eq (F.cmp_object.ne.bind _) (wpAny_pure (by exact fin)))
  · exact wpAny_tryCatch (wpAny_bind (wpAny_of_eq (F.cmp_object.ne.bind _) (wpAny_pure (by exact fin))))
theorem rc_ne (hu : A.units + 1 < cLine) (X : K.In s.heap) (I : PySem.W.InstAt s.heap x ox C od) (I' : PySem.W.InstAt s.heap y oy C od') (hm : PySem.W.mroIn K C (.type "object") = some true) (hs : PySem.W.findIn K (.ref C) "__eq__" = some (some (.ref f))) (hf : PySem.W.isFn K (.ref f) = true)
    (hn : PySem.W.findIn K (.ref C) "__ne__" = some (some (.builtin "object.__ne__"))) {Q : Value → Shared → Prop}
    (hcall : wpAny (model prog w) A.in1 (call (.ref f) [.ref x, .ref y]) (fun v s' => ∃ b, v = .bool b ∧ Q (.bool (!b)) s') E s) :
    wpAny (model prog w) A (richCompare .NotEq (.ref x) (.ref y)) Q E s := by
  have one : wpAny (model prog w) A (tryCompare (.ref x) "__ne__" (.ref y)) (fun r s' => ∃ b, r = some (.bool b) ∧ Q (.bool b) s') E s := by
    unfold tryCompare
    refine wpAny_bind (ifBound_ne X I hn (wpAny_call (codeAny_call_builtin F.cmp_object.ne.plain F.cmpEntry_ne (PySem.W.check_slot F.cmpKind_ne F.cmpSplit_ne (I.type.andThen (PySem.W.looks_mroIn X hm)) (F.cmpArgs_ne _ _)
      (ne_entry (A := A.in1) hu X I hs hf (wpAny_mono hcall (fun v s' hv => ?_) fun _ _ e => e))))))
    obtain ⟨b, rfl, hq⟩ := hv
    first | exact ⟨b, rfl, wpAny_pure ⟨_, rfl, hq⟩⟩ | exact ⟨b, rfl, wpAny_pure (wpAny_pure ⟨_, rfl, hq⟩)⟩ | exact ⟨b, rfl, _, rfl, hq⟩
  unfold richCompare
  simp only [oneThing_ref]
  refine wpAny_holding (wpAny_bind (wpAny_cRoomFor (Nat.lt_of_succ_lt hu) ?_))
  rw [cmpInfo_NotEq]
  dsimp only
  refine wpAny_bind (I.type.here (wpAny_bind (I'.type.here ?_)))
  rw [show (Value.ref C != Value.ref C) = false from by simp]
  simp only [Bool.false_eq_true, if_false]
  refine wpAny_bind (wpAny_pure ?_)
  simp only [Bool.false_eq_true, if_false]
  refine wpAny_bind (wpAny_mono one (fun v s' hv => ?_) fun _ _ e => e)
  obtain ⟨b, rfl, hq⟩ := hv
  first | exact wpAny_pure hq | exact wpAny_pure (wpAny_pure hq) | exact hq
end
end NeK
namespace W14
open PySem L2 PySem.Spec PyProof.Rows WR WB
def rNeW (K : PySem.W.Frag) (C : Addr) : R2 := fun x y H Q => ∃ (p q : Addr) (ns ms : List Int), x = .ref p ∧ y = .ref q ∧ WordAt K C H p ns ∧ WordAt K C H q ms ∧ Q (.bl (!decide (ns = ms))) H
section
variable {X : Cx} {C : Addr}
theorem op_neW (M : EqW X.prog X.w X.K X.mg X.base C) (hne : PySem.W.findIn X.K (.ref C) "__ne__" = some (some (.builtin "object.__ne__"))) (hmr : PySem.W.mroIn X.K C (.type "object") = some true) {j : Nat} (hr : Room j X.A) (hj : 2 ≤ j) : OpR X (compareOp .NotEq) (rNeW X.K C) := by
  intro pins s σ H x y u v Q I rx ry d
  obtain ⟨f, fd, F, hs, hf, hb⟩ := M.ex
  obtain ⟨a, b, ns, ms, rfl, rfl, W1, W2, hq⟩ := d
  cases rx
  cases ry
  obtain ⟨dx, tl, tk, ks, ha, _⟩ := id W1
  obtain ⟨dx', tl', tk', ks', hb', _⟩ := id W2
  obtain ⟨mA, J, _⟩ := ins_get I.hok ha
  obtain ⟨mB, J', _⟩ := ins_get I.hok hb'
  obtain ⟨od, J, _⟩ := J.look
  obtain ⟨od', J', _⟩ := J'.look
  have rm2 : Room 2 X.A := hr.mono hj
  have rm : Room 1 X.A.in1 := rm2.in1
  show wpAny (model X.prog X.w) X.A (richCompare .NotEq (.ref a) (.ref b)) (EP X pins σ Q) X.xe s
  refine NeK.rc_ne (by have := rm.units0; exact this) I.kIn J J' hmr hs hf hne ?_
  have hsp : spEq X.K C [.ref a, .ref b] H (fun v H' => ∃ c, v = .bl c ∧ Q (.bl (!c)) H') E0 := ⟨a, b, ns, ms, rfl, W1, W2, _, rfl, hq⟩
  have e0 : Env0 X.prog X.w X.K X.mg X.base X.A.in1 X.stack s H := by
    have e := I.env0
    exact ⟨e.frames, e.mod, e.bs, e.bsz, e.funs, e.frf, e.hok, e.bare⟩
  have hl := F.len _ _ _ _ hsp
  have r2 : Vals [V.ref a, V.ref b] [Value.ref a, Value.ref b] := .cons rfl (.cons rfl .nil)
  refine wpAny_call (codeAny_mono (F.run X.A.in1 X.stack s H ⟨[.ref a, .ref b], []⟩ [.ref a, .ref b] [.ref a, .ref b] _ E0 rm e0 (by
    have := hb s [.ref a, .ref b] I.kIn (by simpa using hl)
    simpa using this) r2 hsp) fun r s' hq => ?_)
  cases r with
  | error e => exact pass0 pins σ H s e s' I hq
  | ok fl =>
    cases fl with
    | ret w =>
      obtain ⟨z, H', I', rz, c, ez, q⟩ := I.after hq
      subst ez
      cases rz
      exact ⟨c, rfl, .bl (!c), H', I', rfl, q⟩
    | next => exact False.elim hq
    | brk => exact False.elim hq
    | cont => exact False.elim hq
end
end W14
set_option Elab.async false
set_option linter.all false
set_option maxRecDepth 100000
set_option maxHeartbeats 2000000
namespace W14
open PySem L2 PySem.Spec PyProof.Rows WR WB
abbrev sPick : Stmt := top 65
def Drew (a c : Addr) (n : Nat) (H H' : Hp) : Prop := HandAt H' a c n ∧ Kept a H H'
theorem HandAt.mono {H : Hp} {a c : Addr} {m n : Nat} (h : HandAt H a c m) (l : m ≤ n) : HandAt H a c n := by
  obtain ⟨ns, i, r, h1, h2, h3, h4, h5, h6, h7⟩ := h
  exact ⟨ns, i, r, h1, h2, h3, h4, h5, by omega, h7⟩
theorem HandAt.off {H : Hp} {a c p : Addr} {n : Nat} {o : HO} (h : HandAt H a c n) (h1 : p ≠ a) (h2 : p ≠ c) : HandAt (L2.upd H p o) a c n := by
  obtain ⟨ns, i, r, h3, h4, h5⟩ := h
  exact ⟨ns, i, r, by rw [upd_ne h1.symm]; exact h3, by rw [upd_ne h2.symm]; exact h4, h5⟩
theorem HandAt.ne {H : Hp} {a c p : Addr} {n : Nat} (h : HandAt H a c n) (hp : H p = none) : p ≠ a := by
  obtain ⟨ns, i, r, h1, _⟩ := h
  exact (ne_of_none h1 hp).symm
theorem HandAt.neC {H : Hp} {a c p : Addr} {n : Nat} (h : HandAt H a c n) (hp : H p = none) : p ≠ c := by
  obtain ⟨ns, i, r, h1, h2, _⟩ := h
  exact (ne_of_none h2 hp).symm
theorem HandAt.new {H : Hp} {a c p : Addr} {n : Nat} {o : HO} (h : HandAt H a c n) (hp : H p = none) : HandAt (L2.upd H p o) a c n := h.off (h.ne hp) (h.neC hp)
theorem Drew.refl {a c : Addr} {n : Nat} {H : Hp} (h : HandAt H a c n) : Drew a c n H H := ⟨h, Kept.refl⟩
theorem Drew.trans {a c : Addr} {m n : Nat} {H H1 H2 : Hp} (h1 : Drew a c m H H1) (h2 : Drew a c n H1 H2) : Drew a c n H H2 := ⟨h2.1, h1.2.trans h2.2⟩
theorem Drew.new {a c p : Addr} {n : Nat} {H H1 : Hp} {o : HO} (h : Drew a c n H H1) (hp : H1 p = none) : Drew a c n H (L2.upd H1 p o) := ⟨h.1.new hp, h.2.new hp⟩
theorem Drew.mono {a c : Addr} {m n : Nat} {H H1 : Hp} (h : Drew a c m H H1) (l : m ≤ n) : Drew a c n H H1 := ⟨h.1.mono l, h.2⟩
/-- an object that was not there at first may change -/
theorem Drew.put {a c p : Addr} {n : Nat} {H H1 : Hp} {o : HO} (h : Drew a c n H H1) (h0 : H p = none) (h1 : p ≠ a) (h2 : p ≠ c) : Drew a c n H (L2.upd H1 p o) :=
  ⟨h.1.off h1 h2, fun b u nb e => by rw [upd_ne (ne_of_none e h0)]; exact h.2 b u nb e⟩
theorem Drew.back {a c p : Addr} {n : Nat} {H H1 : Hp} (h : Drew a c n H H1) (hp : H1 p = none) : H p = none := by
  cases e : H p with
  | none => rfl
  | some o =>
    have q := h.2 p o (h.1.ne hp) e
    rw [hp] at q
    cases q
theorem HandAt.same {H H' : Hp} {a c : Addr} {n : Nat} (h : HandAt H a c n) (s : Same H H') : HandAt H' a c n := by
  obtain ⟨ns, i, r, h1, h2, h3⟩ := h
  exact ⟨ns, i, r, s _ _ h1, s _ _ h2, h3⟩
theorem Drew.same {a c : Addr} {n : Nat} {H H1 H2 : Hp} (h : Drew a c n H H1) (s : Same H1 H2) : Drew a c n H H2 := ⟨h.1.same s, fun b o nb e => s b o (h.2 b o nb e)⟩
/-- a new list of these ints -/
def NewL (H : Hp) (Q : VK) (ns : List Int) : Prop := ∀ p H', H p = none → Same H H' → H' p = some (.lst (iv ns)) → Q (.ref p) H'
def spPick : Sp := fun vs H Q _ => ∃ (a c p : Addr) (xs : List V) (n : Nat), vs = [.ref a, .ref p] ∧ HandAt H a c n ∧ n ≤ 10000 ∧ p ≠ a ∧ H p = some (.lst xs) ∧ 0 < xs.length ∧ xs.length ≤ 1000 ∧ ∀ v ∈ xs, ∀ H', Drew a c (n + 1) H H' → Q v H'
structure TxN (mg : Str → Option Value) : Prop where
  range : mg "range" = none
  list : mg "list" = none
theorem Drew.ofNew {a c p : Addr} {n : Nat} {H H' : Hp} (d : Drew a c n H H') (h0 : HandAt H a c n) {o : HO} (hp : H p = some o) (hn : p ≠ a) : H' p = some o := d.2 _ _ hn hp
section
variable {P : Program} {w : World} {K : PySem.W.Frag} {mg : Str → Option Value} {base : Heap}
theorem scPick : FnScope ["_law_pen_here", "_law_some"] ["_law_pen_here", "_law_some"] (defScope sPick) := ⟨rfl, rfl, rfl, by decide +kernel, rfl, by decide +kernel, by decide +kernel⟩
theorem ok_pick {f : Addr} {fd : FuncData} (F : Fun K "_law_pick" "_law_pick" sPick f fd) (GT : Cal P w K mg base "_law_draw" 1 ["_law_pen_here", "_law_many"] spTake) (T : TxL mg) : FnOk P w K mg base CX0 2 f fd ["_law_pen_here", "_law_some"] spPick := by
  refine F.ok scPick (fun vs H Q E h => ?_) (fun cdv A outer s H vs Q E hr h => ?_)
  · obtain ⟨a, c, p, xs, n, rfl, _⟩ := h
    rfl
  · obtain ⟨a, c, p, xs, n, rfl, hH, hn, hpa, hp, h0, h1, k⟩ := h
    refine ⟨_, pss_one (ps_ret (pe_ix ix_list (pv 1) (pe_cal GT hr (by decide) (by rfl) (pa_cons (pv 0) (pa_cons (pe_callB call_len_seq (by rfl) T.len PySem.boot_len (pa_cons (pv 1) pa_nil)) pa_nil))) (fun _ _ => rfl))), ?_⟩
    refine ⟨_, rfl, _, rfl, _, rfl, p, _, rfl, .inl (SqL.of hp), a, c, _, n, rfl, hH, hn, by omega, ?_, ?_⟩
    · have : (((xs.length : Nat) : Int)).natAbs ≤ 1000 := by omega
      exact Nat.lt_of_le_of_lt this (by decide)
    · intro H' q q0 q1 hH' hK
      obtain ⟨j, rfl⟩ : ∃ j : Nat, q = (j : Int) := ⟨q.toNat, by omega⟩
      have hj : j < xs.length := by omega
      refine ⟨p, xs, _, xs[j], rfl, rfl, SqL.of (hK _ _ hpa hp), atI_nat (List.getElem?_eq_getElem hj), ?_⟩
      exact k _ (List.getElem_mem hj) H' ⟨hH', hK⟩
theorem int_eq {x y : Int} : decide (V.int x = V.int y) = decide (x = y) := by
  rw [Bool.eq_iff_iff, decide_eq_true_iff, decide_eq_true_iff]
  exact ⟨fun e => by injection e, fun e => by rw [e]⟩
end
end W14
set_option Elab.async false
set_option linter.all false
set_option maxRecDepth 100000
set_option maxHeartbeats 2000000
/-! C.m(..), m a staticmethod of the class C. -/
namespace MStat
open PySem L2 PySem.Spec PyProof.Rows
/-- m is a staticmethod of C: its record at p, its def at g -/
structure SMet (K : PySem.W.Frag) (C : Addr) (mc : Value) (m : Str) (p g : Addr) : Prop where
  rd : PySem.W.readsIn K C mc = true
  ga : PySem.W.specialIn K (.ref C) "__getattribute__" = some (some (.builtin "type.__getattribute__"))
  at_ : PySem.W.findCls K (.ref C) mc m = some (.get (.builtin "staticmethod.__get__") (.ref p) .none (.ref C))
  rc : ∃ rest, PySem.W.recIn K p "staticmethod" = some (.ref g :: rest)
  kp : PySem.W.keepIn K (.ref g) = true
section
variable {X : Cx} {pins : List (Addr × Obj)} {σ : L2.St} {H : Hp} {s : Shared} {C p g : Addr} {mc : Value} {m : Str} {A : Around} {E : Value → Shared → Prop}
theorem getsm_ok {pl : Sem Bool} {Q : Value × List Value → Shared → Prop} (I : Inv X pins σ H s) (k : SMet X.K C mc m p g) (h : ∀ s', Inv X pins σ H s' → Q (.ref g, []) s') : wpAny (model X.prog X.w) A (getMethod (.ref C) m pl) Q E s := by
  obtain ⟨rest, hp⟩ := k.rc
  refine PySem.W.method_cls I.kIn k.ga (PySem.W.cls_bind I.kIn k.rd k.at_ ?_)
  refine wpAny_call (PySem.W.sm_get (s := { s with toks := s.toks + 1 }) I.kIn hp (PySem.W.handed_on rfl ?_))
  exact h _ (I.tok _)
end
/-- C.m(..) by place -/
def tSMeth (C : Addr) (sp : Sp) (ta : TE) (t : TA) : TE := fun σ H Q => ta σ H fun x H1 => x = .ref C ∧ t σ H1 fun vs H2 => sp vs H2 Q E0
/-- C.m(..) by keywords alone -/
def tSMethK (C : Addr) (sp : Sp) (gV : List V → List V) (n : Nat) (ta : TE) (tk : TA) : TE := fun σ H Q => ta σ H fun x H1 => x = .ref C ∧ tk σ H1 fun zs H2 => zs.length = n ∧ sp (gV zs) H2 Q E0
section
variable {X : Cx} {k j : Nat} {C : Addr} {sp : Sp} {ps ks : List Str} {gV : List V → List V} {o e : Expr} {es : List Expr} {m : Str} {pos apos : Pos} {ta : TE} {t tk : TA} {kws : List Keyword} {pl : Sem Bool} {fd : FuncData} {p g : Addr} {mc : Value}
theorem pe_smeth (he : PE X o ta) (c : SMet X.K C mc m p g) (F : FnOk X.prog X.w X.K X.mg X.base CX0 k g fd ps sp) (hr : Room k X.A) (hb : Binds X.K fd ps []) (ha : PA X (e :: es) t)
    (hst : starEach (e :: es) X.env = (false, eval e X.env) :: starEach es X.env := by rfl) (hpl : (backTo pos (starEach es X.env)).any (·.1) = false := by rfl)
    (ht : eval (.Call (.Attribute o m apos) (e :: es) [] pos) X.env = (do
      let ov ← eval o X.env
      standAt apos.atName
      let (f, first) ← holding [ov] (getMethod ov m pl)
      callWith pos f first (backTo pos (starEach (e :: es) X.env)) (backToKw pos (keywordEach [] X.env))) := by rfl) :
    PE X (.Call (.Attribute o m apos) (e :: es) [] pos) (tSMeth C sp ta t) := by
  refine ⟨fun pins s σ H Q I h => ?_⟩
  refine PySem.W.methodCall_KW (pl := pl) (thn (he.run pins s σ H _ I h) fun u s1 ⟨x, H1, I1, rx, ex, q⟩ => ?_) ht
  subst ex
  obtain rfl : u = Value.ref C := rx
  refine getsm_ok I1 c fun s2 I2 => ?_
  refine PySem.W.callWith_K (first := []) (h₀ := X.base) I2.ok.mod.kin c.kp (thn (ha.run pos pins s2 σ H1 _ I2 q) fun us s3 ⟨vs, H2, I3, rv, q2⟩ => ⟨I3.kIn, ?_⟩) hst hpl
  exact run_fn (us := us) (vs := vs) (dvs := []) (ds := []) F hr hb .nil pass0 I3 rv (by simpa using q2)
theorem pe_smethK (he : PE X o ta) (c : SMet X.K C mc m p g) {gg : List Value → List Value} (F : FnOk X.prog X.w X.K X.mg X.base CX0 k g fd ps sp) (hr : Room k X.A) (hb : KBn X.K fd ps 0 ks (fun _ ws => gg ws) (fun _ zs => gV zs)) (hkw : PK X kws tk)
    (hall : (backToKw pos (keywordEach kws X.env)).all (·.1.isSome) = true := by rfl) (hks : (backToKw pos (keywordEach kws X.env)).filterMap (·.1) = ks := by rfl)
    (hpl : ((backTo pos (starEach [] X.env)).any (·.1) || (backToKw pos (keywordEach kws X.env)).any (·.1.isNone)) = false := by rfl)
    (ht : eval (.Call (.Attribute o m apos) [] kws pos) X.env = (do
      let ov ← eval o X.env
      standAt apos.atName
      let (f, first) ← holding [ov] (getMethod ov m pl)
      callWith pos f first (backTo pos (starEach [] X.env)) (backToKw pos (keywordEach kws X.env))) := by rfl) :
    PE X (.Call (.Attribute o m apos) [] kws pos) (tSMethK C sp gV ks.length ta tk) := by
  refine ⟨fun pins s σ H Q I h => ?_⟩
  refine PySem.W.methodCall_KW (pl := pl) (thn (he.run pins s σ H _ I h) fun u s1 ⟨x, H1, I1, rx, ex, q⟩ => ?_) ht
  subst ex
  obtain rfl : u = Value.ref C := rx
  refine getsm_ok I1 c fun s2 I2 => ?_
  refine PySem.W.callWith_KW0 (first := []) (h₀ := X.base) I2.ok.mod.kin c.kp hall ?_ hpl
  refine thn (hkw.run pos pins s2 σ H1 _ I2 q) fun ws s3 ⟨zs, H2, I3, rz, lz, q2⟩ => ⟨I3.kIn, ?_⟩
  rw [hks]
  have r2 := hb.rel (vs := []) (us := []) .nil rz
  have hl : ws.length = ks.length := by rw [← rz.length, lz]
  refine wpAny_call (codeAny_mono (F.run X.A X.stack s3 H2 ⟨[], ks.zip ws⟩ (gg ws) (gV zs) Q E0 hr I3.env0 (hb.to s3 [] ws I3.kIn rfl hl) r2 q2) fun r s' hq => ?_)
  cases r with
  | error e => exact pass0 pins σ H2 s3 e s' I3 hq
  | ok fl =>
    cases fl with
    | ret u => exact I3.after hq
    | next => exact False.elim hq
    | brk => exact False.elim hq
    | cont => exact False.elim hq
end
end MStat
set_option Elab.async false
set_option linter.all false
set_option maxRecDepth 100000
set_option maxHeartbeats 2000000
/-! str(x), len(x), x an instance of an own class with an own __str__, __len__. -/
namespace MStr
open PySem L2 PySem.Spec PyProof.Rows
/-- a def of the class C under a special name, with its promise -/
structure Spe (P : Program) (w : World) (K : PySem.W.Frag) (mg : Str → Option Value) (base : Heap) (C : Addr) (m : Str) (k : Nat) (sp : Sp) : Prop where
  ex : ∃ (f : Addr) (fd : FuncData), FnOk P w K mg base CX0 k f fd ["self"] sp ∧ PySem.W.findIn K (.ref C) m = some (some (.ref f)) ∧ PySem.W.isFn K (.ref f) = true ∧ Binds K fd ["self"] []
def rStrO (C : Addr) (sp : Sp) : List V → Hp → VK → Prop := fun xs H Q => ∃ (p dx : Addr) (fs : List (Str × V)), xs = [.ref p] ∧ H p = some (.ins C dx fs) ∧ sp [.ref p] H (fun v H' => ∃ z : Str, v = .str z ∧ Q v H') E0
def rLenO (C : Addr) (sp : Sp) : List V → Hp → VK → Prop := fun xs H Q => ∃ (p dx : Addr) (fs : List (Str × V)), xs = [.ref p] ∧ H p = some (.ins C dx fs) ∧ sp [.ref p] H (fun v H' => ∃ n : Nat, v = .int (n : Int) ∧ n ≤ 100000 ∧ Q v H') E0
section
variable {X : Cx} {C : Addr} {k j : Nat} {sp : Sp}
theorem call_strO (M : Spe X.prog X.w X.K X.mg X.base C "__str__" k sp) (hr : Room j X.A) (hj : k + 2 ≤ j) : CallR X (.type "str") (rStrO C sp) := by
  intro pins s σ H vs us Q I r h
  obtain ⟨f, fd, F, hs, hf, hb⟩ := M.ex
  obtain ⟨p, dx, fs, rfl, hp, hsp⟩ := h
  obtain ⟨mA, J, _⟩ := ins_get I.hok hp
  obtain ⟨od, J, _⟩ := J.look
  rw [Vals.ref1 r]
  have rm2 : Room (k + 2) X.A := hr.mono hj
  have rm : Room k X.A.in1.in1 := rm2.in1.in1
  refine PySem.W.kso_call (by have := (rm2.mono (show 2 ≤ k + 2 by omega)).in1.in1.units0; exact this) I.kIn J hs hf ?_
  have e0 : Env0 X.prog X.w X.K X.mg X.base X.A.in1.in1 X.stack s H := by
    have e := I.env0
    exact ⟨e.frames, e.mod, e.bs, e.bsz, e.funs, e.frf, e.hok, e.bare⟩
  have hl := F.len _ _ _ _ hsp
  have r2 : Vals [V.ref p] [Value.ref p] := .cons rfl .nil
  refine wpAny_call (codeAny_mono (F.run X.A.in1.in1 X.stack s H ⟨[.ref p], []⟩ [.ref p] [.ref p] _ E0 rm e0 (by
    have := hb s [.ref p] I.kIn (by simpa using hl)
    simpa using this) r2 hsp) fun r s' hq => ?_)
  cases r with
  | error e => exact pass0 pins σ H s e s' I hq
  | ok fl =>
    cases fl with
    | ret w =>
      obtain ⟨z, H', I', rz, c, ez, q⟩ := I.after hq
      subst ez
      obtain ⟨t, rfl⟩ := rz
      exact ⟨.str c, H', I', ⟨t, rfl⟩, q⟩
    | next => exact False.elim hq
    | brk => exact False.elim hq
    | cont => exact False.elim hq
theorem call_lenO (M : Spe X.prog X.w X.K X.mg X.base C "__len__" k sp) (hr : Room j X.A) (hj : k + 1 ≤ j) : CallR X (.builtin "len") (rLenO C sp) := by
  intro pins s σ H vs us Q I r h
  obtain ⟨f, fd, F, hs, hf, hb⟩ := M.ex
  obtain ⟨p, dx, fs, rfl, hp, hsp⟩ := h
  obtain ⟨mA, J, _⟩ := ins_get I.hok hp
  obtain ⟨od, J, _⟩ := J.look
  obtain ⟨m, hF⟩ := I.fr
  rw [Vals.ref1 r]
  have rm : Room k X.A.in1 := (hr.mono hj).in1
  refine PySem.W.len_K hF I.ok.mod.kin J hs hf ?_
  have e0 : Env0 X.prog X.w X.K X.mg X.base X.A.in1 X.stack s H := by
    have e := I.env0
    exact ⟨e.frames, e.mod, e.bs, e.bsz, e.funs, e.frf, e.hok, e.bare⟩
  have hl := F.len _ _ _ _ hsp
  have r2 : Vals [V.ref p] [Value.ref p] := .cons rfl .nil
  refine wpAny_call (codeAny_mono (F.run X.A.in1 X.stack s H ⟨[.ref p], []⟩ [.ref p] [.ref p] _ E0 rm e0 (by
    have := hb s [.ref p] I.kIn (by simpa using hl)
    simpa using this) r2 hsp) fun r s' hq => ?_)
  cases r with
  | error e => exact pass0 pins σ H s e s' I hq
  | ok fl =>
    cases fl with
    | ret w =>
      obtain ⟨z, H', I', rz, c, ez, hc, q⟩ := I.after hq
      subst ez
      obtain ⟨t, rfl⟩ := rz
      exact ⟨⟨by omega, by omega⟩, .int (c : Int), H', I'.tok _, ⟨_, rfl⟩, q⟩
    | next => exact False.elim hq
    | brk => exact False.elim hq
    | cont => exact False.elim hq
end
end MStr
set_option Elab.async false
set_option linter.all false
set_option maxRecDepth 100000
set_option maxHeartbeats 2000000
/-! A text parted at a sign, and put together again. -/
namespace MText
open PySem PySem.StrLaws Builtin Builtin.Str
/-- the parts of a row between the signs c -/
def parts (c : Nat) : List Nat → List (List Nat)
  | [] => [[]]
  | h :: t => if h = c then [] :: parts c t else match parts c t with
    | p :: r => (h :: p) :: r
    | [] => [[h]]
/-- rows put behind one another, c between -/
def glue (c : Nat) : List (List Nat) → List Nat
  | [] => []
  | [a] => a
  | a :: b :: r => a ++ c :: glue c (b :: r)
theorem parts_ne (c : Nat) (xs : List Nat) : ∃ p r, parts c xs = p :: r := by
  cases xs with
  | nil => exact ⟨_, _, rfl⟩
  | cons h t =>
    unfold parts
    split
    · exact ⟨_, _, rfl⟩
    · split <;> exact ⟨_, _, rfl⟩
theorem parts_app {c : Nat} : ∀ {a xs : List Nat} {p : List Nat} {r : List (List Nat)}, (∀ z ∈ a, z ≠ c) → parts c xs = p :: r → parts c (a ++ xs) = (a ++ p) :: r
  | [], xs, p, r, _, h => h
  | z :: a, xs, p, r, ha, h => by
    have ih := parts_app (a := a) (fun y hy => ha y (List.mem_cons_of_mem _ hy)) h
    show parts c (z :: (a ++ xs)) = _
    unfold parts
    rw [if_neg (ha z List.mem_cons_self), ih]
    rfl
theorem parts_glue {c : Nat} : ∀ {ps : List (List Nat)}, ps ≠ [] → (∀ p ∈ ps, ∀ z ∈ p, z ≠ c) → parts c (glue c ps) = ps
  | [], h, _ => absurd rfl h
  | [a], _, ha => by
    have := parts_app (c := c) (a := a) (xs := []) (p := []) (r := []) (ha a List.mem_cons_self) rfl
    simpa [glue] using this
  | a :: b :: r, _, ha => by
    have ih := parts_glue (ps := b :: r) (by simp) (fun p hp => ha p (List.mem_cons_of_mem _ hp))
    show parts c (a ++ c :: glue c (b :: r)) = _
    have h2 : parts c (c :: glue c (b :: r)) = [] :: b :: r := by
      unfold parts
      rw [if_pos rfl, ih]
    have := parts_app (ha a List.mem_cons_self) h2
    rw [List.append_nil] at this
    exact this
/-- the places of c -/
def places (x : Str) (c a n : Nat) : List Nat := (List.range' a n).filter fun i => decide (x.cps.toList[i]? = some c)
theorem occ_run (x : Str) (c limit : Nat) : ∀ (n a : Nat) (st : Array Nat × Nat), st.2 ≤ a → st.1.size ≤ a → a + n ≤ limit →
    (forIn (List.range' a n) st (occBody x ⟨#[c]⟩ x.length limit)).run.fst.toList = st.1.toList ++ places x c a n
  | 0, a, st, _, _, _ => by
    unfold places
    simp
  | n + 1, a, st, h1, h2, h3 => by
    rw [List.range'_succ, List.forIn_cons]
    have e := subAt_one x c a
    unfold places
    rw [List.range'_succ, List.filter_cons]
    by_cases hc : x.cps.toList[a]? = some c
    · have hc' := e.mpr hc
      have eb : occBody x ⟨#[c]⟩ x.length limit a st = pure (ForInStep.yield (st.1.push a, a + (⟨#[c]⟩ : Str).length)) := by
        unfold occBody
        rw [if_pos ⟨⟨⟨by omega, h1⟩, hc'.1⟩, hc'.2⟩]
      rw [eb, if_pos (by simpa using hc)]
      have ih := occ_run x c limit n (a + 1) (st.1.push a, a + (⟨#[c]⟩ : Str).length) (by show a + 1 ≤ a + 1; omega) (by show (st.1.push a).size ≤ a + 1; rw [Array.size_push]; omega) (by omega)
      unfold places at ih
      refine Eq.trans ih ?_
      simp
    · have hc' : ¬ (a + (⟨#[c]⟩ : Str).length ≤ x.length ∧ subAt x ⟨#[c]⟩ a = true) := fun z => hc (e.mp z)
      have eb : occBody x ⟨#[c]⟩ x.length limit a st = pure (ForInStep.yield (st.1, st.2)) := by
        unfold occBody
        rw [if_neg (fun z => hc' ⟨z.1.2, z.2⟩)]
      rw [eb, if_neg (by simpa using hc)]
      have ih := occ_run x c limit n (a + 1) (st.1, st.2) (by show st.2 ≤ a + 1; omega) (by show st.1.size ≤ a + 1; omega) (by omega)
      unfold places at ih
      exact ih
theorem len_eq (x : Str) : x.cps.toList.length = x.length := by simp [Str.length]
theorem places_last (x : Str) (c a n : Nat) (h : x.length ≤ a) : places x c a n = [] := by
  unfold places
  rw [List.filter_eq_nil_iff]
  intro i hi
  have := (List.mem_range'_1.mp hi).1
  rw [List.getElem?_eq_none (by rw [len_eq]; omega)]
  simp
theorem occ_all (x : Str) (c : Nat) : occurrences x ⟨#[c]⟩ 0 x.length (x.length + 1) = places x c 0 x.length := by
  rw [occ_eq, Nat.sub_zero, occ_run x c (x.length + 1) (x.length + 1) 0 (#[], 0) (Nat.le_refl _) (Nat.le_refl _) (by omega)]
  -- the last place is behind the text
  have h2 : places x c 0 (x.length + 1) = places x c 0 x.length := by
    unfold places
    rw [List.range'_concat, List.filter_append]
    have := places_last x c (0 + 1 * x.length) 1 (by omega)
    unfold places at this
    rw [show List.range' (0 + 1 * x.length) 1 = [0 + 1 * x.length] from rfl] at this
    rw [this, List.append_nil]
  rw [h2]
  rfl
theorem sub_step (x : Str) {a b : Nat} (h : a < b) (hb : b ≤ x.length) (z : Nat) (hz : x.cps.toList[a]? = some z) : (strSub x a b).cps.toList = z :: (strSub x (a + 1) b).cps.toList := by
  rw [strSub_toList, strSub_toList]
  have hlt := (List.getElem?_eq_some_iff.mp hz).1
  have hv := (List.getElem?_eq_some_iff.mp hz).2
  rw [List.drop_eq_getElem_cons hlt, hv]
  have : b - a = (b - (a + 1)) + 1 := by omega
  rw [this, List.take_succ_cons]
theorem parts_from (x : Str) (c : Nat) : ∀ (n a : Nat), a + n = x.length → (partsFrom x 1 a (places x c a n)).map (·.cps.toList) = parts c (x.cps.toList.drop a)
  | 0, a, h => by
    have e1 : places x c a 0 = [] := rfl
    have e2 : x.cps.toList.drop a = [] := List.drop_eq_nil_of_le (by rw [len_eq]; omega)
    rw [e1, e2]
    show [(strSub x a x.length).cps.toList] = [[]]
    rw [strSub_toList, e2]
    simp
  | n + 1, a, h => by
    have hlt : a < x.cps.toList.length := by rw [len_eq]; omega
    have ih := parts_from x c n (a + 1) (by omega)
    rw [List.drop_eq_getElem_cons hlt]
    have ea : x.cps.toList[a]? = some x.cps.toList[a] := List.getElem?_eq_getElem hlt
    have ep : places x c a (n + 1) = if x.cps.toList[a] = c then a :: places x c (a + 1) n else places x c (a + 1) n := by
      unfold places
      rw [List.range'_succ, List.filter_cons, ea]
      by_cases hc : x.cps.toList[a] = c
      · rw [if_pos hc, if_pos (by simpa using hc)]
      · rw [if_neg hc, if_neg (by simpa using hc)]
    unfold parts
    rw [ep]
    by_cases hc : x.cps.toList[a] = c
    · rw [if_pos hc, if_pos hc]
      show (strSub x a a).cps.toList :: (partsFrom x 1 (a + 1) (places x c (a + 1) n)).map (·.cps.toList) = _
      rw [ih, strSub_toList]
      simp
    · rw [if_neg hc, if_neg hc, ← ih]
      cases hq : places x c (a + 1) n with
      | nil =>
        show [(strSub x a x.length).cps.toList] = _
        rw [sub_step x (by omega) (Nat.le_refl _) _ ea]
        rfl
      | cons k r =>
        have hk : k ∈ places x c (a + 1) n := by rw [hq]; exact List.mem_cons_self
        have hk2 := List.mem_range'_1.mp (List.mem_filter.mp hk).1
        show (strSub x a k).cps.toList :: (partsFrom x 1 (k + 1) r).map (·.cps.toList) = _
        rw [sub_step x (by omega) (by omega) _ ea]
        rfl
theorem kind_pos (x : Str) : 1 ≤ Str.strKind x := by
  unfold Str.strKind
  split
  · omega
  · split <;> omega
/-- x.split(c), c one sign of a byte -/
theorem split_parts (x : Str) {c : Nat} (hc : c < 256) : (Txt.split x ⟨#[c]⟩).map (·.cps.toList) = parts c x.cps.toList := by
  have hp := parts_from x c x.length 0 (by omega)
  rw [List.drop_zero] at hp
  have hk : Str.strKind ⟨#[c]⟩ = 1 := by
    unfold Str.strKind
    rw [if_pos (by simpa using hc)]
  have whole : ∀ h : places x c 0 x.length = [], [x.cps.toList] = parts c x.cps.toList := by
    intro h
    rw [← hp, h]
    show [x.cps.toList] = [(strSub x 0 x.length).cps.toList]
    rw [sub_whole]
  unfold Txt.split
  by_cases h0 : x.length < 1
  · have e0 : places x c 0 x.length = [] := by
      have : x.length = 0 := by omega
      rw [this]
      rfl
    rw [if_pos (by
      have : decide (x.length < (⟨#[c]⟩ : Str).length) = true := decide_eq_true h0
      rw [this]
      rfl)]
    exact whole e0
  · rw [if_neg (by
      have e1 : decide (x.length < (⟨#[c]⟩ : Str).length) = false := decide_eq_false h0
      have e2 : decide (Str.strKind x < Str.strKind ⟨#[c]⟩) = false := decide_eq_false (by rw [hk]; have := kind_pos x; omega)
      rw [e1, e2]
      decide)]
    rw [occ_all]
    split
    · rename_i he
      exact whole (List.isEmpty_iff.mp he)
    · rw [partsBetween_eq]
      exact hp
/-- c.join(xs) -/
theorem join_glue (c : Nat) : ∀ xs : List Str, (Txt.join ⟨#[c]⟩ xs).cps.toList = glue c (xs.map (·.cps.toList)) := by
  intro xs
  show (glued ⟨#[c]⟩ xs).cps.toList = _
  rw [glued_eq_join]
  induction xs with
  | nil => rfl
  | cons a r ih =>
    cases r with
    | nil => rfl
    | cons b r =>
      show (a ++ ⟨#[c]⟩ ++ Str.join ⟨#[c]⟩ (b :: r)).cps.toList = a.cps.toList ++ c :: glue c ((b :: r).map (·.cps.toList))
      rw [Str.cps_append, Str.cps_append, Array.toList_append, Array.toList_append, ih]
      simp
theorem str_eq {a b : Str} (h : a.cps.toList = b.cps.toList) : a = b := Str.ext' (Array.toList_inj.mp h)
theorem split_join {c : Nat} (hc : c < 256) {xs : List Str} (h0 : xs ≠ []) (h : ∀ x ∈ xs, ∀ z ∈ x.cps.toList, z ≠ c) : Txt.split (Txt.join ⟨#[c]⟩ xs) ⟨#[c]⟩ = xs := by
  have e := split_parts (Txt.join ⟨#[c]⟩ xs) hc
  rw [join_glue, parts_glue (by simpa using h0) (by
    intro p hp
    obtain ⟨x, hx, rfl⟩ := List.mem_map.mp hp
    exact h x hx)] at e
  have inj : ∀ (u v : List Str), u.map (·.cps.toList) = v.map (·.cps.toList) → u = v := by
    intro u
    induction u with
    | nil =>
      intro v h
      cases v with
      | nil => rfl
      | cons b v => simp at h
    | cons a u ih =>
      intro v h
      cases v with
      | nil => simp at h
      | cons b v =>
        simp only [List.map_cons, List.cons.injEq] at h
        rw [str_eq h.1, ih v h.2]
  exact inj _ _ e
end MText
set_option Elab.async false
set_option linter.all false
set_option maxRecDepth 100000
set_option maxHeartbeats 4000000
namespace W14
open PySem L2 PySem.Spec PyProof.Rows WR
abbrev sLText : Stmt := top 32
abbrev sLOf : Stmt := top 33
abbrev sItems : Stmt := top 34
abbrev alphS : Str := "abcdefghijklmnopqrstuvwxyz"
/-- a letter's item -/
def itm (i : Int) : Str := if 0 < i then ⟨#[96 + i.natAbs]⟩ else ⟨#[96 + i.natAbs, 39]⟩
theorem alph_at : ∀ n, n < 26 → alphS.cps.toList[n]? = some (97 + n) := by decide +kernel
theorem alph_find : ∀ n, n < 26 → Txt.find alphS ⟨#[97 + n]⟩ = (n : Int) := by decide +kernel
theorem alph_len : alphS.length ≤ sizeLine := by decide +kernel
theorem itm_len (i : Int) : (itm i).length ≤ 2 := by
  unfold itm
  split
  · show 1 ≤ 2
    decide
  · show 2 ≤ 2
    decide
theorem itm_ne (i : Int) : ∀ z ∈ (itm i).cps.toList, i.natAbs ≤ 26 → 1 ≤ i.natAbs → z ≠ 32 := by
  intro z hz h1 h2
  unfold itm at hz
  split at hz
  · simp at hz; omega
  · simp at hz; omega
theorem space_eq : (Str.ofString " ") = ⟨#[32]⟩ := by decide +kernel
theorem dash_eq : (Str.ofString "-") = ⟨#[45]⟩ := by decide +kernel
theorem tick_eq : (Str.ofString "'") = ⟨#[39]⟩ := by decide +kernel
/-- the text of a word -/
def txt (ns : List Int) : Str := if ns = [] then ⟨#[45]⟩ else Txt.join ⟨#[32]⟩ (ns.map itm)
theorem txt_split {ns : List Int} (h : Lts ns) : Txt.split (txt ns) ⟨#[32]⟩ = if ns = [] then [⟨#[45]⟩] else ns.map itm := by
  unfold txt
  by_cases h0 : ns = []
  · rw [if_pos h0, if_pos h0]
    decide +kernel
  · rw [if_neg h0, if_neg h0]
    refine MText.split_join (by decide) (by simpa using h0) fun x hx z hz => ?_
    obtain ⟨i, hi, rfl⟩ := List.mem_map.mp hx
    exact itm_ne i z hz (h i hi).2 (h i hi).1
def spLText : Sp := fun vs H Q _ => ∃ i : Int, vs = [.int i] ∧ 1 ≤ i.natAbs ∧ i.natAbs ≤ 26 ∧ Q (.str (itm i)) H
def spLOf : Sp := fun vs H Q _ => ∃ i : Int, vs = [.str (itm i)] ∧ 1 ≤ i.natAbs ∧ i.natAbs ≤ 26 ∧ Q (.int i) H
def spItems : Sp := fun vs H Q _ => ∃ ns : List Int, vs = [.str (txt ns)] ∧ Lts ns ∧ ns.length ≤ 500 ∧ ∀ p H', H p = none → Same H H' → H' p = some (.lst ((if ns = [] then [⟨#[45]⟩] else ns.map itm).map V.str)) → Q (.ref p) H'
theorem txt_len {ns : List Int} : (txt ns).length ≤ 3 * ns.length + 1 := by
  unfold txt
  split
  · show 1 ≤ _
    omega
  · show (Builtin.Str.glued ⟨#[32]⟩ (ns.map itm)).length ≤ _
    rw [StrLaws.glued_eq_join]
    refine Nat.le_trans (StrLaws.join_length_le _ _) ?_
    rw [List.length_map]
    have h1 : ((ns.map itm).map (·.length)).sum ≤ 2 * ns.length := by
      induction ns with
      | nil => simp
      | cons a t ih =>
        by_cases ht : t = []
        · subst ht
          have := itm_len a
          simp
          omega
        · have := ih ht
          have := itm_len a
          simp only [List.map_cons, List.sum_cons, List.length_cons]
          omega
    have : (⟨#[32]⟩ : Str).length = 1 := rfl
    rw [this]
    omega
section
variable {P : Program} {w : World} {K : PySem.W.Frag} {mg : Str → Option Value} {base : Heap}
theorem scLText : FnScope ["letter", "sign"] ["letter"] (defScope sLText) := ⟨rfl, rfl, rfl, by decide +kernel, rfl, by decide +kernel, by decide +kernel⟩
theorem ok_lText {f : Addr} {fd : FuncData} (F : Fun K "letter_text" "letter_text" sLText f fd) (hA : ∃ t, mg "ALPHABET" = some (.str alphS t)) (habs : mg "abs" = none) : FnOk P w K mg base CX0 1 f fd ["letter"] spLText := by
  refine F.ok scLText (fun vs H Q E h => ?_) (fun cdv A outer s H vs Q E hr h => ?_)
  · obtain ⟨i, rfl, _⟩ := h
    rfl
  · obtain ⟨i, rfl, i1, i26, k⟩ := h
    obtain ⟨tA, mA⟩ := hA
    refine ⟨_, pss_cons (ps_set (i := 1) scLText.nd rfl (Or.inl rfl) (pe_ix ix_str (pe_glob (v := .str alphS) (by rfl) mA ⟨_, rfl⟩) (pe_op op_sub (pe_callB call_abs (by rfl) habs (by decide +kernel) (pa_cons (pv 0) pa_nil)) pe_int) (fun _ _ => rfl)))
      (pss_one (ps_ret (pe_ifExp (pt_cmpR op_gt (pv 0) pe_int (nomark _)) (pv 1) (pe_op op_add_str (pv 1) pe_str)))), ?_⟩
    have e1 : (if i < 0 then -i else i) - 1 = ((i.natAbs - 1 : Nat) : Int) := by split <;> omega
    have e2 : 97 + (i.natAbs - 1) = 96 + i.natAbs := by omega
    refine ⟨_, rfl, i, rfl, _, _, rfl, rfl, _, _, 96 + i.natAbs, rfl, rfl, alph_len, (by rw [e1]; exact atI_nat (by rw [alph_at _ (by omega), e2])), ?_⟩
    refine ⟨_, rfl, _, _, rfl, rfl, _, rfl, ?_⟩
    refine ite2 (fun hp => ?_) (fun hp => ?_)
    · have h0 : 0 < i := by have := of_decide_eq_true hp; omega
      refine ⟨_, rfl, ?_⟩
      have : itm i = ⟨#[96 + i.natAbs]⟩ := by unfold itm; rw [if_pos h0]
      rw [this] at k
      exact k
    · have h0 : ¬ 0 < i := fun z => hp (decide_eq_true (by omega))
      refine ⟨_, rfl, _, _, rfl, rfl, (by show 2 ≤ sizeLine; decide), ?_⟩
      have : itm i = (⟨#[96 + i.natAbs]⟩ : Str) ++ Str.ofString "'" := by
        unfold itm
        rw [if_neg h0, tick_eq]
        rfl
      rw [this] at k
      exact k
theorem scLOf : FnScope ["item", "kind"] ["item"] (defScope sLOf) := ⟨rfl, rfl, rfl, by decide +kernel, rfl, by decide +kernel, by decide +kernel⟩
theorem ok_lOf {f : Addr} {fd : FuncData} (F : Fun K "letter_of" "letter_of" sLOf f fd) (hA : ∃ t, mg "ALPHABET" = some (.str alphS t)) (hlen : mg "len" = none) : FnOk P w K mg base CX0 1 f fd ["item"] spLOf := by
  refine F.ok scLOf (fun vs H Q E h => ?_) (fun cdv A outer s H vs Q E hr h => ?_)
  · obtain ⟨i, rfl, _⟩ := h
    rfl
  · obtain ⟨i, rfl, i1, i26, k⟩ := h
    obtain ⟨tA, mA⟩ := hA
    refine ⟨_, pss_cons (ps_set (i := 1) scLOf.nd rfl (Or.inl rfl) (pe_op op_add (pe_m1 PySem.F.slot_str_find PySem.F.type_str_find mt_find (pe_glob (v := .str alphS) (by rfl) mA ⟨_, rfl⟩) (pe_slice sl_str (pv 0) po_none (po_some pe_int))) pe_int))
      (pss_cons (ps_if (PW.pt (pw_or (pt_cmpR op_eq (pv 0) pe_str (nomark _)) (pw_or1 (pt_cmpR op_eq (pv 1) pe_int (nomark _))))) (pss_one (ps_ret pe_non)) pss_nil)
      (pss_cons (ps_if (pt_cmpR op_eq (pe_callB call_len_str (by rfl) hlen PySem.boot_len (pa_cons (pv 0) pa_nil)) pe_int (nomark _)) (pss_one (ps_ret (pv 1))) pss_nil)
      (pss_one (ps_ret (pe_ifExp (pt_cmpR op_eq (pe_slice sl_str (pv 0) (po_some pe_int) po_none) pe_str (nomark _)) (pe_un un_neg (pv 1)) pe_non))))), ?_⟩
    have hsz : (itm i).length ≤ sizeLine := Nat.le_trans (itm_len i) (by decide)
    have c1 : cutS (itm i) none (some 1) = ⟨#[96 + i.natAbs]⟩ := by
      unfold itm
      split <;> rfl
    have f1 : Txt.find alphS ⟨#[96 + i.natAbs]⟩ = ((i.natAbs - 1 : Nat) : Int) := by
      have := alph_find (i.natAbs - 1) (by omega)
      have e : 97 + (i.natAbs - 1) = 96 + i.natAbs := by omega
      rw [e] at this
      exact this
    refine ⟨⟨_, rfl⟩, _, rfl, _, rfl, _, rfl, hsz, _, _, rfl, rfl, ?_⟩
    rw [c1, f1]
    have ek : ((i.natAbs - 1 : Nat) : Int) + 1 = (i.natAbs : Int) := by omega
    refine ⟨_, _, rfl, rfl, _, rfl, rfl, _, rfl, ?_⟩
    refine iteF' (decide_eq_false fun z => ?_) ?_
    · have z2 : itm i = Str.ofString "" := by injection z
      have z3 := congrArg Str.length z2
      unfold itm at z3
      split at z3
      · exact absurd z3 (by show ¬ (1 = 0); decide)
      · exact absurd z3 (by show ¬ (2 = 0); decide)
    refine ⟨_, rfl, rfl, _, rfl, ?_⟩
    refine iteF' (decide_eq_false fun z => ?_) ?_
    · have z2 : ((i.natAbs - 1 : Nat) : Int) + 1 = 0 := by injection z
      omega
    refine ⟨_, rfl, _, rfl, hsz, rfl, _, rfl, ?_⟩
    by_cases h0 : 0 < i
    · have e : itm i = ⟨#[96 + i.natAbs]⟩ := by unfold itm; rw [if_pos h0]
      refine iteT' (decide_eq_true (by rw [e]; rfl)) ?_
      refine ⟨_, rfl, ?_⟩
      have e2 : ((i.natAbs - 1 : Nat) : Int) + 1 = i := by omega
      have k2 := k
      rw [← e2] at k2
      exact k2
    · have e : itm i = ⟨#[96 + i.natAbs, 39]⟩ := by unfold itm; rw [if_neg h0]
      refine iteF' (decide_eq_false fun z => ?_) ?_
      · rw [e] at z
        exact absurd z (by show ¬ (V.int 2 = V.int 1); intro q; injection q with q; omega)
      have c2 : cutS (itm i) (some 1) none = Str.ofString "'" := by rw [e, tick_eq]; rfl
      refine ⟨_, rfl, _, rfl, _, rfl, hsz, rfl, _, rfl, ?_⟩
      rw [c2]
      refine iteT' (decide_eq_true rfl) ?_
      refine ⟨_, rfl, _, rfl, ?_⟩
      have e2 : -(((i.natAbs - 1 : Nat) : Int) + 1) = i := by omega
      have k2 := k
      rw [← e2] at k2
      exact k2
theorem scItems : FnScope ["text"] ["text"] (defScope sItems) := ⟨rfl, rfl, rfl, by decide +kernel, rfl, by decide +kernel, by decide +kernel⟩
theorem ok_items {f : Addr} {fd : FuncData} (F : Fun K "items_of" "items_of" sItems f fd) (T : TxI mg) : FnOk P w K mg base CX0 1 f fd ["text"] spItems := by
  refine F.ok scItems (fun vs H Q E h => ?_) (fun cdv A outer s H vs Q E hr h => ?_)
  · obtain ⟨ns, rfl, _⟩ := h
    rfl
  · obtain ⟨ns, rfl, hl, hn, k⟩ := h
    refine ⟨_, pss_cons (ps_if (pt_not (pt_val (pe_callB call_isi (by rfl) T.isin (by decide +kernel) (pa_cons (pv 0) (pa_cons (pe_bltn (v := .ty "str") (by rfl) T.str (by decide +kernel) rfl) pa_nil))))) (pss_one ps_never) pss_nil)
      (pss_one (ps_ret (pe_split (pv 0) pe_str))), ?_⟩
    refine ⟨_, rfl, V.str (txt ns), _, _, _, _, rfl, .ty _, (Typ.str (H := H) (txt ns)).ty, (Typ.str (H := H) (txt ns)).kStr, _, rfl, ?_⟩
    refine iteF ?_
    have hs : (txt ns).length + 2 ≤ sizeLine := by
      have := txt_len (ns := ns)
      exact Nat.le_trans (show (txt ns).length + 2 ≤ 1600 by omega) (by decide)
    refine ⟨_, rfl, ⟨_, rfl⟩, _, _, rfl, rfl, (by decide +kernel), hs, fun p hp => ?_⟩
    rw [space_eq, txt_split hl]
    exact k p _ hp (same_upd hp) upd_same
end
end W14
set_option Elab.async false
set_option linter.all false
set_option maxRecDepth 100000
set_option maxHeartbeats 1000000
/-! repr of data, by defs that are called where no repr is under way. -/
namespace RG
open PySem L2 PySem.Spec PyProof.Rows
/-- a def's promise where no repr is under way -/
structure FnG (P : Program) (w : World) (K : PySem.W.Frag) (mg : Str → Option Value) (base : Heap) (k : Nat) (f : Addr) (fd : FuncData) (ps : List Str) (sp : Sp) : Prop where
  many : ∀ zs G R S, sp zs G R S → zs.length = ps.length
  does : ∀ (B : Around) (fr : List Env) (t : Shared) (G : Hp) (as : Args) (us : List Value) (zs : List V) (R : VK) (S : XK), B.guards = some [] → Room k B → Env0 P w K mg base B fr t G → BindsTo t fd as (ps.zip us) → Vals zs us → sp zs G R S →
    codeAny (model P w) B (.call (.ref f) as) (CR CX0 fr P w G t R S) t
theorem FnG.mono {P : Program} {w : World} {K : PySem.W.Frag} {mg : Str → Option Value} {base : Heap} {j k : Nat} {f : Addr} {fd : FuncData} {ps : List Str} {sp : Sp} (F : FnG P w K mg base j f fd ps sp) (h : j ≤ k) : FnG P w K mg base k f fd ps sp :=
  ⟨F.many, fun B fr t G as us zs R S g room => F.does B fr t G as us zs R S g (room.mono h)⟩
/-- what is left behind a body -/
theorem left_ok {X : Cx} {σ : L2.St} {G G' : Hp} {t t' : Shared} {R : VK} {v : V} {u : Value} (hb : X.s_0 = t) (J : Inv X [] σ G' t') (un : Un (frs X.stack) [] G G' t.heap t'.heap) (os : t'.os = t.os) (r : RelV v u) (q : R v G') : CE X.stack X.prog X.w G t R u t' :=
  ⟨v, G', os, J.bare, un, J.hok, r, q⟩
theorem fnG_of {P : Program} {w : World} {K : PySem.W.Frag} {mg : Str → Option Value} {base : Heap} {k : Nat} {f : Addr} {nm qual : Str} {params : Arguments} {body : List Stmt} {scope : Scope} {dV kV doc pm cdv ct oc : Value} {an od : Option Addr} {osl : Array (Option Value)} {N ps : List Str} {sp : Sp}
    (lk : K.lookup f = some ⟨oc, od, .func (PySem.W.fnOf nm qual params body scope dV kV doc pm an cdv ct), osl⟩) (cd : PySem.W.codeIn K cdv qual = true) (S : FnScope N ps scope) (many : ∀ zs G R E, sp zs G R E → zs.length = ps.length)
    (B0 : ∀ (B : Around) (fr : List Env) (t : Shared) (G : Hp) (zs : List V) (R : VK) (E : XK), B.guards = some [] → Room k (B.deeper (envOfC qual scope t.heap.objs.size f cdv)) → sp zs G R E →
      ∃ tb, PSs (cxOf CX0 P w K mg base N qual scope f cdv B fr t G E) body tb ∧ tb { nx := fun _ G' => R .non G', rt := R } (L2.start N zs) G) :
    FnG P w K mg base (k + 1) f (PySem.W.fnOf nm qual params body scope dV kV doc pm an cdv ct) ps sp where
  many := many
  does := by
    intro B fr t G as us zs R E hg room e0 bind rel asked
    have n1 := many _ _ _ _ asked
    have old : ∀ b o, base.get? b = some o → t.heap.get? b = some o := fun b o e => (e0.bs b o e).1
    have KX := e0.mod.kin.keeps old
    have names : ∀ y ∈ ps.zip us, scope.names.lookup y.1 = some .local ∨ (scope.names.lookup y.1 = some .cell ∧ ((cellsFrom (t.heap.objs.size + 1) scope.names []).lookup y.1).isSome = true) := by
      rintro ⟨a, b⟩ hy
      exact (S.par a (List.of_mem_zip hy).1).imp id fun c => ⟨c, PySem.W.cellsFrom_some _ _ _ (Or.inl c)⟩
    refine codeAny_call_function room.depth (KX _ _ lk) rfl S.co S.gen rfl (PySem.W.codeRec_of KX cd) (bind _ _ _ _ (wpAny_newFunctionEnv_cells S.kind names fun env he t1 x => ?_))
    subst he
    refine ⟨(e0.mod.nolimit.keeps old).keeps x.toInCall.keep, codeAny_func ?_⟩
    obtain ⟨tb, run, read⟩ := B0 B fr t G zs R E hg (room.deeper _) asked
    have I0 := inv_start (CX := CX0) (P := P) (w := w) (E := E) S room.hd e0 n1 rel x
    refine wpAny_mono (run.run [] t1 _ G _ I0 read) ?_ fun _ _ z => z
    intro fl t2 z
    cases fl with
    | next =>
      obtain ⟨τ, G2, J, q⟩ := z
      exact ⟨.non, G2, J.os, J.bare, J.base, J.hok, rfl, q⟩
    | ret u =>
      obtain ⟨v, τ, G2, J, rv, q⟩ := z
      exact ⟨v, G2, J.os, J.bare, J.base, J.hok, rv, q⟩
    | brk => exact z.elim fun _ z => z.elim fun _ z => False.elim z.2
    | cont => exact z.elim fun _ z => z.elim fun _ z => False.elim z.2
theorem Fun.okG {P : Program} {w : World} {K : PySem.W.Frag} {mg : Str → Option Value} {base : Heap} {x qual : Str} {st : Stmt} {f : Addr} {fd : FuncData} {N ps : List Str} {k : Nat} {sp : Sp} (F : L2.Fun K x qual st f fd) (S : FnScope N ps (defScope st)) (many : ∀ zs G R E, sp zs G R E → zs.length = ps.length)
    (B0 : ∀ (cdv : Value) (B : Around) (fr : List Env) (t : Shared) (G : Hp) (zs : List V) (R : VK) (E : XK), B.guards = some [] → Room k (B.deeper (envOfC qual (defScope st) t.heap.objs.size f cdv)) → sp zs G R E →
      ∃ tb, PSs (cxOf CX0 P w K mg base N qual (defScope st) f cdv B fr t G E).nox (defBody st) tb ∧ tb { nx := fun _ G' => R .non G', rt := R } (L2.start N zs) G) : FnG P w K mg base (k + 1) f fd ps sp := by
  obtain ⟨oc, od, kV, doc, pm, an, cdv, ct, osl, rfl, lk, cd⟩ := F.ex
  refine fnG_of lk cd S many fun B fr t G zs R E hg room asked => ?_
  obtain ⟨tb, run, read⟩ := B0 cdv B fr t G zs R E hg room asked
  exact ⟨tb, run.nox, read⟩
/-- a def that the module's name x holds -/
structure CalG (P : Program) (w : World) (K : PySem.W.Frag) (mg : Str → Option Value) (base : Heap) (x : Str) (k : Nat) (ps : List Str) (sp : Sp) : Prop where
  ex : ∃ (f : Addr) (fd : FuncData), FnG P w K mg base k f fd ps sp ∧ mg x = some (.ref f) ∧ PySem.W.keepIn K (.ref f) = true ∧ Binds K fd ps []
section
variable {X : Cx} {x : Str} {k j : Nat} {ps : List Str} {sp : Sp} {p pos : Pos} {e : Expr} {es : List Expr} {ta : TA}
theorem pe_calG (C : CalG X.prog X.w X.K X.mg X.base x k ps sp) (hg : X.A.guards = some []) (room : Room j X.A) (hkj : k ≤ j) (gl : Gl X x) (ha : PA X (e :: es) ta) (hdb : (x == ("__debug__" : Str)) = false := by decide)
    (h1 : starEach (e :: es) X.env = (false, eval e X.env) :: starEach es X.env := by rfl) (h2 : (backTo pos (starEach es X.env)).any (·.1) = false := by rfl) : PE X (.Call (.Name x p) (e :: es) [] pos) (tCall sp [] E0 ta) := by
  obtain ⟨f, fd, F, at_, kp, bn⟩ := C.ex
  constructor
  intro pins s σ H Q I ask
  refine wpAny_Call_Name_kw (ld_glob I gl at_ (PySem.W.callWith_K (h₀ := X.base) I.mod.kin kp (thn (ha.run pos pins s σ H _ I ask) fun us s1 z => ?_) h1 h2) hdb)
  obtain ⟨zs, H1, I1, rel, q⟩ := z
  have q : sp (zs ++ []) H1 Q E0 := q
  rw [List.append_nil] at q
  have lu : us.length = ps.length := by rw [← rel.length]; exact F.many _ _ _ _ q
  have bd := bn s1 us I1.kIn (by rw [List.append_nil]; exact lu)
  rw [List.append_nil] at bd
  refine ⟨I1.kIn, wpAny_call (codeAny_mono ((F.mono hkj).does X.A X.stack s1 H1 ⟨us, []⟩ us zs Q E0 hg room I1.env0 bd rel q) ?_)⟩
  intro r s2 hq
  match r, hq with
  | .ok (.ret u), hq => exact I1.after hq
/-- repr of data -/
def rRepr (K : PySem.W.Frag) : List V → Hp → VK → Prop := fun xs H Q => ∃ (a : Addr) (d : PyData), xs = [.ref a] ∧ Dp K H (.ref a) d ∧ d.showable = true ∧ d.hasDict = false ∧ d.depth ≤ 30 ∧ d.shown.length ≤ sizeLine ∧ Q (.str d.shown) H
theorem call_repr (hg : X.A.guards = some []) (hu : X.A.units + 40 < cLine) : CallR X (.builtin "repr") (rRepr X.K) := by
  intro pins s σ H xs us Q I rel ask
  obtain ⟨a, d, rfl, hd, hs, hn, hdep, hz, q⟩ := ask
  obtain ⟨u, rfl, ru⟩ := vals1 rel
  cases ru
  obtain ⟨as, rd⟩ := Dp.reads I d _ _ hd rfl
  exact repr_of_reads' rd hs (fun z => by rw [hn] at z; cases z) hg (by omega) (fun _ _ e => e) (fun h' u tk hk => ⟨.str _, H, I.kept hk, ⟨u, rfl⟩, q⟩) hz
end
end RG
set_option Elab.async false
set_option linter.all false
set_option maxRecDepth 100000
set_option maxHeartbeats 1000000
/-! the law's own call: no repr is under way. -/
namespace RG
open PySem L2 PySem.Spec PyProof.Rows
section
variable {P : Program} {w : World} {K : PySem.W.Frag} {s : Shared} {a : Addr} {vs : List Value} {ns : List Int}
/-- the list that the script is -/
def scriptO (vs : List Value) : Obj := { cls := .type "list", data := .seq vs.toArray }
/-- the script is told, if the module has it not -/
def startH (K : PySem.W.Frag) (a : Addr) (vs : List Value) (ns : List Int) : Hp := fun b => if b = a ∧ K.lookup a = none then some (.frz (scriptO vs) (.lst (ns.map V.int))) else none
theorem startH_some {b : Addr} {u : HO} (h : startH K a vs ns b = some u) : b = a ∧ K.lookup a = none ∧ u = .frz (scriptO vs) (.lst (ns.map V.int)) := by
  unfold startH at h
  split at h
  · rename_i c
    exact ⟨c.1, c.2, (Option.some.inj h).symm⟩
  · cases h
theorem startH_only : Only (startH K a vs ns) := fun b => by
  cases e : startH K a vs ns b with
  | none => exact .inl rfl
  | some u => exact .inr ⟨_, _, congrArg some (startH_some e).2.2⟩
theorem startH_seq (KX : K.In s.heap) (at_ : s.heap.get? a = some (scriptO vs)) (whole : IntsAre vs ns) (few : ns.length ≤ sizeLine) : SqL K (startH K a vs ns) a (ns.map V.int) := by
  cases hk : K.lookup a with
  | none => exact Or.inl (Or.inr ⟨scriptO vs, if_pos ⟨rfl, hk⟩⟩)
  | some o =>
    have same : o = scriptO vs := Option.some.inj ((KX a o hk).symm.trans at_)
    subst same
    exact Or.inr ⟨_, vs.toArray, _, hk, rfl, rfl, rfl, by rw [List.size_toArray, whole.length]; exact few, by simpa using vals_ints whole⟩
theorem startH_ok (at_ : s.heap.get? a = some (scriptO vs)) (whole : IntsAre vs ns) (few : ns.length ≤ sizeLine) : HOk P w (startH K a vs ns) s.heap := fun b u h => by
  obtain ⟨rfl, _, rfl⟩ := startH_some h
  exact ⟨at_, (by rw [List.length_map]; exact few), vs, _, vals_ints whole, at_⟩
/-- a namespace is no list -/
theorem startH_ns (at_ : s.heap.get? a = some (scriptO vs)) {b : Addr} {m : Str → Option Value} (h : s.heap.Ns b m) : (hidT s.heap (startH K a vs ns)).Ns b m := by
  obtain ⟨o, es, ep, get, data, rest⟩ := h
  refine ⟨o, es, ep, hidT_get get ?_, data, rest⟩
  cases e : startH K a vs ns b with
  | none => rfl
  | some u =>
    obtain ⟨rfl, _⟩ := startH_some e
    have eo : o = scriptO vs := Option.some.inj (get.symm.trans at_)
    rw [eo] at data
    exact nomatch (show Data.seq vs.toArray _ = Data.dict es ep from data)
theorem startH_in (KX : K.In s.heap) : K.In (hidT s.heap (startH K a vs ns)) := fun b o e => by
  refine hidT_get (KX b o e) ?_
  cases q : startH K a vs ns b with
  | none => rfl
  | some u =>
    obtain ⟨rfl, none_, _⟩ := startH_some q
    rw [none_] at e
    cases e
theorem law_callG {mg mb : Str → Option Value} {k : Nat} {fa : Addr} {fd : FuncData} {x : Str} {sp : Sp} (KX : K.In s.heap) (top : s.heap.Ns mainGlobals mg) (bi : s.heap.Ns builtinsNs mb) (bib : ∀ x : Str, x ≠ "__name__" → mb x = bootBuiltins x) (lim : s.heap.NoLimit) (gens : s.gens = #[])
    (at_ : s.heap.get? a = some (scriptO vs)) (whole : IntsAre vs ns) (few : ns.length ≤ sizeLine) (room : Room k callerA) (F : ∀ base : Heap, K.In base → base.Ns mainGlobals mg → FnG P w K mg base k fa fd [x] sp)
    (bind : ∀ (s : Shared) (u : Value), BindsTo s fd ⟨[u], []⟩ [(x, u)]) (ask : ∀ H : Hp, Only H → SqL K H a (ns.map V.int) → sp [.ref a] H (fun v _ => v = .bl true) E0) :
    codeAny (model P w) callerA (.call (.ref fa) ⟨[.ref a], []⟩) (fun r s' => r = .ok (.ret (.bool true)) ∧ OldK s.heap s'.heap ∧ s'.os = s.os ∧ AllBare s'.gens) s := by
  have kin := startH_in (a := a) (vs := vs) (ns := ns) KX
  have top' := startH_ns (K := K) (ns := ns) at_ top
  obtain ⟨mc, l1, l2⟩ := lim
  have env : Env0 P w K mg (hidT s.heap (startH K a vs ns)) callerA [] s (startH K a vs ns) :=
    { frames := rfl, mod := ⟨kin, top', ⟨mb, startH_ns at_ bi, bib⟩, ⟨mc, startH_ns at_ l1, l2⟩⟩, bs := fun _ _ => of_hidT, bsz := Nat.le_of_eq (hidT_size _ _), funs := trivial, frf := (fun b hb => nomatch (show b ∈ ([] : List Addr) from hb)), hok := startH_ok at_ whole few, bare := AllBare.of_eq gens }
  refine codeAny_mono ((F _ kin top').does callerA [] s _ ⟨[.ref a], []⟩ [.ref a] [.ref a] _ _ rfl room env (bind s (.ref a)) (.cons rfl .nil) (ask _ startH_only (startH_seq KX at_ whole few))) ?_
  intro r t z
  match r, z with
  | .ok (.ret u), ⟨v, G, os, bare, un, ok', rel, (q : v = .bl true)⟩ =>
    subst q
    obtain rfl : u = Value.bool true := rel
    refine ⟨rfl, OldK.of_keep fun b o get => ?_, os, bare⟩
    cases c : startH K a vs ns b with
    | none => exact un.keep b o get c (fun m => nomatch (show b ∈ ([] : List Addr) from m)) (fun m => nomatch m)
    | some u =>
      obtain ⟨rfl, _, rfl⟩ := startH_some c
      have eo : o = scriptO vs := Option.some.inj (get.symm.trans at_)
      rw [eo]
      exact (ok' b _ (un.frzs b _ _ c)).1
end
theorem walkG {l : PySem.W.OpenLaw} {n k : Nat} {q : Program} {loose : List Str} {XP : (Str → Option Value) → Heap → Prop} {YP : World → Heap → Prop} {d : DefRec} {K : Params → PySem.W.Frag} {sp : PySem.W.Frag → Sp} {x : Str} (hn : l.most = some n) (hz : n ≤ sizeLine) (hdf : d.params.defaults = []) (room : Room k callerA) (hY : ∀ (w : World) (h : Heap), YP w h → (K w.params).In h)
    (F : ∀ (w : World) (mg : Str → Option Value) (fa : Addr) (h : Heap), (K w.params).In h → h.Ns mainGlobals mg → mg d.name = some (.ref fa) →
      ∃ fd : FuncData, (∀ (s : Shared) (u : Value), BindsTo s fd ⟨[u], []⟩ [(x, u)]) ∧ ∀ base : Heap, (K w.params).In base → base.Ns mainGlobals mg → FnG l.prog w (K w.params) mg base k fa fd [x] (sp (K w.params)))
    (ask : ∀ (w : World) (H : Hp) (a : Addr) (ns : List Int), ns.length ≤ n → Only H → SqL (K w.params) H a (ns.map V.int) → sp (K w.params) [.ref a] H (fun v _ => v = .bl true) E0) : PySem.W.WalkO q loose XP YP l.row.toRowW d [] (fun f vs => PySem.call f vs) := by
  refine Att.attach_call hn hdf ?_
  intro w s0 s mg mb fa o pm cd doc a vs ns G Y _ _ _ hm at_ whole few gens
  have KX := hY w _ Y
  obtain ⟨fd, bind, B⟩ := F w mg fa _ KX G.T.g hm
  exact law_callG KX G.T.g G.T.b G.T.builtins G.T.nolimit gens at_ whole (Nat.le_trans few hz) room B bind fun H o z => ask w H a ns few o z
end RG
set_option Elab.async false
set_option linter.all false
set_option maxRecDepth 100000
set_option maxHeartbeats 4000000
/-! set(a list of ints). -/
namespace WS
open PySem PySem.Spec PyProof.Rows L2
section
variable {P : Program} {w : World} {A : Around} {E : Value → Shared → Prop} {s : Shared}
/-- the heap with the new set, and with the walk of the list besides -/
abbrev hSet (w : World) (s : Shared) : Heap := s.heap.push (bareSet w)
abbrev hWalk (w : World) (s : Shared) (l : Addr) : Heap := (hSet w s).push { cls := .type "list_iterator", data := .fields #[.ref l, .int 0 0] }
theorem bare_zero {h : Heap} {a : Addr} {ns : List Int} (e : h.get? a = some (bareSet w)) : SetR w h a (fun j => decide (j ∈ ns.take 0)) 0 := setR_new_at e
/-- what set.__init__ leaves -/
def Filled (w : World) (s : Shared) (ns : List Int) (t : Shared) : Prop :=
  ∃ (g : Heap) (k m : Nat), t = { s with heap := g, toks := k } ∧ SetR w g s.heap.objs.size (fun j => decide (j ∈ ns)) m ∧ m ≤ ns.length ∧ ∀ b o, s.heap.get? b = some o → g.get? b = some o
theorem init_list {l : Addr} {its : Array Value} {ns : List Int} (quiet : A.handled = none) (hl : s.heap.IsList l its) (hit : IntsAre its.toList ns) (few : ns.length + 1 < scanBound) :
    wpAny (model P w) A (Builtin.«set.__init__» ⟨[.ref s.heap.objs.size, .ref l], []⟩) (fun r t => r = .done (.ret .none) ∧ Filled w s ns t) E { s with heap := hSet w s } := by
  have many : its.size = ns.length := by have z := hit.length; rwa [Array.length_toList] at z
  have new : (hSet w s).get? s.heap.objs.size = some (bareSet w) := Heap.get?_push_size _ rfl
  have old : ∀ {b o}, s.heap.get? b = some o → (hSet w s).get? b = some o := fun e => Heap.get?_push_of_some _ e
  have ty : Shared.TypeIs { s with heap := hSet w s } (.ref s.heap.objs.size) "set" := ⟨_, new, rfl⟩
  have hl1 : (hSet w s).IsList l its := hl.push _
  have lo : l < s.heap.objs.size := by obtain ⟨_, e, _⟩ := hl; exact Heap.lt_size e
  have sz : (hSet w s).objs.size = s.heap.objs.size + 1 := Heap.size_push ..
  obtain ⟨⟨c0, d0, x0, o0⟩, at0, cls0, n0, dat0⟩ := id hl1
  simp only at cls0 dat0
  subst cls0 dat0
  have u1 := PySem.F.sub_list_set
  have u2 := PySem.F.sub_list_frozenset
  have u3 : (Value.type "list" == Value.type "dict") = false := rfl
  unfold Builtin.«set.__init__» noKeywords Builtin.Frozenset.updateFrom
  generalize hid : pyIter = it
  wp_walk
  subst hid
  refine wpAny_pyIter_list hl1 (wpAny_bind (wpAny_runValue ?_))
  have off : s.heap.objs.size ∉ [(hSet w s).objs.size, l] := by
    intro m
    rcases List.mem_cons.mp m with m | m
    · exact absurd (m.trans sz) (Nat.ne_of_lt (Nat.lt_succ_self _))
    · exact absurd (List.mem_singleton.mp m).symm (Nat.ne_of_lt lo)
  have apart : l ≠ (hSet w s).objs.size := fun e => absurd (e.trans sz) (Nat.ne_of_lt (Nat.lt_succ_of_lt lo))
  refine set_update_ints (Walks.list (by simpa using quiet) _ l apart its).toS _ off ns many few (fun i v q => ?_) (its.size - 0) 0 { s with heap := hWalk w s l } (by omega) (Nat.zero_le _) ⟨⟨_, Heap.get?_push_size _ rfl, rfl, rfl⟩, hl1.push _⟩ ⟨0, Nat.le_refl 0, bare_zero (Heap.get?_push_of_some _ new)⟩ fun t m mv le S => ?_
  · have lt : i < ns.length := by rw [← many]; exact (Array.getElem?_eq_some_iff.mp q).1
    obtain ⟨k, e⟩ := hit.int_at i v (by rw [Array.getElem?_toList]; exact q)
    rw [List.getD_eq_getElem?_getD, List.getElem?_eq_getElem lt] at e
    exact ⟨_, k, List.getElem?_eq_getElem lt, e⟩
  · obtain ⟨g, q, d, k, z⟩ := t
    obtain rfl : q = s.gens := mv.gens
    obtain rfl : d = s.drawn := mv.drawn
    obtain rfl : z = s.os := mv.os
    refine wpAny_pure (wpAny_pure ⟨rfl, g, k, m, rfl, S, by rw [← many]; exact le, fun b o e => ?_⟩)
    have lb : b < s.heap.objs.size := Heap.lt_size e
    refine mv.heap b o (fun h => ?_) (Heap.get?_push_of_some _ (old e))
    rcases List.mem_cons.mp h with h | h
    · exact absurd h (Nat.ne_of_lt lb)
    · exact absurd ((List.mem_singleton.mp h).trans sz) (Nat.ne_of_lt (Nat.lt_succ_of_lt lb))
/-- set(xs) of a list of ints -/
theorem set_list {l : Addr} {its : Array Value} {ns : List Int} {Q : Value → Shared → Prop} (quiet : A.handled = none) (hl : s.heap.IsList l its) (hit : IntsAre its.toList ns) (few : ns.length + 1 < scanBound)
    (fin : ∀ t, Filled w s ns t → Q (.ref s.heap.objs.size) t) : wpAny (model P w) A (call (.type "set") [.ref l]) Q E s := by
  have F := PySem.F.called_set
  obtain ⟨top, below, mro⟩ := F.mro
  have f1 := F.made; have f2 := F.sub; have f3 := F.notType; have f4 := F.canCreate
  have f5 := PySem.F.typeCall_set_1 (.ref l)
  have new : (hSet w s).get? s.heap.objs.size = some (bareSet w) := Heap.get?_push_size _ rfl
  have ty : Shared.TypeIs { s with heap := hSet w s } (.ref s.heap.objs.size) "set" := ⟨_, new, rfl⟩
  have f6 := F.init.lookup; have f7 := F.init.bind (.ref s.heap.objs.size)
  refine wpAny_call (codeAny_of_tree (show wpAny _ _ (callAny (.type "set") _) _ _ _ from wpAny_pure ⟨Code.quiet_builtin _ (by decide +kernel), codeAny_builtin PySem.F.entry_type_call ?_⟩))
  rw [Around.under_plain (weight_type_call_type "set" [.ref l] []) rfl]
  repeat (any_goals (first | assumption | wp_step))
  refine codeAny_mono (code_set_led1 (.ref l) (E := E) (Q₁ := fun v t => v = .ref s.heap.objs.size ∧ t = { s with heap := hSet w s }) ⟨rfl, rfl⟩) ?_
  rintro (e | fl) t ht
  · exact ht
  cases fl with
  | next => exact ht.elim
  | brk => exact ht.elim
  | cont => exact ht.elim
  | ret v =>
  obtain ⟨rfl, rfl⟩ := ht
  repeat (any_goals (first | assumption | wp_step))
  refine codeAny_mono (codeAny_call_builtin (R := wants (fun v t => v = .none ∧ Filled w s ns t) E) F.init.plain PySem.F.entry_set_init (check_set_init_1 ty ?_)) ?_
  · refine wpAny_mono (init_list (by simpa using quiet) hl hit few) ?_ fun _ _ z => z
    rintro _ t ⟨rfl, z⟩
    exact ⟨rfl, z⟩
  rintro (e | fl) t ht
  · exact ht
  cases fl with
  | next => exact ht.elim
  | brk => exact ht.elim
  | cont => exact ht.elim
  | ret v =>
  obtain ⟨rfl, z⟩ := ht
  repeat (any_goals (first | assumption | wp_step))
  exact fin _ z
end
section
variable {X : Cx}
def rSetLI (K : PySem.W.Frag) (w : World) : List V → Hp → VK → Prop := fun xs H Q => ∃ (p : Addr) (ns : List Int), xs = [.ref p] ∧ SqL K H p (ns.map V.int) ∧ ns.length ≤ 1000 ∧
  ∀ (D : Addr) (L : List Int), H D = none → L.Nodup → (∀ k, k ∈ L ↔ k ∈ ns) → Q (.ref D) (upd H D (SetO w D (fun j => decide (j ∈ ns)) L.length))
theorem call_setLI (hc : X.calm = true) : CallR X (.type "set") (rSetLI X.K X.w) := by
  intro pins s σ H xs us Q I rel ask
  obtain ⟨p, ns, rfl, hs, few, q⟩ := ask
  obtain ⟨u, rfl, ru⟩ := vals1 rel
  cases ru
  obtain ⟨its, rv, pl, hlen⟩ := I.list hs
  refine set_list (ns := ns) (I.ok.hd hc) pl.isList (by simpa using ints_of_vals rv) (by unfold scanBound; omega) fun t ⟨g, k, m, e, S, le, keep⟩ => ?_
  subst e
  have J := I.laid (t' := k) keep (Nat.le_refl _) (setO_new S)
  obtain ⟨o, es, ep, tb, e1, e2, e3, e4, nd, mem, e5, e6, sz, _⟩ := S
  have z := q s.heap.objs.size (es.toList.map keyOf) (I.hok.fresh (Nat.le_refl _)) nd fun k => by rw [← mem k, decide_eq_true_eq]
  rw [List.length_map, Array.length_toList, sz] at z
  exact ⟨.ref _, _, J, rfl, z⟩
end
end WS
set_option linter.all false
/-! The least turned form of a row, by two places that race. -/
namespace Lt
/-- the row from place p on, read round, is less than that from place q on -/
def Ls (f : Nat → Int) (n p q : Nat) : Prop := ∃ k, k < n ∧ (∀ t, t < k → f (p + t) = f (q + t)) ∧ f (p + k) < f (q + k)
theorem Ls.irr {f n p} : ¬ Ls f n p p := by
  rintro ⟨k, _, _, h⟩
  omega
theorem Ls.trans {f : Nat → Int} {n p q r : Nat} (h1 : Ls f n p q) (h2 : Ls f n q r) : Ls f n p r := by
  obtain ⟨k, hk, e1, l1⟩ := h1
  obtain ⟨m, hm, e2, l2⟩ := h2
  by_cases h : k < m
  · exact ⟨k, hk, fun t ht => (e1 t ht).trans (e2 t (by omega)), by rw [← e2 k h]; exact l1⟩
  · by_cases h' : m < k
    · exact ⟨m, hm, fun t ht => (e1 t (by omega)).trans (e2 t ht), by rw [e1 m h']; exact l2⟩
    · have : k = m := by omega
      subst this
      exact ⟨k, hk, fun t ht => (e1 t ht).trans (e2 t ht), by omega⟩
theorem Ls.total (f : Nat → Int) (n p q : Nat) : Ls f n p q ∨ Ls f n q p ∨ ∀ t, t < n → f (p + t) = f (q + t) := by
  induction n with
  | zero => exact .inr (.inr fun t ht => by omega)
  | succ n ih =>
    rcases ih with ⟨k, hk, e, l⟩ | ⟨k, hk, e, l⟩ | e
    · exact .inl ⟨k, by omega, e, l⟩
    · exact .inr (.inl ⟨k, by omega, e, l⟩)
    · by_cases h : f (p + n) < f (q + n)
      · exact .inl ⟨n, by omega, e, h⟩
      · by_cases h' : f (q + n) < f (p + n)
        · exact .inr (.inl ⟨n, by omega, fun t ht => (e t ht).symm, h'⟩)
        · refine .inr (.inr fun t ht => ?_)
          by_cases htn : t < n
          · exact e t htn
          · have : t = n := by omega
            subst this
            omega
theorem ex_min (f : Nat → Int) (n : Nat) : ∀ m, 0 < m → ∃ p, p < m ∧ ∀ q, q < m → ¬ Ls f n q p := by
  intro m
  induction m with
  | zero => intro h; omega
  | succ m ih =>
    intro _
    by_cases h0 : m = 0
    · subst h0
      exact ⟨0, by omega, fun q hq => by have : q = 0 := by omega
                                         subst this; exact Ls.irr⟩
    · obtain ⟨p, hp, hm⟩ := ih (by omega)
      by_cases h : Ls f n m p
      · refine ⟨m, by omega, fun q hq hl => ?_⟩
        by_cases hqm : q = m
        · subst hqm; exact Ls.irr hl
        · exact hm q (by omega) (hl.trans h)
      · refine ⟨p, by omega, fun q hq => ?_⟩
        by_cases hqm : q = m
        · subst hqm; exact h
        · exact hm q (by omega)
/-- the least place whose reading is least -/
theorem ex_first (f : Nat → Int) (n m : Nat) (h : 0 < m) : ∃ p, p < m ∧ (∀ q, q < m → ¬ Ls f n q p) ∧ ∀ q, q < p → ∃ r, r < m ∧ Ls f n r q := by
  obtain ⟨p0, hp0, hm0⟩ := ex_min f n m h
  have key : ∀ k p, p ≤ k → p < m → (∀ q, q < m → ¬ Ls f n q p) → ∃ p, p < m ∧ (∀ q, q < m → ¬ Ls f n q p) ∧ ∀ q, q < p → ∃ r, r < m ∧ Ls f n r q := by
    intro k
    induction k with
    | zero => intro p hk hp hm; exact ⟨p, hp, hm, fun q hq => by omega⟩
    | succ k ih =>
      intro p hk hp hm
      by_cases hx : ∀ q, q < p → ∃ r, r < m ∧ Ls f n r q
      · exact ⟨p, hp, hm, hx⟩
      · have ⟨q, hq⟩ := Classical.not_forall.mp hx
        have ⟨hqp, hn⟩ := Classical.not_imp.mp hq
        refine ih q (by omega) (by omega) fun r hr hl => hn ⟨r, hr, hl⟩
  exact key p0 p0 (Nat.le_refl _) hp0 hm0
/-- what is left out can't be least -/
def Out (f : Nat → Int) (n p : Nat) : Prop := ∃ q, Ls f n q p
structure Race (f : Nat → Int) (n one other alike : Nat) : Prop where
  a : ∀ p, p < one → Out f n p
  b : ∀ p, p < other → p ≠ one → Out f n p
  ne : one ≠ other
  al : alike ≤ n
  e : ∀ t, t < alike → f (one + t) = f (other + t)
theorem Race.start (f : Nat → Int) (n : Nat) : Race f n 0 1 0 := ⟨fun p h => by omega, fun p h h' => by omega, by omega, Nat.zero_le _, fun t h => by omega⟩
theorem Race.more {f n one other alike} (R : Race f n one other alike) (h : alike < n) (e : f (one + alike) = f (other + alike)) : Race f n one other (alike + 1) :=
  ⟨R.a, R.b, R.ne, h, fun t ht => by
    by_cases h' : t < alike
    · exact R.e t h'
    · have : t = alike := by omega
      subst this; exact e⟩
theorem out_run {f : Nat → Int} {n p q alike t : Nat} (h : alike < n) (e : ∀ t, t < alike → f (p + t) = f (q + t)) (l : f (q + alike) < f (p + alike)) (ht : t ≤ alike) : Out f n (p + t) := by
  refine ⟨q + t, alike - t, by omega, fun s hs => ?_, ?_⟩
  · have := e (t + s) (by omega)
    rw [Nat.add_assoc, Nat.add_assoc]
    exact this.symm
  · have e1 : q + t + (alike - t) = q + alike := by omega
    have e2 : p + t + (alike - t) = p + alike := by omega
    rw [e1, e2]
    exact l
theorem Race.one {f n one other alike} (R : Race f n one other alike) (h : alike < n) (l : f (other + alike) < f (one + alike)) :
    Race f n (one + (alike + 1)) (if one + (alike + 1) = other then other + 1 else other) 0 := by
  have A : ∀ p, p < one + (alike + 1) → Out f n p := by
    intro p hp
    by_cases h' : p < one
    · exact R.a p h'
    · obtain ⟨t, rfl⟩ : ∃ t, p = one + t := ⟨p - one, by omega⟩
      exact out_run h R.e l (by omega)
  refine ⟨A, fun p hp hn => ?_, ?_, Nat.zero_le _, fun t ht => by omega⟩
  · by_cases hp1 : p < one + (alike + 1)
    · exact A p hp1
    · split at hp
      · omega
      · by_cases hpo : p = one
        · omega
        · exact R.b p hp hpo
  · split <;> omega
theorem Race.other {f n one other alike} (R : Race f n one other alike) (h : alike < n) (l : f (one + alike) < f (other + alike)) :
    Race f n one (if one = other + (alike + 1) then other + (alike + 1) + 1 else other + (alike + 1)) 0 := by
  have B : ∀ p, p < other + (alike + 1) → p ≠ one → Out f n p := by
    intro p hp hn
    by_cases h' : p < other
    · exact R.b p h' hn
    · obtain ⟨t, rfl⟩ : ∃ t, p = other + t := ⟨p - other, by omega⟩
      exact out_run h (fun t ht => (R.e t ht).symm) l (by omega)
  refine ⟨R.a, fun p hp hn => ?_, ?_, Nat.zero_le _, fun t ht => by omega⟩
  · split at hp
    · exact B p (by omega) hn
    · exact B p hp hn
  · split <;> omega
/-- round: f comes back after n -/
theorem per_mod {f : Nat → Int} {n : Nat} (hf : ∀ s, f (s + n) = f s) (s : Nat) : f (s % n) = f s := by
  have : ∀ k s, f (s + n * k) = f s := by
    intro k
    induction k with
    | zero => intro s; rfl
    | succ k ih => intro s; rw [Nat.mul_succ, ← Nat.add_assoc, hf, ih]
  have h := this (s / n) (s % n)
  rw [Nat.mod_add_div] at h
  exact h.symm
theorem out_in {f : Nat → Int} {n p : Nat} (hf : ∀ s, f (s + n) = f s) (h0 : 0 < n) (h : Out f n p) : ∃ q, q < n ∧ Ls f n q p := by
  obtain ⟨q, k, hk, e, l⟩ := h
  refine ⟨q % n, Nat.mod_lt _ h0, k, hk, fun t ht => ?_, ?_⟩
  · rw [← e t ht, ← per_mod hf (q % n + t), ← per_mod hf (q + t), Nat.mod_add_mod]
  · rw [← per_mod hf (q % n + k), Nat.mod_add_mod, per_mod hf]
    exact l
/-- what comes of the race: the place reads least -/
theorem Race.fin {f : Nat → Int} {n one other alike : Nat} (R : Race f n one other alike) (hf : ∀ s, f (s + n) = f s) (h0 : 0 < n) (hend : ¬ (one < n ∧ other < n ∧ alike < n)) :
    min one other < n ∧ ∀ q, q < n → ¬ Ls f n q (min one other) := by
  obtain ⟨p, hp, hm, hfirst⟩ := ex_first f n n h0
  have no : ¬ Out f n p := fun ho => by
    obtain ⟨q, hq, hl⟩ := out_in hf h0 ho
    exact hm q hq hl
  have h1 : one ≤ p := by
    by_cases h : p < one
    · exact absurd (R.a p h) no
    · omega
  have h2 : p = one ∨ other ≤ p := by
    by_cases h : p = one
    · exact .inl h
    · by_cases h' : p < other
      · exact absurd (R.b p h' h) no
      · omega
  by_cases hn : other < n
  · -- all letters alike
    have ha : alike = n := by
      have := R.al
      omega
    have e := R.e
    rw [ha] at e
    have eall : ∀ t, f (one + t) = f (other + t) := by
      intro t
      have := e (t % n) (Nat.mod_lt _ h0)
      rw [← per_mod hf (one + t), ← per_mod hf (other + t), ← Nat.add_mod_mod one t n, ← Nat.add_mod_mod other t n, per_mod hf, per_mod hf]
      exact this
    have same : ∀ q, Ls f n q one ↔ Ls f n q other := fun q => ⟨fun ⟨k, hk, e1, l⟩ => ⟨k, hk, fun t ht => (e1 t ht).trans (eall t), by rw [← eall k]; exact l⟩, fun ⟨k, hk, e1, l⟩ => ⟨k, hk, fun t ht => (e1 t ht).trans (eall t).symm, by rw [eall k]; exact l⟩⟩
    have hp2 : p = one ∨ p = other := by
      rcases h2 with h2 | h2
      · exact .inl h2
      · by_cases hx : p = one ∨ p = other
        · exact hx
        · exfalso
          have ⟨hx1, hx2⟩ := not_or.mp hx
          have hne := R.ne
          -- one step back
          by_cases hlt : one < other
          · have hd : p - (other - one) < p := by omega
            obtain ⟨r, hr, hl⟩ := hfirst _ hd
            refine hm r hr ?_
            obtain ⟨k, hk, e1, l⟩ := hl
            have sh : ∀ t, f (p - (other - one) + t) = f (p + t) := by
              intro t
              have := eall (p - other + t)
              have a1 : one + (p - other + t) = p - (other - one) + t := by omega
              have a2 : other + (p - other + t) = p + t := by omega
              rw [a1, a2] at this
              exact this
            exact ⟨k, hk, fun t ht => (e1 t ht).trans (sh t), by rw [← sh k]; exact l⟩
          · have hd : p - (one - other) < p := by omega
            obtain ⟨r, hr, hl⟩ := hfirst _ hd
            refine hm r hr ?_
            obtain ⟨k, hk, e1, l⟩ := hl
            have sh : ∀ t, f (p - (one - other) + t) = f (p + t) := by
              intro t
              have := eall (p - one + t)
              have a1 : other + (p - one + t) = p - (one - other) + t := by omega
              have a2 : one + (p - one + t) = p + t := by omega
              rw [a1, a2] at this
              exact this.symm
            exact ⟨k, hk, fun t ht => (e1 t ht).trans (sh t), by rw [← sh k]; exact l⟩
    refine ⟨by omega, fun q hq hl => hm q hq ?_⟩
    have hmin : min one other = one ∨ min one other = other := by omega
    rcases hp2 with rfl | rfl <;> rcases hmin with h | h <;> rw [h] at hl
    · exact hl
    · exact (same q).mpr hl
    · exact (same q).mp hl
    · exact hl
  · have hpo : p = one := by omega
    subst hpo
    have : min p other = p := by omega
    rw [this]
    exact ⟨hp, hm⟩
end Lt
namespace Lt
/-! ### rows read round -/
def rot (xs : List Int) (p : Nat) : List Int := xs.drop p ++ xs.take p
def rd (xs : List Int) (s : Nat) : Int := xs.getD (s % xs.length) 0
theorem rot_length (xs : List Int) (p : Nat) : (rot xs p).length = xs.length := by
  unfold rot
  rw [List.length_append, List.length_drop, List.length_take]
  omega
theorem rd_per (xs : List Int) (s : Nat) : rd xs (s + xs.length) = rd xs s := by
  unfold rd
  rw [Nat.add_mod_right]
theorem rd_lt {xs : List Int} {s : Nat} (h : s < xs.length) : rd xs s = xs.getD s 0 := by
  unfold rd
  rw [Nat.mod_eq_of_lt h]
theorem rot_getD {xs : List Int} {p t : Nat} (hp : p ≤ xs.length) (ht : t < xs.length) : (rot xs p).getD t 0 = rd xs (p + t) := by
  unfold rot rd
  rw [List.getD_eq_getElem?_getD, List.getD_eq_getElem?_getD]
  congr 1
  by_cases h : p + t < xs.length
  · rw [Nat.mod_eq_of_lt h, List.getElem?_append_left (by rw [List.length_drop]; omega), List.getElem?_drop]
  · have e : (p + t) % xs.length = p + t - xs.length := by
      rw [Nat.mod_eq_sub_mod (by omega)]
      by_cases h2 : p + t - xs.length < xs.length
      · exact Nat.mod_eq_of_lt h2
      · omega
    rw [e, List.getElem?_append_right (by rw [List.length_drop]; omega), List.length_drop, List.getElem?_take]
    have h3 : t - (xs.length - p) = p + t - xs.length := by omega
    rw [h3, if_pos (by omega)]
theorem ext_getD {a b : List Int} (hl : a.length = b.length) (h : ∀ t, t < a.length → a.getD t 0 = b.getD t 0) : a = b := by
  apply List.ext_getElem hl
  intro i h1 h2
  have := h i h1
  rw [List.getD_eq_getElem?_getD, List.getD_eq_getElem?_getD, List.getElem?_eq_getElem h1, List.getElem?_eq_getElem h2] at this
  exact this
theorem rot_mem {xs : List Int} {p : Nat} {x : Int} (h : x ∈ rot xs p) : x ∈ xs := by
  unfold rot at h
  rcases List.mem_append.mp h with h | h
  · exact List.mem_of_mem_drop h
  · exact List.mem_of_mem_take h
theorem rot_eq_of {xs : List Int} {p q : Nat} (hp : p ≤ xs.length) (hq : q ≤ xs.length) (h : ∀ t, t < xs.length → rd xs (p + t) = rd xs (q + t)) : rot xs p = rot xs q := by
  refine ext_getD (by rw [rot_length, rot_length]) fun t ht => ?_
  rw [rot_length] at ht
  rw [rot_getD hp ht, rot_getD hq ht, h t ht]
theorem rd_rot {xs : List Int} {p : Nat} (hp : p ≤ xs.length) (h0 : 0 < xs.length) (s : Nat) : rd (rot xs p) s = rd xs (p + s) := by
  have h1 : rd (rot xs p) s = (rot xs p).getD (s % xs.length) 0 := by
    unfold rd
    rw [rot_length]
  rw [h1, rot_getD hp (Nat.mod_lt _ h0)]
  unfold rd
  rw [Nat.add_mod_mod]
theorem rot_rot {xs : List Int} {p q : Nat} (hp : p ≤ xs.length) (hq : q ≤ xs.length) (h0 : 0 < xs.length) : rot (rot xs p) q = rot xs ((p + q) % xs.length) := by
  refine ext_getD (by rw [rot_length, rot_length, rot_length]) fun t ht => ?_
  rw [rot_length, rot_length] at ht
  rw [rot_getD (by rw [rot_length]; exact hq) (by rw [rot_length]; exact ht), rd_rot hp h0, rot_getD (Nat.le_of_lt (Nat.mod_lt _ h0)) ht]
  unfold rd
  rw [Nat.mod_add_mod, Nat.add_assoc]
/-- ms is the least of the turned forms of ns -/
def Least (ns ms : List Int) : Prop := ∃ p, p < max 1 ns.length ∧ ms = rot ns p ∧ ∀ q, q < ns.length → ¬ Ls (rd ns) ns.length q p
theorem Least.ex (ns : List Int) : ∃ ms, Least ns ms := by
  by_cases h : 0 < ns.length
  · obtain ⟨p, hp, hm⟩ := ex_min (rd ns) ns.length ns.length h
    exact ⟨_, p, by omega, rfl, hm⟩
  · exact ⟨_, 0, by omega, rfl, fun q hq => by omega⟩
theorem Least.uniq {ns a b : List Int} (h1 : Least ns a) (h2 : Least ns b) : a = b := by
  obtain ⟨p, hp, rfl, m1⟩ := h1
  obtain ⟨q, hq, rfl, m2⟩ := h2
  by_cases h0 : 0 < ns.length
  · rcases Ls.total (rd ns) ns.length p q with h | h | h
    · exact absurd h (m2 p (by omega))
    · exact absurd h (m1 q (by omega))
    · exact rot_eq_of (by omega) (by omega) h
  · have : p = q := by omega
    rw [this]
theorem Ls.shift {xs : List Int} {j p q : Nat} (hj : j ≤ xs.length) (h0 : 0 < xs.length) : Ls (rd (rot xs j)) xs.length p q ↔ Ls (rd xs) xs.length (j + p) (j + q) := by
  constructor
  · rintro ⟨k, hk, e, l⟩
    refine ⟨k, hk, fun t ht => ?_, ?_⟩
    · have := e t ht
      rw [rd_rot hj h0, rd_rot hj h0] at this
      rw [Nat.add_assoc, Nat.add_assoc]
      exact this
    · rw [rd_rot hj h0, rd_rot hj h0] at l
      rw [Nat.add_assoc, Nat.add_assoc]
      exact l
  · rintro ⟨k, hk, e, l⟩
    refine ⟨k, hk, fun t ht => ?_, ?_⟩
    · rw [rd_rot hj h0, rd_rot hj h0, ← Nat.add_assoc, ← Nat.add_assoc]
      exact e t ht
    · rw [rd_rot hj h0, rd_rot hj h0, ← Nat.add_assoc, ← Nat.add_assoc]
      exact l
theorem Ls.modl {xs : List Int} {p q : Nat} : Ls (rd xs) xs.length (p % xs.length) (q % xs.length) ↔ Ls (rd xs) xs.length p q := by
  have e : ∀ s t, rd xs (s % xs.length + t) = rd xs (s + t) := fun s t => by
    unfold rd
    rw [Nat.mod_add_mod]
  constructor
  · rintro ⟨k, hk, h, l⟩
    exact ⟨k, hk, fun t ht => by rw [← e p, ← e q]; exact h t ht, by rw [← e p, ← e q]; exact l⟩
  · rintro ⟨k, hk, h, l⟩
    exact ⟨k, hk, fun t ht => by rw [e p, e q]; exact h t ht, by rw [e p, e q]; exact l⟩
theorem Least.turn {ns ms : List Int} {j : Nat} (hj : j ≤ ns.length) (h : Least (rot ns j) ms) : Least ns ms := by
  obtain ⟨p, hp, rfl, m⟩ := h
  rw [rot_length] at hp m
  by_cases h0 : 0 < ns.length
  · refine ⟨(j + p) % ns.length, by have := Nat.mod_lt (j + p) h0; omega, rot_rot hj (by omega) h0, fun q hq hl => ?_⟩
    refine m ((q + (ns.length - j)) % ns.length) (Nat.mod_lt _ h0) ?_
    rw [Ls.shift hj h0]
    have e1 : (j + (q + (ns.length - j)) % ns.length) % ns.length = q % ns.length := by
      rw [Nat.add_mod_mod]
      have : j + (q + (ns.length - j)) = q + ns.length := by omega
      rw [this, Nat.add_mod_right]
    rw [← Ls.modl, e1, Ls.modl, ← Ls.modl]
    have := Ls.modl.mpr hl
    rw [Nat.mod_mod] at this
    exact this
  · have : ns = [] := List.length_eq_zero_iff.mp (by omega)
    subst this
    refine ⟨0, by decide, ?_, fun q hq => absurd hq (by simp)⟩
    unfold rot
    simp
theorem Least.turn' {ns ms : List Int} {j : Nat} (hj : j ≤ ns.length) (h : Least ns ms) : Least (rot ns j) ms := by
  obtain ⟨ms', h'⟩ := Least.ex (rot ns j)
  have := h.uniq (h'.turn hj)
  rw [this]
  exact h'
theorem Least.self {ns ms : List Int} (h : Least ns ms) : Least ms ms := by
  obtain ⟨p, hp, e, m⟩ := id h
  by_cases h0 : 0 < ns.length
  · have := h.turn' (j := p) (by omega)
    rw [← e] at this
    exact this
  · have : ns = [] := List.length_eq_zero_iff.mp (by omega)
    subst this
    have : ms = [] := by rw [e]; unfold rot; simp
    rw [this] at h ⊢
    exact h
theorem Least.length {ns ms : List Int} (h : Least ns ms) : ms.length = ns.length := by
  obtain ⟨p, _, e, _⟩ := h
  rw [e, rot_length]
/-! ### the order of rows of one length -/
theorem ls_rows {ns : List Int} {p q : Nat} (hp : p ≤ ns.length) (hq : q ≤ ns.length) : Ls (rd ns) ns.length p q ↔ ∃ k, k < ns.length ∧ (∀ t, t < k → (rot ns p).getD t 0 = (rot ns q).getD t 0) ∧ (rot ns p).getD k 0 < (rot ns q).getD k 0 := by
  constructor
  · rintro ⟨k, hk, e, l⟩
    refine ⟨k, hk, fun t ht => ?_, ?_⟩
    · rw [rot_getD hp (by omega), rot_getD hq (by omega)]
      exact e t ht
    · rw [rot_getD hp hk, rot_getD hq hk]
      exact l
  · rintro ⟨k, hk, e, l⟩
    refine ⟨k, hk, fun t ht => ?_, ?_⟩
    · have := e t ht
      rw [rot_getD hp (by omega), rot_getD hq (by omega)] at this
      exact this
    · rw [rot_getD hp hk, rot_getD hq hk] at l
      exact l
end Lt
set_option Elab.async false
set_option linter.all false
set_option maxRecDepth 100000
set_option maxHeartbeats 1000000
namespace W14
open PySem L2 PySem.Spec PyProof.Rows WR WB
section
variable {X : Cx}
def rCntT (K : PySem.W.Frag) : V → List V → Hp → VK → Prop := fun x xs H Q => ∃ (p : Addr) (ns : List Int) (k : Int), x = .ref p ∧ xs = [.int k] ∧ SqT K H p (iv ns) ∧ Q (.int (ns.count k : Nat)) H
theorem mt_tcount {K : PySem.W.Frag} (hK : X.K = K) : MtR X "tuple.count" (rCntT K) := by
  subst hK
  intro pins s σ H x xs v us Q I rx rxs h
  obtain ⟨p, ns, k, rfl, rfl, hs, q⟩ := h
  cases rx
  obtain ⟨u, rfl, ru⟩ := rxs.one
  obtain ⟨t, rfl⟩ := ru
  obtain ⟨its, rv, ⟨⟨cls, dd, data, sl⟩, ho, hc, n, hd⟩, hlen⟩ := I.tuple hs
  simp only at hc hd
  subst hc hd
  have hi := ints_of_vals rv
  refine call_meets PySem.F.slot_tuple_count ⟨_, ho, rfl⟩ PySem.F.entry_tuple_count (PySem.F.args_tuple_count_2 _ _)
    (SeqAt.tuple_countAt p its.toArray n dd sl (.int k t) (eqk k)) ⟨ho, fun y hy => (eqk_gives hi y (by simpa using hy)).at _ _, ?_⟩
  have ec : its.toArray.toList.countP (eqk k) = ns.count k := eqk_count hi
  refine ⟨.int (ns.count k : Nat), H, I.tok _, ⟨s.toks, ?_⟩, q⟩
  show Value.int ((its.toArray.toList.countP (eqk k) : Nat) : Int) s.toks = Value.int ((ns.count k : Nat) : Int) s.toks
  rw [ec]
def tyB (K : PySem.W.Frag) (x : V) (H : Hp) : Prop := ∃ (a : Addr) (xs : List V), x = .ref a ∧ SqB K H a xs
theorem tyB_ok {K : PySem.W.Frag} (hK : X.K = K) : TyOk X "tuple" (tyB K) := by
  subst hK
  intro pins σ H s x v I r h
  obtain ⟨a, xs, rfl, hB⟩ := h
  cases r
  obtain ⟨its, _, ⟨o1, e1, c1, _⟩, _⟩ := I.tuple hB.sq
  obtain ⟨o, u, e, d⟩ := hB.bare
  have hx : ObjOk X.prog X.w H s.heap a (.frz o u) := I.hok a _ e
  exact ⟨⟨o1, e1, c1⟩, fun b hb => by cases hb; exact ⟨o, hx.1, d⟩⟩
end
structure MethW (P : Program) (w : World) (K : PySem.W.Frag) (mg : Str → Option Value) (base : Heap) (C : Addr) (m : Str) (ps : List Str) (sp : Sp) : Prop where
  ex : ∃ (f : Addr) (fd : FuncData), Meth K C m f ∧ FnOk P w K mg base CX0 6 f fd ps sp ∧ Binds K fd ps []
section
variable {X : Cx} {C : Addr} {o e : Expr} {es : List Expr} {ta : TE} {t : TA} {m : Str} {ps : List Str} {sp : Sp} {apos pos : Pos} {j : Nat}
theorem pe_w0 {pl : Sem Bool} (M : MethW X.prog X.w X.K X.mg X.base C m ps sp) (c : Cls X.K C) (hr : Room j X.A) (hj : 6 ≤ j) (he : PE X o ta)
    (ht : eval (.Call (.Attribute o m apos) [] [] pos) X.env = (do
      let ov ← eval o X.env
      standAt apos.atName
      let (f, first) ← holding [ov] (getMethod ov m pl)
      callWith pos f first (backTo pos (starEach [] X.env)) (backToKw pos (keywordEach [] X.env))) := by rfl) :
    PE X (.Call (.Attribute o m apos) [] [] pos) (tMeth C m sp [] E0 ta tNil) := by
  obtain ⟨f, fd, hm, F, hb⟩ := M.ex
  exact pe_meth0 he c hm F (hr.mono hj) hb .nil pass0 ht
theorem pe_w1 {pl : Sem Bool} (M : MethW X.prog X.w X.K X.mg X.base C m ps sp) (c : Cls X.K C) (hr : Room j X.A) (hj : 6 ≤ j) (he : PE X o ta) (ha : PA X (e :: es) t)
    (hst : starEach (e :: es) X.env = (false, eval e X.env) :: starEach es X.env := by rfl) (hpl : (backTo pos (starEach es X.env)).any (·.1) = false := by rfl)
    (ht : eval (.Call (.Attribute o m apos) (e :: es) [] pos) X.env = (do
      let ov ← eval o X.env
      standAt apos.atName
      let (f, first) ← holding [ov] (getMethod ov m pl)
      callWith pos f first (backTo pos (starEach (e :: es) X.env)) (backToKw pos (keywordEach [] X.env))) := by rfl) :
    PE X (.Call (.Attribute o m apos) (e :: es) [] pos) (tMeth C m sp [] E0 ta t) := by
  obtain ⟨f, fd, hm, F, hb⟩ := M.ex
  exact pe_meth he c hm F (hr.mono hj) hb .nil pass0 ha hst hpl ht
end
theorem WordAt.at {K : PySem.W.Frag} {C : Addr} {H : Hp} {p : Addr} {ns : List Int} (h : WordAt K C H p ns) {m : Str} (h1 : ¬ m = "letters") (h2 : ¬ m = "length") (h3 : ¬ m = "kinds") (h4 : ¬ m = "is_short") (h5 : ¬ m = "is_short_round") :
    ∃ dx fs, H p = some (.ins C dx fs) ∧ fs.lookup m = none := by
  obtain ⟨dx, tl, tk, ks, h, _⟩ := h
  exact ⟨dx, _, h, wf_no h1 h2 h3 h4 h5⟩
theorem nm1 : ¬ (("contrary" : Str) = "letters") ∧ ¬ (("contrary" : Str) = "length") ∧ ¬ (("contrary" : Str) = "kinds") ∧ ¬ (("contrary" : Str) = "is_short") ∧ ¬ (("contrary" : Str) = "is_short_round") := by decide +kernel
theorem nm2 : ¬ (("shortened" : Str) = "letters") ∧ ¬ (("shortened" : Str) = "length") ∧ ¬ (("shortened" : Str) = "kinds") ∧ ¬ (("shortened" : Str) = "is_short") ∧ ¬ (("shortened" : Str) = "is_short_round") := by decide +kernel
theorem nm4 : ¬ (("then" : Str) = "letters") ∧ ¬ (("then" : Str) = "length") ∧ ¬ (("then" : Str) = "kinds") ∧ ¬ (("then" : Str) = "is_short") ∧ ¬ (("then" : Str) = "is_short_round") := by decide +kernel
theorem nm5 : ¬ (("times" : Str) = "letters") ∧ ¬ (("times" : Str) = "length") ∧ ¬ (("times" : Str) = "kinds") ∧ ¬ (("times" : Str) = "is_short") ∧ ¬ (("times" : Str) = "is_short_round") := by decide +kernel
theorem WordAt.no {K : PySem.W.Frag} {C : Addr} {H : Hp} {p : Addr} {ns : List Int} (h : WordAt K C H p ns) {m : Str} (n : ¬ m = "letters" ∧ ¬ m = "length" ∧ ¬ m = "kinds" ∧ ¬ m = "is_short" ∧ ¬ m = "is_short_round") :
    ∃ dx fs, H p = some (.ins C dx fs) ∧ fs.lookup m = none := h.at n.1 n.2.1 n.2.2.1 n.2.2.2.1 n.2.2.2.2
theorem WordAt.drew {K : PySem.W.Frag} {C : Addr} {H H' : Hp} {p a c : Addr} {n : Nat} {ns : List Int} (h : WordAt K C H p ns) (hH : HandAt H a c n) {m : Nat} (d : Drew a c m H H') : WordAt K C H' p ns := by
  have keep : ∀ {q : Addr} {xs : List V}, SqT K H q xs → SqT K H' q xs := by
    intro q xs h
    obtain ⟨cs, i, r, hA, _⟩ := hH
    rcases h with h | h
    · left
      rcases h with h | ⟨o, h⟩
      · exact .inl (d.2 _ _ (fun z => by rw [z, hA] at h; cases h) h)
      · exact .inr ⟨o, d.2 _ _ (fun z => by rw [z, hA] at h; cases h) h⟩
    · exact .inr h
  obtain ⟨dx, tl, tk, ks, h1, h2, h3, h4⟩ := h
  have keepB : SqB K H' tl (iv ns) := by
    refine ⟨keep h2.sq, ?_⟩
    obtain ⟨cs, i, r, hA, _⟩ := hH
    obtain ⟨o, u, e, dn⟩ := h2.bare
    exact ⟨o, u, d.2 _ _ (fun z => by rw [z, hA] at e; cases e) e, dn⟩
  refine ⟨dx, tl, tk, ks, d.2 _ _ (fun z => ?_) h1, keepB, keep h3, h4⟩
  obtain ⟨cs, i, r, hA, _⟩ := hH
  rw [z, hA] at h1
  cases h1
theorem make_at {K : PySem.W.Frag} {C : Addr} {H1 : Hp} {q x dx : Addr} {ms : List Int} {G : Hp → Prop} {E : XK} (nx : H1 x = none) (ndx : H1 dx = none) (hq : SqW K H1 q (iv ms)) (hlen : ms.length ≤ 500) (hl : Lts ms) (k : ∀ H', Same H1 H' → WordAt K C H' x ms → G H') :
    spInit K C [.ref x, .ref q] (L2.upd (L2.upd H1 dx (.own x)) x (.ins C dx [])) (fun v H2 => v = .non ∧ G H2) E := by
  have s0 : Same H1 (L2.upd (L2.upd H1 dx (.own x)) x (.ins C dx [])) := fun b o e => by
    rw [upd_ne (ne_of_none e nx), upd_ne (ne_of_none e ndx)]
    exact e
  exact ⟨H1, x, dx, q, ms, rfl, s0, nx, upd_same, hq, hlen, hl, fun H' s' W' => ⟨rfl, k H' s' W'⟩⟩
theorem eqvL_ints (ns ms : List Int) : PyData.eqv (.list (ns.map .int)) (.list (ms.map .int)) = decide (ns = ms) := by
  show PyData.eqvAll _ _ = _
  exact eqvAll_ints ns ms
theorem no_ne {b : Bool} {A B : Prop} (h : b = true) (k : B) : if (!b) = true then A else B := by rw [h]; exact iteF k
theorem units65 {j : Nat} {A : Around} (hr : Room j A) (h : 1 ≤ j) : A.units + 65 < cLine := by
  have := (hr.mono h).in1.units
  exact this
def exch (a b : List Int) : List Int := a ++ b ++ Fr.con a ++ Fr.con b
theorem exch_length (a b : List Int) : (exch a b).length = 2 * a.length + 2 * b.length := by
  unfold exch
  simp [Fr.con_length]
  omega
theorem Lts.exch {a b : List Int} (h : Lts a) (k : Lts b) : Lts (W14.exch a b) := ((h.app k).app h.con).app k.con
section
variable {P : Program} {w : World} {K : PySem.W.Frag} {mg : Str → Option Value} {base : Heap}
end
theorem tms_len (N : Int) (ns : List Int) : (tms N ns).length = N.natAbs * ns.length := by
  unfold tms
  split
  · exact Fr.rep_length _ _
  · rw [Fr.rep_length, Fr.con_length]
theorem Lts.tms {ns : List Int} (h : Lts ns) (N : Int) : Lts (W14.tms N ns) := by
  unfold W14.tms
  split
  · exact h.rep _
  · exact h.con.rep _
theorem cut_to {ns : List Int} {j : Nat} (h : j ≤ ns.length) : cutV (iv ns) none (some ((j : Nat) : Int)) = iv (ns.take j) := by
  unfold cutV
  rw [HT.sIx_none, HT.sIx_nat, List.drop_zero, Nat.sub_zero, List.length_map, Nat.min_eq_left h, ← List.map_take]
theorem cut_from {ns : List Int} {j : Nat} (h : j ≤ ns.length) : cutV (iv ns) (some ((j : Nat) : Int)) none = iv (ns.drop j) := by
  unfold cutV
  rw [HT.sIx_none, HT.sIx_nat, List.length_map, Nat.min_eq_left h, ← List.map_drop, List.take_of_length_le (by simp)]
def trn (ns : List Int) (by_ : Int) : List Int := if ns = [] then [] else Lt.rot ns (by_ % (ns.length : Int)).toNat
theorem trn_length (ns : List Int) (b : Int) : (trn ns b).length = ns.length := by
  unfold trn
  split
  · rename_i h; rw [h]
  · exact Lt.rot_length _ _
theorem Lts.trn {ns : List Int} (h : Lts ns) (b : Int) : Lts (W14.trn ns b) := by
  unfold W14.trn
  split
  · exact fun _ h => nomatch h
  · exact fun x hx => h x (Lt.rot_mem hx)
section
variable {P : Program} {w : World} {K : PySem.W.Frag} {mg : Str → Option Value} {base : Heap}
end
section
variable {P : Program} {w : World} {K : PySem.W.Frag} {mg : Str → Option Value} {base : Heap}
end
theorem nm6 : ¬ (("turned" : Str) = "letters") ∧ ¬ (("turned" : Str) = "length") ∧ ¬ (("turned" : Str) = "kinds") ∧ ¬ (("turned" : Str) = "is_short") ∧ ¬ (("turned" : Str) = "is_short_round") := by decide +kernel
inductive All2 {α β : Type} (R : α → β → Prop) : List α → List β → Prop
  | nil : All2 R [] []
  | cons {a : α} {b : β} {as : List α} {bs : List β} (h : R a b) (r : All2 R as bs) : All2 R (a :: as) (b :: bs)
theorem All2.length {α β : Type} {R : α → β → Prop} {as : List α} {bs : List β} (h : All2 R as bs) : as.length = bs.length := by
  induction h with
  | nil => rfl
  | cons _ _ ih => simp [ih]
theorem All2.imp {α β : Type} {R S : α → β → Prop} {as : List α} {bs : List β} (h : All2 R as bs) (k : ∀ a b, R a b → S a b) : All2 S as bs := by
  induction h with
  | nil => exact .nil
  | cons h _ ih => exact .cons (k _ _ h) ih
theorem All2.at {α β : Type} {R : α → β → Prop} {as : List α} {bs : List β} (h : All2 R as bs) : ∀ {i : Nat} {a : α}, as[i]? = some a → ∃ b, bs[i]? = some b ∧ R a b := by
  induction h with
  | nil => intro i a e; simp at e
  | cons h r ih =>
    intro i a e
    cases i with
    | zero => simp at e; subst e; exact ⟨_, by simp, h⟩
    | succ i => simpa using ih (by simpa using e)
theorem All2.mem {α β : Type} {R : α → β → Prop} {as : List α} {bs : List β} (h : All2 R as bs) {a : α} (ha : a ∈ as) : ∃ b, b ∈ bs ∧ R a b := by
  obtain ⟨i, e⟩ := List.mem_iff_getElem?.mp ha
  obtain ⟨b, e2, r⟩ := h.at e
  exact ⟨b, List.mem_of_getElem? e2, r⟩
theorem All2.app {α β : Type} {R : α → β → Prop} {as : List α} {bs : List β} (h : All2 R as bs) {cs : List α} {ds : List β} (k : All2 R cs ds) : All2 R (as ++ cs) (bs ++ ds) := by
  induction h with
  | nil => exact k
  | cons h _ ih => exact .cons h ih
theorem lcM {β : Type} {J : It} {xs : List V} {G : Hp → Prop} (w : Walk J xs.length G (YAt xs)) (ys : List β) (R : Addr → Hp → V → β → Prop) (hst : ∀ D H H' v b, R D H v b → Same H H' → R D H' v b) (hput : ∀ D H ws o v b, H D = some (.lst ws) → R D H v b → R D (L2.upd H D o) v b)
    (hz : xs.length < 40000) (hl : xs.length = ys.length) {g : TG} {te : TE} {vs : List Nat} {σ : L2.St} {H1 : Hp} {Q : VK} (hG : ∀ H, Same H1 H → G H)
    (hs : ∀ (i : Nat) (x : V) (b : β), xs[i]? = some x → ys[i]? = some b → ∀ D H, H1 D = none → (∃ ws, H D = some (.lst ws)) → Same H1 H → ∀ (Qy : V → Hp → Prop), (∀ v H', Same H H' → R D H' v b → Qy v H') →
      g x (wipe σ vs) H fun σ2 H2 => wipe σ2 vs = wipe σ vs ∧ te σ2 H2 Qy)
    (hg : ∀ x σ1 H A B, (∀ σ2 H2, A σ2 H2 → B σ2 H2) → g x σ1 H A → g x σ1 H B)
    (hd : ∀ (D : Addr) H' ws, H1 D = none → Same H1 H' → H' D = some (.lst ws) → All2 (R D H') ws ys → Q (.ref D) H') : tLc (fun _ H R => R J H) g tYes te vs σ H1 Q := by
  intro D hD
  refine lc_it w (fun i H => Same H1 H ∧ ∃ ws, H D = some (.lst ws) ∧ All2 (R D H) ws (ys.take i)) ⟨fun b o e => by rw [upd_ne (ne_of_none e hD)]; exact e, [], upd_same, by simp only [List.take_zero]; exact .nil⟩ (fun i H _ q => hG H q.1) ?_ ?_
  · rintro i x H H' hi ⟨sm, ws, hw, h2⟩ ⟨rfl, hx⟩
    have hi2 : i < ys.length := by omega
    refine hg _ _ _ _ _ (fun σ2 H2 q => ⟨q.1, yes_te q.2⟩) (hs i x ys[i] hx (List.getElem?_eq_getElem hi2) D H' hD ⟨ws, hw⟩ sm _ fun v H2 s2 r => ?_)
    have hw2 := s2 _ _ hw
    have hlen := h2.length
    rw [List.length_take] at hlen
    refine ⟨ws, hw2, Evl.sz_lt (by omega), fun b o e => ?_, ws ++ [v], upd_same, ?_⟩
    · rw [upd_ne (ne_of_none e hD)]
      exact s2 _ _ (sm _ _ e)
    · rw [List.take_succ_eq_append_getElem hi2]
      exact (h2.imp fun v b r => hput D H2 ws _ v b hw2 (hst D _ _ v b r s2)).app (.cons (hput D H2 ws _ v _ hw2 r) .nil)
  · rintro H ⟨sm, ws, hw, h2⟩
    rw [List.take_of_length_le (by omega)] at h2
    exact hd D H ws hD sm hw h2
theorem gName_mono {i : Nat} {x : V} {σ : L2.St} {H : Hp} {A B : L2.St → Hp → Prop} (k : ∀ σ2 H2, A σ2 H2 → B σ2 H2) (h : gName i x σ H A) : gName i x σ H B := k _ _ h
theorem gTup_mono {K : PySem.W.Frag} {i j : Nat} {x : V} {σ : L2.St} {H : Hp} {A B : L2.St → Hp → Prop} (k : ∀ σ2 H2, A σ2 H2 → B σ2 H2) (h : gTup K 2 (gCons (gName i) (gCons (gName j) gNil)) x σ H A) : gTup K 2 (gCons (gName i) (gCons (gName j) gNil)) x σ H B := by
  obtain ⟨a, xs, e1, e2, e3, v, r, e4, v2, r2, e5, e6, h⟩ := h
  exact ⟨a, xs, e1, e2, e3, v, r, e4, v2, r2, e5, e6, k _ _ h⟩
theorem SqT.keptL {K : PySem.W.Frag} {H H' : Hp} {l q : Addr} {vs xs : List V} (hl : H l = some (.lst vs)) (d : Kept l H H') (h : SqT K H q xs) : SqT K H' q xs := by
  rcases h with h | h
  · left
    rcases h with h | ⟨o, h⟩
    · exact .inl (d _ _ (fun z => by rw [z, hl] at h; cases h) h)
    · exact .inr ⟨o, d _ _ (fun z => by rw [z, hl] at h; cases h) h⟩
  · exact .inr h
section
variable {X : Cx} {K : PySem.W.Frag} {T : String} {name : Str} {id : String} {r : V → List V → Hp → VK → Prop} {o e : Expr} {es : List Expr} {to : TE} {t : TA} {apos cpos : Pos}
theorem pe_bmK (hK : X.K = K) (pa : PlainAttrs T) (slot : PySem.Slot T name id) (hty : typeOf (.builtin id) = pure (.type "method_descriptor")) (hm : MtR X id r) (ho : PE X o to) (ha : PA X (e :: es) t)
    (hbase : attributeBase o name X.env (eval o X.env) = eval o X.env := by rfl)
    (hfew : ((backTo cpos (starEach (e :: es) X.env)).all (fun x => !x.1) && (backToKw cpos (keywordEach [] X.env)).all (fun x => x.1.isSome)
      && decide ((e :: es).length + ([] : List Keyword).length + (if ([] : List Keyword).isEmpty then 0 else 1) < 30)) = true := by rfl)
    (hline : (apos.endLine == cpos.line) = true := by rfl) (hs : starEach (e :: es) X.env = (false, eval e X.env) :: starEach es X.env := by rfl) (hplain : (backTo cpos (starEach es X.env)).any (·.1) = false := by rfl) :
    PE X (.Call (.Attribute o name apos) (e :: es) [] cpos) (tBM K T r to t) := by
  subst hK
  exact pe_bm pa slot hty hm ho ha hbase hfew hline hs hplain
end
section
variable {P : Program} {w : World} {K : PySem.W.Frag} {mg : Str → Option Value} {base : Heap} {C : Addr}
end
section
variable {P : Program} {w : World} {K : PySem.W.Frag} {mg : Str → Option Value} {base : Heap} {C : Addr}
end
theorem as_lc {wi : TI} {g : TG} {tt : TT} {te : TE} {gg : TG} {vs : List Nat} {D : Ends} {σ : L2.St} {H : Hp}
    (h : wi σ H fun J H1 => tLc (fun _ H R => R J H) g tt te vs σ H1 fun z H4 => gg z σ H4 D.nx) : tAsg (tLc wi g tt te vs) gg D σ H := h
theorem at_set {σ : L2.St} {H : Hp} {v : V} {i : Nat} {f : L2.St → Hp → Prop} (h : f (σ.set i (some v)) H) : gName i v σ H f := h
theorem ixl {X : Cx} {K : PySem.W.Frag} (h : X.K = K) : IxR X (rIxL K) := h ▸ ix_list
theorem call_listK {X : Cx} {K : PySem.W.Frag} (h : X.K = K) : CallR X (.type "list") (fun xs H Q => ∃ p ys, xs = [.ref p] ∧ (SqL K H p ys ∨ SqT K H p ys) ∧ ∀ l, H l = none → Q (.ref l) (L2.upd H l (.lst ys))) := by
  subst h
  exact call_list_of
def toI : V → Int
  | .int i => i
  | _ => 0
theorem perm_iv {ys : List V} {ks0 : List Int} (h : ys.Perm (iv ks0)) : ∃ ks, ys = iv ks ∧ ks.Perm ks0 := by
  refine ⟨ys.map toI, ?_, ?_⟩
  · unfold iv
    rw [List.map_map]
    have : ∀ y ∈ ys, y = (V.int ∘ toI) y := fun y hy => by
      obtain ⟨i, _, rfl⟩ := List.mem_map.mp (h.mem_iff.mp hy)
      rfl
    have e := List.map_congr_left this
    rw [← e]
    simp
  · have := h.map toI
    have e : (iv ks0).map toI = ks0 := by
      unfold iv
      rw [List.map_map]
      have : (toI ∘ V.int) = id := rfl
      rw [this, List.map_id]
    rw [e] at this
    exact this
theorem erase_iv : ∀ (ks : List Int) (m : Nat), (iv ks).eraseIdx m = iv (ks.eraseIdx m)
  | [], _ => rfl
  | _ :: _, 0 => rfl
  | a :: t, m + 1 => by
    show V.int a :: (iv t).eraseIdx m = V.int a :: iv (t.eraseIdx m)
    rw [erase_iv t m]
theorem seq_at {j n : Nat} (h : j < n) : seqIndex? (j : Int) n = some j := by
  unfold seqIndex?
  have h1 : ¬ (j : Int) < 0 := by omega
  simp only [if_neg h1]
  rw [if_pos (by simp; omega), Int.toNat_natCast]
theorem cb_lc {r : List V → Hp → VK → Prop} {wi : TI} {g : TG} {tt : TT} {te : TE} {vs : List Nat} {σ : L2.St} {H : Hp} {Q : VK}
    (h : wi σ H fun J H1 => tLc (fun _ H R => R J H) g tt te vs σ H1 fun y H2 => r [y] H2 Q) : tCB r (tCons (tLc wi g tt te vs) tNil) σ H Q := h
/-! ### the methods that the law calls besides -/
abbrev sLenM : Stmt := inClass (top 41) 2
abbrev sStrM : Stmt := inClass (top 41) 3
abbrev sReadM : Stmt := inClass (top 41) 12
abbrev sTold : Stmt := top 35
def spLenM (K : PySem.W.Frag) (C : Addr) : Sp := fun vs H Q _ => ∃ (p : Addr) (ns : List Int), vs = [.ref p] ∧ WordAt K C H p ns ∧ Q (.int (ns.length : Nat)) H
def spStrM (K : PySem.W.Frag) (C : Addr) : Sp := fun vs H Q _ => ∃ (p : Addr) (ns : List Int), vs = [.ref p] ∧ WordAt K C H p ns ∧ ns.length ≤ 500 ∧ Lts ns ∧ ∀ H', Same H H' → Q (.str (txt ns)) H'
def spTold : Sp := fun vs H Q _ => ∃ ns : List Int, vs = [.str (txt ns)] ∧ Lts ns ∧ ns.length ≤ 500 ∧ ∀ p H', H p = none → Same H H' → H' p = some (.lst ((ns.map itm).map V.str)) → Q (.ref p) H'
def spReadM (K : PySem.W.Frag) (C : Addr) : Sp := fun vs H Q _ => ∃ ns : List Int, vs = [.str (txt ns)] ∧ Lts ns ∧ ns.length ≤ 500 ∧ NewW K C H Q ns
theorem all_iv {ws : List V} {ns : List Int} (h : All2 (fun v b => v = V.int b) ws ns) : ws = iv ns := by
  induction h with
  | nil => rfl
  | cons h _ ih => rw [h, ih]; rfl
theorem itm_dash {i : Int} (h1 : 1 ≤ i.natAbs) (h2 : i.natAbs ≤ 26) : itm i ≠ ⟨#[45]⟩ := by
  unfold itm
  split
  · intro e
    injection e with e
    injection e with e
    injection e with e
    omega
  · intro e
    injection e with e
    injection e with e
    injection e with _ e
    cases e
section
variable {P : Program} {w : World} {K : PySem.W.Frag} {mg : Str → Option Value} {base : Heap} {C : Addr}
theorem scLenM : FnScope ["self"] ["self"] (defScope sLenM) := ⟨rfl, rfl, rfl, by decide +kernel, rfl, by decide +kernel, by decide +kernel⟩
theorem ok_lenM {f : Addr} {fd : FuncData} (F : Fun K "__len__" "Word.__len__" sLenM f fd) (T : TxW K mg C) (hlen : mg "len" = none) : FnOk P w K mg base CX0 1 f fd ["self"] (spLenM K C) := by
  refine F.ok scLenM (fun vs H Q E h => ?_) (fun cdv A outer s H vs Q E hr h => ?_)
  · obtain ⟨p, ns, rfl, _⟩ := h
    rfl
  · obtain ⟨p, ns, rfl, hW, k⟩ := h
    refine ⟨_, pss_one (ps_ret (pe_callB call_len_seq (by rfl) hlen PySem.boot_len (pa_cons (pe_fld (pv 0) rfl) pa_nil))), ?_⟩
    obtain ⟨dx, tl, tk, ks, w1, w2, _⟩ := id hW
    refine ⟨_, rfl, p, C, dx, _, _, rfl, w1, T.cl, T.nL, wf_letters, tl, _, rfl, .inr w2.sq, ?_⟩
    rw [List.length_map]
    exact k
theorem scStrM : FnScope ["self", "letter"] ["self"] (defScope sStrM) := ⟨rfl, rfl, rfl, by decide +kernel, rfl, by decide +kernel, by decide +kernel⟩
theorem ok_strM {f : Addr} {fd : FuncData} (F : Fun K "__str__" "Word.__str__" sStrM f fd) (T : TxW K mg C) (GT : Cal P w K mg base "letter_text" 1 ["letter"] spLText) : FnOk P w K mg base CX0 2 f fd ["self"] (spStrM K C) := by
  refine F.ok scStrM (fun vs H Q E h => ?_) (fun cdv A outer s H vs Q E hr h => ?_)
  · obtain ⟨p, ns, rfl, _⟩ := h
    rfl
  · obtain ⟨p, ns, rfl, hW, ln, hl, k⟩ := h
    refine ⟨_, pss_cons (ps_if (pt_not (pt_truth (pe_fld (pv 0) rfl) (by intro _; rfl))) (pss_one (ps_ret pe_str)) pss_nil)
      (pss_one (ps_ret (pe_join pe_str (pe_lc (own := [("letter", 1)]) (g := gName 1) (tt := tYes) rfl scStrM.nd (pi_tup (pe_fld (pv 0) rfl)) (blkOk_by (N := ["self", "letter"]) (sc := defScope sStrM) (by decide +kernel)) (fun _ _ _ _ _ => pg_name (i := 1) scStrM.nd rfl (Or.inl rfl)) (fun _ _ _ _ _ => pts_nil)
        (fun _ _ _ _ _ => pe_cal GT hr (by decide) (by rfl) (pa_cons (pv 1) pa_nil)))))), ?_⟩
    obtain ⟨dx, tl, tk, ks, w1, w2, _⟩ := id hW
    refine ⟨_, rfl, p, C, dx, _, _, rfl, w1, T.cl, T.nL, wf_letters, _, .inr (.inl ⟨_, w2.sq, rfl⟩), ?_⟩
    by_cases h0 : ns = []
    · subst h0
      refine iteT ?_
      exact k H (Same.refl _)
    · have he : (iv ns).isEmpty = false := by
        cases ns with
        | nil => exact absurd rfl h0
        | cons => rfl
      rw [he]
      refine iteF ?_
      refine ⟨⟨_, rfl⟩, lc_in ?_⟩
      refine ⟨_, rfl, p, C, dx, _, _, rfl, w1, T.cl, T.nL, wf_letters, tl, rfl, ⟨_, w2.sq⟩, ?_⟩
      refine lcp (walk_tup (K := K) (a := tl) (xs := iv ns)) (fun _ => true) (fun x => match x with | .int i => .str (itm i) | _ => .non) (by rw [List.length_map]; omega) (fun H3 s3 => WR.Same.seqT s3 w2.sq) ?_ ?_
      · intro x hx H3 s3 Qy Qn ky kn
        obtain ⟨i, hi, rfl⟩ := List.mem_map.mp hx
        obtain ⟨i1, i2⟩ := hl i hi
        refine ⟨rfl, yes_te ?_⟩
        exact ⟨_, rfl, i, rfl, i1, i2, ky rfl H3 (Same.refl _)⟩
      · intro D H3 hD s3 h3
        have e : (((iv ns).filter fun _ => true).map fun x => match x with | .int i => V.str (itm i) | _ => .non) = (ns.map itm).map V.str := by
          rw [List.filter_eq_self.mpr (fun _ _ => rfl)]
          simp [iv, Function.comp_def]
        rw [e] at h3
        refine ⟨_, D, ns.map itm, rfl, rfl, .inl (SqL.of h3), ?_, ?_⟩
        · have hs : ∀ ms : List Int, ((ms.map itm).map (·.length)).sum ≤ 2 * ms.length := by
            intro ms
            induction ms with
            | nil => exact Nat.zero_le _
            | cons a r ih =>
              have := itm_len a
              simp only [List.map_cons, List.sum_cons, List.length_cons]
              omega
          have h1 := hs ns
          have h2 : (ns.map itm).length = ns.length := List.length_map ..
          rw [h2]
          show _ + ns.length * 1 ≤ _
          omega
        · have et : txt ns = Txt.join (Str.ofString " ") (ns.map itm) := by
            unfold txt
            rw [if_neg h0, space_eq]
          have := k H3 s3
          rw [et] at this
          exact this
theorem scTold : FnScope ["text", "items"] ["text"] (defScope sTold) := ⟨rfl, rfl, rfl, by decide +kernel, rfl, by decide +kernel, by decide +kernel⟩
theorem ok_told {f : Addr} {fd : FuncData} (F : Fun K "items_told" "items_told" sTold f fd) (GI : Cal P w K mg base "items_of" 1 ["text"] spItems) (hlen : mg "len" = none) : FnOk P w K mg base CX0 2 f fd ["text"] spTold := by
  refine F.ok scTold (fun vs H Q E h => ?_) (fun cdv A outer s H vs Q E hr h => ?_)
  · obtain ⟨ns, rfl, _⟩ := h
    rfl
  · obtain ⟨ns, rfl, hl, ln, k⟩ := h
    refine ⟨_, pss_cons (ps_set (i := 1) scTold.nd rfl (Or.inl rfl) (pe_cal GI hr (by decide) (by rfl) (pa_cons (pv 0) pa_nil)))
      (pss_cons (ps_if (pt_cmpR op_ne (pe_ix ix_list (pv 1) pe_int (fun _ _ => rfl)) pe_str (nomark _)) (pss_one (ps_ret (pv 1))) pss_nil)
      (pss_cons (ps_if (pt_cmpR op_gt (pe_callB call_len_seq (by rfl) hlen PySem.boot_len (pa_cons (pv 1) pa_nil)) pe_int (nomark _)) (pss_one ps_never) pss_nil)
      (pss_one (ps_ret (pe_lst pa_nil))))), ?_⟩
    refine ⟨_, rfl, ns, rfl, hl, ln, fun p H1 hp0 s1 h1 => ?_⟩
    refine at_set ?_
    try dsimp only
    by_cases h0 : ns = []
    · subst h0
      rw [if_pos rfl] at h1
      refine ⟨_, rfl, p, _, _, _, rfl, rfl, SqL.of h1, atI_nat (j := 0) rfl, rfl, _, rfl, ?_⟩
      refine iteF' (by rw [dash_eq]; decide +kernel) ?_
      refine ⟨_, rfl, p, _, rfl, .inl (SqL.of h1), _, _, rfl, rfl, _, rfl, iteF' (by decide) ?_⟩
      exact ⟨Nat.zero_le _, fun q hq => k q _ (s1.free hq) (s1.trans (same_upd hq)) upd_same⟩
    · rw [if_neg h0] at h1
      cases ns with
      | nil => exact absurd rfl h0
      | cons a r =>
        obtain ⟨a1, a2⟩ := hl a List.mem_cons_self
        refine ⟨_, rfl, p, _, _, _, rfl, rfl, SqL.of h1, atI_nat (j := 0) rfl, rfl, _, rfl, ?_⟩
        refine iteT' ?_ ⟨_, rfl, k p H1 hp0 s1 h1⟩
        rw [dash_eq]
        have hd := itm_dash a1 a2
        have : ¬ (V.str (itm a) = V.str ⟨#[45]⟩) := fun q => hd (by injection q)
        simp [this]
theorem scReadM : FnScope ["text", "letters", "at", "letter", "item"] ["text"] (defScope sReadM) := ⟨rfl, rfl, rfl, by decide +kernel, rfl, by decide +kernel, by decide +kernel⟩
theorem ok_readM {f : Addr} {fd : FuncData} (F : Fun K "read" "Word.read" sReadM f fd) (T : TxW K mg C) (M : MkW P w K mg base C) (GT : Cal P w K mg base "items_told" 2 ["text"] spTold) (GL : Cal P w K mg base "letter_of" 1 ["item"] spLOf) (henum : mg "enumerate" = none) : FnOk P w K mg base CX0 6 f fd ["text"] (spReadM K C) := by
  refine F.ok scReadM (fun vs H Q E h => ?_) (fun cdv A outer s H vs Q E hr h => ?_)
  · obtain ⟨ns, rfl, _⟩ := h
    rfl
  · obtain ⟨ns, rfl, hl, ln, k⟩ := h
    obtain ⟨tk, mL⟩ := T.most
    refine ⟨_, pss_cons (ps_setLc (i := 1) (own := [("item", 4)]) (g := gName 4) (tt := tYes) rfl scReadM.nd rfl rfl (sw_true rfl rfl rfl (by decide +kernel)) (pi_list (pe_cal GT hr (by decide) (by rfl) (pa_cons (pv 0) pa_nil))) (blkOk_by (N := ["text", "letters", "at", "letter", "item"]) (sc := defScope sReadM) (by decide +kernel)) (fun _ _ _ _ _ => pg_name (i := 4) scReadM.nd rfl (Or.inl rfl)) (fun _ _ _ _ _ => pts_nil)
        (fun _ _ _ _ _ => pe_cal GL hr (by decide) (by rfl) (pa_cons (pv 4) pa_nil)))
      (pss_cons (ps_for PassesOwn.never rfl (pi_enum (by rfl) henum (pa_cons (pv 1) pa_nil)) (pg_tup (n := 2) rfl (pgs_cons (pg_name (i := 2) scReadM.nd rfl (Or.inl rfl)) (pgs_cons (pg_name (i := 3) scReadM.nd rfl (Or.inl rfl)) pgs_nil)))
        (pss_one (ps_if (PW.pt (pw_or (pt_cmpR op_isN (pv 3) pe_non (nomark _)) (pw_or1 (pt_cmpR op_eq (pv 2) (pe_glob (v := .int 500) (by rfl) mL ⟨_, rfl⟩) (nomark _))))) (pss_one ps_never) pss_nil)))
      (pss_one (ps_ret (pe_word M T hr (by decide) (by rfl) (pa_cons (pv 1) pa_nil))))), ?_⟩
    refine as_lc ?_
    refine ⟨_, rfl, ns, rfl, hl, ln, fun p H1 hp0 s1 h1 => ?_⟩
    refine ⟨p, rfl, ⟨_, SqL.of h1⟩, ?_⟩
    refine lcM (walk_list (K := K) (a := p) (xs := (ns.map itm).map V.str)) ns (fun _ _ v b => v = V.int b) (fun _ _ _ _ _ h _ => h) (fun _ _ _ _ _ _ _ h => h) (by rw [List.length_map, List.length_map]; omega) (by rw [List.length_map, List.length_map]) (fun H2 s2 => SqL.of (s2 _ _ h1)) ?_ (fun x σ1 H A B k h => gName_mono k h) ?_
    · intro i x b hx hb D H2 hD hus s2 Qy ky
      rw [List.getElem?_map, List.getElem?_map, hb] at hx
      obtain rfl := Option.some.inj hx
      obtain ⟨b1, b2⟩ := hl b (List.mem_of_getElem? hb)
      refine ⟨rfl, ?_⟩
      exact ⟨_, rfl, b, rfl, b1, b2, ky _ _ (Same.refl _) rfl⟩
    intro D H2 ws hD s2 h2 r2
    have ews : ws = iv ns := all_iv r2
    rw [ews] at h2
    refine at_set ?_
    try dsimp only
    refine ⟨_, rfl, D, _, rfl, SqL.of h2, ?_⟩
    refine for_it (walk_enum (K := K) (a := D) (xs := iv ns)) (fun i σ H' => ∃ v2 v3 : Option V, σ = [some (.str (txt ns)), some (.ref D), v2, v3, none] ∧ Same H2 H') ⟨none, none, rfl, Same.refl _⟩ (fun i σ H' _ ⟨_, _, _, s⟩ => SqL.of (s _ _ h2)) ?_ ?_
    · rintro i x σ H3 H4 hi ⟨v2, v3, rfl, sm⟩ ⟨T0, xi, yi, rfl, hT0, rfl, hx, hy⟩
      have hin : i < ns.length := by rw [List.length_map] at hi; exact hi
      obtain rfl := Option.some.inj hx
      have ey : yi = V.int ns[i] := by
        have hy : (iv ns)[i]? = some yi := hy
        rw [List.getElem?_map, List.getElem?_eq_getElem hin] at hy
        exact (Option.some.inj hy).symm
      subst ey
      refine ⟨T0, _, rfl, SqT.of upd_same, rfl, _, _, rfl, _, _, rfl, rfl, ?_⟩
      refine ⟨_, rfl, rfl, _, rfl, iteF' (decide_eq_false (fun z => nomatch z)) ?_⟩
      refine ⟨_, rfl, rfl, _, rfl, iteF' (decide_eq_false (fun z => ?_)) ?_⟩
      · injection z with z
        omega
      · exact ⟨_, _, rfl, sm.trans (same_upd hT0)⟩
    · rintro σ H3 ⟨v2, v3, rfl, sm⟩
      refine ⟨_, rfl, fun x dx nx ndx _ => make_at nx ndx (.inl (SqL.of (sm _ _ h2))) ln hl fun H4 s4 W4 => ?_⟩
      exact k x H4 (((s1.trans s2).trans sm).trans s4) W4
end

end W14
set_option Elab.async false
set_option linter.all false
/-! Words put for letters, kinds renamed, what a row holds more of a letter than of its contrary. -/
namespace Fr
def sub (f : Int → List Int) (xs : List Int) : List Int := (xs.map f).flatten
/-- the contrary for the contrary -/
def Odd (f : Int → List Int) : Prop := ∀ x, x ≠ 0 → f (-x) = con (f x)
theorem sub_nil (f : Int → List Int) : sub f [] = [] := rfl
theorem sub_cons (f : Int → List Int) (a : Int) (t : List Int) : sub f (a :: t) = f a ++ sub f t := by simp [sub]
theorem sub_app (f : Int → List Int) (xs ys : List Int) : sub f (xs ++ ys) = sub f xs ++ sub f ys := by simp [sub]
theorem sub_one (f : Int → List Int) (a : Int) : sub f [a] = f a := by simp [sub]
theorem sub_congr {f g : Int → List Int} {xs : List Int} (h : ∀ x ∈ xs, f x = g x) : sub f xs = sub g xs := by
  unfold sub
  rw [List.map_congr_left h]
theorem sub_con {f : Int → List Int} (o : Odd f) : ∀ {xs : List Int}, NZ xs → sub f (con xs) = con (sub f xs)
  | [], _ => rfl
  | a :: t, nz => by
    have ha : a ≠ 0 := nz a List.mem_cons_self
    have ht : NZ t := fun x hx => nz x (List.mem_cons_of_mem _ hx)
    rw [con_cons, sub_app, sub_one, sub_cons, con_append, sub_con o ht, o a ha]
theorem sub_push {f : Int → List Int} (o : Odd f) {s : List Int} {a : Int} (ha : a ≠ 0) : Sm (sub f (push s a).reverse) (sub f (s.reverse ++ [a])) := by
  cases s with
  | nil => exact Sm.refl _
  | cons b t =>
    by_cases e : b = -a
    · have h1 : push (b :: t) a = t := by simp [push, e]
      rw [h1, e, List.reverse_cons, sub_app, sub_app, sub_one, sub_one, o a ha, List.append_assoc]
      have := (Sm.refl (sub f t.reverse)).app (sm_con' (f a))
      rw [List.append_nil] at this
      exact this.symm
    · have h1 : push (b :: t) a = a :: b :: t := by simp [push, e]
      rw [h1]
      simp only [List.reverse_cons]
      exact Sm.refl _
theorem sub_act {f : Int → List Int} (o : Odd f) : ∀ {xs : List Int} (s : List Int), NZ xs → Sm (sub f (act s xs).reverse) (sub f (s.reverse ++ xs))
  | [], s, _ => by
    rw [List.append_nil]
    exact Sm.refl _
  | a :: t, s, nz => by
    have ha : a ≠ 0 := nz a List.mem_cons_self
    have ht : NZ t := fun x hx => nz x (List.mem_cons_of_mem _ hx)
    rw [act_cons]
    refine (sub_act o (push s a) ht).trans ?_
    have := (sub_push o (s := s) ha).app (Sm.refl (sub f t))
    rw [← sub_app, ← sub_app, List.append_assoc] at this
    exact this
theorem sub_shr {f : Int → List Int} (o : Odd f) {xs : List Int} (nz : NZ xs) : Sm (sub f (shr xs)) (sub f xs) := sub_act o [] nz
theorem sub_sm {f g : Int → List Int} (h : ∀ x, x ≠ 0 → Sm (f x) (g x)) : ∀ {xs : List Int}, NZ xs → Sm (sub f xs) (sub g xs)
  | [], _ => Sm.refl _
  | a :: t, nz => by
    rw [sub_cons, sub_cons]
    exact (h a (nz a List.mem_cons_self)).app (sub_sm h fun x hx => nz x (List.mem_cons_of_mem _ hx))
theorem sub_id {f : Int → List Int} {xs : List Int} (h : ∀ x ∈ xs, f x = [x]) : sub f xs = xs := by
  induction xs with
  | nil => rfl
  | cons a t ih =>
    rw [sub_cons, h a List.mem_cons_self, ih fun x hx => h x (List.mem_cons_of_mem _ hx)]
    rfl
theorem sub_sub (f g : Int → List Int) : ∀ xs : List Int, sub f (sub g xs) = sub (fun x => sub f (g x)) xs
  | [] => rfl
  | a :: t => by rw [sub_cons, sub_cons, sub_app, sub_sub f g t]
theorem sub_map (h : Int → Int) (xs : List Int) : sub (fun x => [h x]) xs = xs.map h := by
  induction xs with
  | nil => rfl
  | cons a t ih => rw [sub_cons, ih]; rfl
theorem sub_length {f : Int → List Int} {m : Nat} {xs : List Int} (h : ∀ x ∈ xs, (f x).length ≤ m) : (sub f xs).length ≤ xs.length * m := by
  induction xs with
  | nil => simp [sub]
  | cons a t ih =>
    have h1 := h a List.mem_cons_self
    have h2 := ih fun x hx => h x (List.mem_cons_of_mem _ hx)
    rw [sub_cons, List.length_append, List.length_cons, Nat.add_mul]
    omega
theorem sub_mem {f : Int → List Int} {xs : List Int} {y : Int} (h : y ∈ sub f xs) : ∃ x ∈ xs, y ∈ f x := by
  unfold sub at h
  obtain ⟨l, hl, hy⟩ := List.mem_flatten.mp h
  obtain ⟨x, hx, rfl⟩ := List.mem_map.mp hl
  exact ⟨x, hx, hy⟩
/-! ### one kind's letters -/
def putF (k : Int) (os : List Int) (x : Int) : List Int := if x = k then os else if x = -k then con os else [x]
theorem putF_odd {k : Int} (hk : k ≠ 0) (os : List Int) : Odd (putF k os) := by
  intro x hx
  unfold putF
  by_cases h1 : x = k
  · subst h1
    rw [if_neg (by omega), if_pos rfl, if_pos rfl]
  · by_cases h2 : x = -k
    · subst h2
      rw [if_pos (by omega), if_neg h1, if_pos rfl, con_con]
    · rw [if_neg (by omega), if_neg (by omega), if_neg h1, if_neg h2]
      rfl
/-- what is told of the kinds -/
def tabF (g : Int → List Int) (x : Int) : List Int := if 0 < x then g x else con (g (-x))
theorem tabF_odd (g : Int → List Int) : Odd (tabF g) := by
  intro x hx
  unfold tabF
  by_cases h : 0 < x
  · rw [if_neg (by omega), if_pos h, Int.neg_neg]
  · rw [if_pos (by omega), if_neg h, con_con]
theorem tabF_put {k : Int} (hk : 0 < k) (os : List Int) {x : Int} (hx : x ≠ 0) : tabF (fun y => if y = k then os else [y]) x = putF k os x := by
  unfold tabF putF
  by_cases h : 0 < x
  · rw [if_pos h]
    dsimp only
    by_cases e : x = k
    · rw [if_pos e, if_pos e]
    · rw [if_neg e, if_neg e, if_neg (by omega)]
  · rw [if_neg h]
    dsimp only
    have nk : ¬ x = k := by omega
    rw [if_neg nk]
    by_cases e : x = -k
    · rw [if_pos (by omega), if_pos e]
    · rw [if_neg (by omega), if_neg e]
      simp [con]
/-! ### kinds renamed -/
/-- the letter that is told for a kind -/
def told? (prs : List (Int × Int)) (k : Int) : Option Int := (prs.find? fun p => decide (p.1 = k)).map (·.2)
def ren (prs : List (Int × Int)) (x : Int) : Int := if 0 < x then (told? prs x).getD x else -((told? prs (-x)).getD (-x))
theorem ren_odd (prs : List (Int × Int)) {x : Int} (hx : x ≠ 0) : ren prs (-x) = -ren prs x := by
  unfold ren
  by_cases h : 0 < x
  · rw [if_neg (by omega), if_pos h, Int.neg_neg]
  · rw [if_pos (by omega), if_neg h, Int.neg_neg]
theorem renF_odd (prs : List (Int × Int)) : Odd fun x => [ren prs x] := fun x hx => by
  show [ren prs (-x)] = con [ren prs x]
  rw [ren_odd prs hx]
  rfl
theorem told_nil (k : Int) : told? [] k = none := rfl
theorem told_cons (p : Int × Int) (r : List (Int × Int)) (k : Int) : told? (p :: r) k = if p.1 = k then some p.2 else told? r k := by
  unfold told?
  rw [List.find?_cons]
  by_cases h : p.1 = k
  · rw [if_pos h, decide_eq_true h]
    rfl
  · rw [if_neg h, decide_eq_false h]
theorem told_some {prs : List (Int × Int)} {k l : Int} (h : told? prs k = some l) : (k, l) ∈ prs := by
  induction prs with
  | nil => cases h
  | cons p r ih =>
    rw [told_cons] at h
    by_cases e : p.1 = k
    · rw [if_pos e] at h
      obtain rfl := Option.some.inj h
      rw [← e]
      exact List.mem_cons_self
    · rw [if_neg e] at h
      exact List.mem_cons_of_mem _ (ih h)
theorem told_in {prs : List (Int × Int)} (nd : (prs.map (·.1)).Nodup) {k l : Int} (h : (k, l) ∈ prs) : told? prs k = some l := by
  induction prs with
  | nil => cases h
  | cons p r ih =>
    rw [List.map_cons, List.nodup_cons] at nd
    rw [told_cons]
    rcases List.mem_cons.mp h with h | h
    · rw [← h, if_pos rfl]
    · have : p.1 ≠ k := fun e => nd.1 (List.mem_map.mpr ⟨_, h, e.symm⟩)
      rw [if_neg this]
      exact ih nd.2 h
theorem told_none {prs : List (Int × Int)} {k : Int} (h : told? prs k = none) {l : Int} : (k, l) ∉ prs := by
  induction prs with
  | nil => exact fun q => nomatch q
  | cons p r ih =>
    rw [told_cons] at h
    by_cases e : p.1 = k
    · rw [if_pos e] at h
      cases h
    · rw [if_neg e] at h
      intro q
      rcases List.mem_cons.mp q with q | q
      · rw [← q] at e
        exact e rfl
      · exact ih h q
/-- the order is nothing -/
theorem told_perm {ps qs : List (Int × Int)} (np : (ps.map (·.1)).Nodup) (h : ∀ p, p ∈ ps ↔ p ∈ qs) (nq : (qs.map (·.1)).Nodup) (k : Int) : told? ps k = told? qs k := by
  cases e : told? ps k with
  | some l => exact (told_in nq ((h _).mp (told_some e))).symm
  | none =>
    cases e2 : told? qs k with
    | none => rfl
    | some l => exact absurd ((h _).mpr (told_some e2)) (told_none e)
theorem ren_perm {ps qs : List (Int × Int)} (np : (ps.map (·.1)).Nodup) (h : ∀ p, p ∈ ps ↔ p ∈ qs) (nq : (qs.map (·.1)).Nodup) (x : Int) : ren ps x = ren qs x := by
  unfold ren
  rw [told_perm np h nq, told_perm np h nq]
/-! ### balance -/
def cnt (xs : List Int) (k : Int) : Int := (xs.count k : Int) - (xs.count (-k) : Int)
theorem cnt_app (xs ys : List Int) (k : Int) : cnt (xs ++ ys) k = cnt xs k + cnt ys k := by
  unfold cnt
  rw [List.count_append, List.count_append]
  omega
theorem cnt_nil (k : Int) : cnt [] k = 0 := rfl
theorem cnt_con (xs : List Int) (k : Int) : cnt (con xs) k = -cnt xs k := by
  have h : ∀ j : Int, (con xs).count j = xs.count (-j) := by
    intro j
    unfold con
    rw [← List.count_reverse (l := xs)]
    generalize xs.reverse = ys
    induction ys with
    | nil => rfl
    | cons a t ih =>
      rw [List.map_cons, List.count_cons, List.count_cons, ih]
      have : (-a == j) = (a == -j) := by
        rw [Bool.eq_iff_iff, beq_iff_eq, beq_iff_eq]
        omega
      rw [this]
  unfold cnt
  rw [h, h, Int.neg_neg]
  omega
theorem cnt_one (a k : Int) : cnt [a] k = (if a = k then 1 else 0) - (if a = -k then 1 else 0) := by
  unfold cnt
  simp only [List.count_cons, List.count_nil, beq_iff_eq]
  split <;> split <;> rfl
theorem cnt_cons (a : Int) (t : List Int) (k : Int) : cnt (a :: t) k = cnt [a] k + cnt t k := cnt_app [a] t k
theorem cnt_pair (a k : Int) : cnt [-a] k = -cnt [a] k := cnt_con [a] k
theorem cnt_push (s : List Int) (a k : Int) : cnt (push s a) k = cnt s k + cnt [a] k := by
  cases s with
  | nil => rw [cnt_nil]; show cnt [a] k = _; omega
  | cons b t =>
    by_cases e : b = -a
    · have h1 : push (b :: t) a = t := by simp [push, e]
      rw [h1, e, cnt_cons (-a) t, cnt_pair]
      omega
    · have h1 : push (b :: t) a = a :: b :: t := by simp [push, e]
      rw [h1, cnt_cons a]
      omega
theorem cnt_act : ∀ (xs s : List Int) (k : Int), cnt (act s xs) k = cnt s k + cnt xs k
  | [], s, k => by rw [act_nil, cnt_nil]; omega
  | a :: t, s, k => by
    rw [act_cons, cnt_act t, cnt_push, cnt_cons a t]
    omega
theorem cnt_rev (xs : List Int) (k : Int) : cnt xs.reverse k = cnt xs k := by
  unfold cnt
  rw [List.count_reverse, List.count_reverse]
theorem cnt_shr (xs : List Int) (k : Int) : cnt (shr xs) k = cnt xs k := by
  unfold shr
  rw [cnt_rev, cnt_act, cnt_nil]
  omega
theorem cnt_rep (n : Nat) (xs : List Int) (k : Int) : cnt (rep n xs) k = n * cnt xs k := by
  induction n with
  | zero => rw [rep_zero, cnt_nil]; simp
  | succ n ih =>
    rw [rep_succ, cnt_app, ih, Int.natCast_add, Int.add_mul]
    show cnt xs k + _ = _ + 1 * cnt xs k
    omega
theorem cnt_sub {k : Int} (hk : 0 < k) (os : List Int) {e : Int} (he : 0 < e) : ∀ xs : List Int, NZ xs → cnt (sub (putF k os) xs) e = (if e = k then 0 else cnt xs e) + cnt xs k * cnt os e
  | [], _ => by rw [sub_nil, cnt_nil, cnt_nil]; simp
  | a :: t, nz => by
    have ih := cnt_sub hk os he t fun x hx => nz x (List.mem_cons_of_mem _ hx)
    have ha : a ≠ 0 := nz a List.mem_cons_self
    rw [sub_cons, cnt_app, ih, cnt_cons a t, cnt_cons a t k, Int.add_mul]
    have c1 : ∀ j : Int, 0 < j → cnt [j] j = 1 := fun j hj => by rw [cnt_one, if_pos rfl, if_neg (by omega)]; rfl
    have c0 : ∀ i j : Int, i ≠ j → i ≠ -j → cnt [i] j = 0 := fun i j h1 h2 => by rw [cnt_one, if_neg h1, if_neg h2]; rfl
    have key : cnt (putF k os a) e = (if e = k then 0 else cnt [a] e) + cnt [a] k * cnt os e := by
      unfold putF
      by_cases h1 : a = k
      · rw [if_pos h1, h1, c1 k hk]
        by_cases h2 : e = k
        · rw [if_pos h2]; omega
        · rw [if_neg h2, c0 k e (by omega) (by omega)]; omega
      · rw [if_neg h1]
        by_cases h2 : a = -k
        · rw [if_pos h2, cnt_con, h2, cnt_pair, cnt_pair, c1 k hk]
          by_cases h3 : e = k
          · rw [if_pos h3]; omega
          · rw [if_neg h3, c0 k e (by omega) (by omega)]; omega
        · rw [if_neg h2, c0 a k h1 h2]
          by_cases h3 : e = k
          · rw [if_pos h3, h3, c0 a k h1 h2]; omega
          · rw [if_neg h3]; omega
    rw [key]
    by_cases h3 : e = k
    · rw [if_pos h3]; omega
    · rw [if_neg h3, if_neg h3, if_neg h3]; omega
/-- each kind that stands more often forward than backward, or less -/
def bal (xs : List Int) : List (Int × Int) := ((List.range 26).map fun (i : Nat) => ((i : Int) + 1, cnt xs ((i : Int) + 1))).filter fun p => decide (p.2 ≠ 0)
theorem bal_congr {xs ys : List Int} (h : ∀ k, cnt xs k = cnt ys k) : bal xs = bal ys := by
  unfold bal
  congr 1
  exact List.map_congr_left fun i _ => by rw [h]
theorem bal_shr (xs : List Int) : bal (shr xs) = bal xs := bal_congr (cnt_shr xs)
end Fr
set_option Elab.async false
set_option linter.all false
set_option maxRecDepth 100000
set_option maxHeartbeats 1000000
namespace W14
open PySem L2 PySem.Spec PyProof.Rows WR WB
theorem sorted_ext : ∀ (l1 l2 : List Int), l1.Pairwise (· < ·) → l2.Pairwise (· < ·) → (∀ x, x ∈ l1 ↔ x ∈ l2) → l1 = l2
  | [], [], _, _, _ => rfl
  | [], b :: t, _, _, h => absurd ((h b).mpr List.mem_cons_self) (fun q => nomatch q)
  | a :: s, [], _, _, h => absurd ((h a).mp List.mem_cons_self) (fun q => nomatch q)
  | a :: s, b :: t, h1, h2, h => by
    rw [List.pairwise_cons] at h1 h2
    have e : a = b := by
      rcases List.mem_cons.mp ((h a).mp List.mem_cons_self) with e | m
      · exact e
      · rcases List.mem_cons.mp ((h b).mpr List.mem_cons_self) with e | m2
        · exact e.symm
        · have := h2.1 a m
          have := h1.1 b m2
          omega
    subst e
    rw [sorted_ext s t h1.2 h2.2 fun x => ⟨fun hx => ?_, fun hx => ?_⟩]
    · rcases List.mem_cons.mp ((h x).mp (List.mem_cons_of_mem _ hx)) with e | m
      · have := h1.1 x hx
        omega
      · exact m
    · rcases List.mem_cons.mp ((h x).mpr (List.mem_cons_of_mem _ hx)) with e | m
      · have := h2.1 x hx
        omega
      · exact m
theorem cnt_zero {ns : List Int} {k : Int} (h : ¬ ∃ x ∈ ns, k = (x.natAbs : Int)) (hk : 0 < k) : Fr.cnt ns k = 0 := by
  have h1 : ns.count k = 0 := List.count_eq_zero.mpr fun q => h ⟨k, q, by omega⟩
  have h2 : ns.count (-k) = 0 := List.count_eq_zero.mpr fun q => h ⟨-k, q, by omega⟩
  unfold Fr.cnt
  rw [h1, h2]
  rfl
theorem bal_kinds {ns ks : List Int} (h : Lts ns) (hk : kindsOk ns ks) : (ks.map fun k => (k, Fr.cnt ns k)).filter (fun p => decide (p.2 ≠ 0)) = Fr.bal ns := by
  have e : Fr.bal ns = (((List.range 26).map fun (i : Nat) => (i : Int) + 1).map fun k => (k, Fr.cnt ns k)).filter (fun p => decide (p.2 ≠ 0)) := by
    unfold Fr.bal
    rw [List.map_map]
    rfl
  rw [e, List.filter_map, List.filter_map]
  congr 1
  refine sorted_ext _ _ (hk.1.filter _) (List.Pairwise.filter _ ?_) fun x => ?_
  · rw [List.pairwise_map]
    exact List.pairwise_lt_range.imp fun h => by omega
  · rw [List.mem_filter, List.mem_filter]
    refine and_congr_left fun hc => ?_
    have hc : Fr.cnt ns x ≠ 0 := of_decide_eq_true hc
    rw [hk.2 x, List.mem_map]
    constructor
    · rintro ⟨y, hy, rfl⟩
      obtain ⟨y1, y2⟩ := h y hy
      exact ⟨y.natAbs - 1, List.mem_range.mpr (by omega), by omega⟩
    · rintro ⟨i, hi, rfl⟩
      exact Decidable.byContradiction fun q => hc (cnt_zero q (by omega))
abbrev sBalOf : Stmt := top 30
theorem mt_lcountK {X : Cx} {K : PySem.W.Frag} (h : X.K = K) : MtR X "list.count" (rCntI K) := by
  subst h
  exact mt_lcount
/-- a tuple of two ints -/
def PrT (K : PySem.W.Frag) (H : Hp) (v : V) (p : Int × Int) : Prop := ∃ q : Addr, v = .ref q ∧ SqT K H q [.int p.1, .int p.2]
theorem PrT.same {K : PySem.W.Frag} {H H' : Hp} {v : V} {p : Int × Int} (h : PrT K H v p) (s : Same H H') : PrT K H' v p := by
  obtain ⟨q, e, h⟩ := h
  exact ⟨q, e, WR.Same.seqT s h⟩
theorem PrT.put {K : PySem.W.Frag} {D : Addr} {H : Hp} {ws : List V} {o : HO} {v : V} {p : Int × Int} (hD : H D = some (.lst ws)) (h : PrT K H v p) : PrT K (L2.upd H D o) v p := by
  obtain ⟨q, e, h⟩ := h
  exact ⟨q, e, SqT.keptL hD Kept.upd h⟩
def BalAt (K : PySem.W.Frag) (H : Hp) (a : Addr) (ps : List (Int × Int)) : Prop := ∃ vs, SqT K H a vs ∧ All2 (PrT K H) vs ps
theorem BalAt.same {K : PySem.W.Frag} {H H' : Hp} {a : Addr} {ps : List (Int × Int)} (h : BalAt K H a ps) (s : Same H H') : BalAt K H' a ps := by
  obtain ⟨vs, h1, h2⟩ := h
  exact ⟨vs, WR.Same.seqT s h1, h2.imp fun _ _ r => r.same s⟩
def spBalOf (K : PySem.W.Frag) : Sp := fun vs H Q _ => ∃ (a : Addr) (ns : List Int), vs = [.ref a] ∧ SqL K H a (iv ns) ∧ ns.length ≤ 1000 ∧ Lts ns ∧ ∀ p H', Same H H' → BalAt K H' p (Fr.bal ns) → Q (.ref p) H'
abbrev nBalOf : List Str := ["letters", "pairs", "kind", "more"]
theorem kinds_len {ns ks : List Int} (h : Lts ns) (hk : kindsOk ns ks) : ks.length ≤ 26 := by
  refine pigeon 26 ks ?_ fun k hk' => ?_
  · exact hk.1.imp fun h => by omega
  · obtain ⟨x, hx, rfl⟩ := (hk.2 k).mp hk'
    obtain ⟨y1, y2⟩ := h x hx
    omega
section
variable {P : Program} {w : World} {K : PySem.W.Frag} {mg : Str → Option Value} {base : Heap}
theorem scBalOf : FnScope nBalOf ["letters"] (defScope sBalOf) := ⟨rfl, rfl, rfl, by decide +kernel, rfl, by decide +kernel, by decide +kernel⟩
theorem ok_balOf {f : Addr} {fd : FuncData} (F : Fun K "balance_of" "balance_of" sBalOf f fd) (T : TxA mg) (GK : Cal P w K mg base "kinds_of" 1 ["letters"] (spKinds K)) : FnOk P w K mg base CX0 2 f fd ["letters"] (spBalOf K) := by
  refine F.ok scBalOf (fun vs H Q E h => ?_) (fun cdv A outer s H vs Q E hr h => ?_)
  · obtain ⟨a, ns, rfl, _⟩ := h
    rfl
  · obtain ⟨a, ns, rfl, hA, hlen, hl, k⟩ := h
    refine ⟨_, pss_cons (ps_setLc (i := 1) (own := [("kind", 2)]) (g := gName 2) (tt := tYes) rfl scBalOf.nd rfl rfl (sw_true rfl rfl rfl (by decide +kernel)) (pi_tup (pe_cal GK hr (by decide) (by rfl) (pa_cons (pv 0) pa_nil)))
        (blkOk_by (N := nBalOf) (sc := defScope sBalOf) (by decide +kernel)) (fun _ _ _ _ _ => pg_name (i := 2) scBalOf.nd rfl (Or.inl rfl)) (fun _ _ _ _ _ => pts_nil)
        (fun _ _ _ _ _ => pe_tup (pa_cons (pv 2) (pa_cons (pe_op op_sub (pe_bmK (K := K) rfl PySem.F.plainAttrs_list PySem.F.slot_list_count PySem.F.type_list_count (mt_lcountK (K := K) rfl) (pv 0) (pa_cons (pv 2) pa_nil)) (pe_bmK (K := K) rfl PySem.F.plainAttrs_list PySem.F.slot_list_count PySem.F.type_list_count (mt_lcountK (K := K) rfl) (pv 0) (pa_cons (pe_un un_neg (pv 2)) pa_nil))) pa_nil))))
      (pss_one (ps_ret (pe_callTy call_tuple_of (by rfl) T.tuple (by decide +kernel) (pa_cons (pe_lc (own := [("kind", 2), ("more", 3)]) (g := gTup K 2 (gCons (gName 2) (gCons (gName 3) gNil))) rfl scBalOf.nd (pi_list (pv 1))
        (blkOk_by (N := nBalOf) (sc := defScope sBalOf) (by decide +kernel)) (fun _ _ _ _ _ => pg_tup (n := 2) rfl (pgs_cons (pg_name (i := 2) scBalOf.nd rfl (Or.inl rfl)) (pgs_cons (pg_name (i := 3) scBalOf.nd rfl (Or.inl rfl)) pgs_nil)))
        (fun _ _ _ _ _ => pts_one (pt_cmpR op_ne (pv 3) pe_int (nomark _))) (fun _ _ _ _ _ => pe_tup (pa_cons (pv 2) (pa_cons (pv 3) pa_nil)))) pa_nil)))), ?_⟩
    refine as_lc ?_
    refine ⟨_, rfl, a, ns, rfl, .inl hA, hlen, hl, fun ks hk kp H1 s1 hkp => ?_⟩
    have hkl := kinds_len hl hk
    have hA1 := s1.seq hA
    refine ⟨kp, rfl, ⟨_, hkp⟩, ?_⟩
    refine lcM (walk_tup (K := K) (a := kp) (xs := iv ks)) (ks.map fun k => (k, Fr.cnt ns k)) (fun D H v p => PrT K H v p) (fun _ _ _ _ _ h s => h.same s) (fun _ _ _ _ _ _ hD h => h.put hD) (by rw [List.length_map]; omega) (by rw [List.length_map, List.length_map]) (fun H2 s2 => WR.Same.seqT s2 hkp) ?_ (fun x σ1 H A B k h => gName_mono k h) ?_
    · intro i x b hx hb D H2 hD ⟨us, hus⟩ s2 Qy ky
      obtain ⟨z, hz, rfl⟩ : ∃ z, ks[i]? = some z ∧ x = V.int z := by
        rw [List.getElem?_map] at hx
        cases e : ks[i]? with
        | none => rw [e] at hx; cases hx
        | some z => rw [e] at hx; exact ⟨z, rfl, (Option.some.inj hx).symm⟩
      rw [List.getElem?_map, hz] at hb
      obtain rfl := Option.some.inj hb
      have hA2 := s2.seq hA1
      have hne : iv ns ≠ [] := fun e => by
        obtain ⟨y, hy, _⟩ := (hk.2 z).mp (List.mem_of_getElem? hz)
        have : ns = [] := List.map_eq_nil_iff.mp e
        rw [this] at hy
        cases hy
      refine ⟨rfl, ?_⟩
      refine ⟨_, rfl, _, rfl, .inl ⟨rfl, _, hA2⟩, _, rfl, a, ns, z, rfl, rfl, hA2, _, rfl, .inl ⟨rfl, _, hA2⟩, _, rfl, _, rfl, a, ns, -z, rfl, rfl, hA2, ?_⟩
      refine ⟨_, _, rfl, rfl, by show 2 ≤ sizeLine; decide, fun q hq => ?_⟩
      exact ky (.ref q) _ (same_upd hq) ⟨q, rfl, SqT.of upd_same⟩
    intro D H2 ws hD s2 h2 r2
    have l2 := r2.length
    rw [List.length_map] at l2
    refine at_set ?_
    try dsimp only
    refine ⟨_, rfl, D, rfl, ⟨_, SqL.of h2⟩, fun D2 hD2 => ?_⟩
    refine lc_it (walk_list (K := K) (a := D) (xs := ws)) (fun j H' => Same H2 H' ∧ ∃ us, H' D2 = some (.lst us) ∧ us.length ≤ j ∧ All2 (PrT K H') us (((ks.map fun k => (k, Fr.cnt ns k)).take j).filter fun p => decide (p.2 ≠ 0)))
      ⟨same_upd hD2, [], upd_same, Nat.le_refl _, by rw [List.take_zero]; exact .nil⟩ (fun j H' _ q => SqL.of (q.1 _ _ h2)) ?_ ?_
    · rintro j x H3 _ hj ⟨sm, us, hus, lu, hu⟩ ⟨rfl, hx⟩
      obtain ⟨b, hb, q, rfl, hq⟩ := r2.at hx
      have hjk : j < (ks.map fun k => (k, Fr.cnt ns k)).length := (List.getElem?_eq_some_iff.mp hb).1
      have eb : (ks.map fun k => (k, Fr.cnt ns k))[j] = b := (List.getElem?_eq_some_iff.mp hb).2
      refine ⟨q, _, rfl, WR.Same.seqT sm hq, rfl, _, _, rfl, _, _, rfl, rfl, ?_⟩
      refine ⟨rfl, ?_⟩
      refine ⟨_, rfl, rfl, _, rfl, ?_⟩
      rw [List.take_succ_eq_append_getElem hjk, eb, List.filter_append]
      refine ite2 (fun hn => ?_) (fun hn => ?_)
      · refine ⟨_, rfl, _, rfl, by show 2 ≤ sizeLine; decide, fun t ht => ?_⟩
        have st := same_upd (o := .tup [.int b.1, .int b.2]) ht
        have hbn : b.2 ≠ 0 := fun z => by
          rw [z] at hn
          exact absurd hn (by decide)
        have hus2 := st _ _ hus
        refine ⟨us, hus2, Evl.sz_lt (by rw [List.length_map] at hjk; omega), fun b' o e => ?_, us ++ [.ref t], upd_same, by rw [List.length_append]; show _ + 1 ≤ _; omega, ?_⟩
        · rw [upd_ne (ne_of_none e hD2)]
          exact st _ _ (sm _ _ e)
        · refine All2.app (hu.imp fun _ _ r => (r.same st).put hus2) ?_
          have : ([b].filter fun p => decide (p.2 ≠ 0)) = [b] := by simp [hbn]
          rw [this]
          exact .cons (PrT.put hus2 ⟨t, rfl, SqT.of upd_same⟩) .nil
      · refine ⟨sm, us, hus, by omega, ?_⟩
        have hbz : b.2 = 0 := Decidable.byContradiction fun z => hn (by
          have : ¬ (V.int b.2 = V.int 0) := fun q => z (by injection q)
          simp [this])
        have : ([b].filter fun p => decide (p.2 ≠ 0)) = [] := by simp [hbz]
        rw [this, List.append_nil]
        exact hu
    · rintro H3 ⟨sm, us, hus, lu, hu⟩
      rw [l2] at hu
      rw [List.take_of_length_le (by rw [List.length_map]; exact Nat.le_refl _), bal_kinds hl hk] at hu
      refine ⟨D2, _, rfl, .inl ⟨SqL.of hus, fun p hp => ?_⟩⟩
      have sp := same_upd (o := .tup us) hp
      exact k p _ (((s1.trans s2).trans sm).trans sp) ⟨us, SqT.of upd_same, hu.imp fun _ _ r => r.same sp⟩
end
end W14
set_option Elab.async false
set_option linter.all false
set_option maxRecDepth 100000
set_option maxHeartbeats 1000000
namespace W14
open PySem L2 PySem.Spec PyProof.Rows WR WB
/-! ### a comprehension of two walks in which nothing else changes -/
theorem lc2_in {J1 : It} {ys : List V} {G1 : Hp → Prop} (w1 : Walk J1 ys.length G1 (YAt ys)) {g1 : TG} {tt1 : TT} {te : TE} {vs1 : List Nat} {σ2 : L2.St} {H1 H4 : Hp} {D : Addr} {acc : List V} {Nx : Hp → Prop} (v : V → V) (hD : H1 D = none) (s4 : Same H1 H4) (a4 : H4 D = some (.lst acc)) (hz : acc.length + ys.length < 40000) (hG : ∀ H, Same H1 H → G1 H)
    (hs : ∀ y ∈ ys, ∀ H, Same H1 H → ∀ Qy : V → Hp → Prop, (∀ H', Same H H' → Qy (v y) H') → ∀ Qn : Hp → Prop, g1 y (wipe σ2 vs1) H fun σ3 H5 => wipe σ3 vs1 = wipe σ2 vs1 ∧ tt1 σ3 H5 fun b H6 => if b = true then te σ3 H6 Qy else Qn H6)
    (hd : ∀ H, Same H1 H → H D = some (.lst (acc ++ ys.map v)) → Nx H) :
    ∃ W1 : Nat → Nat → Hp → Prop, (∃ m, W1 0 m H4) ∧ ∀ j k H, W1 j k H →
      (J1.stop j H ∧ Nx H) ∨ (J1.go j H ∧ ∃ Nx1 : Hp → Prop, (∀ H', Nx1 H' → ∃ k', k' < k ∧ W1 (j + 1) k' H') ∧ ∀ x H', J1.yld j H x H' → g1 x (wipe σ2 vs1) H' fun σ3 H5 => wipe σ3 vs1 = wipe σ2 vs1 ∧ tt1 σ3 H5 fun b H6 =>
        if b = true then te σ3 H6 fun y H7 => ∃ acc, H7 D = some (.lst acc) ∧ acc.length < sizeLine ∧ Nx1 (L2.upd H7 D (.lst (acc ++ [y]))) else Nx1 H6) := by
  refine ⟨fun j k H => k = ys.length - j ∧ j ≤ ys.length ∧ Same H1 H ∧ H D = some (.lst (acc ++ (ys.take j).map v)), ⟨_, rfl, Nat.zero_le _, s4, by rw [List.take_zero]; simpa using a4⟩, ?_⟩
  rintro j k H ⟨rfl, hj, sm, hDD⟩
  by_cases hlt : j < ys.length
  · right
    refine ⟨w1.goes j H hlt (hG H sm), fun H' => Same H1 H' ∧ H' D = some (.lst (acc ++ (ys.take (j + 1)).map v)), fun H' q => ⟨ys.length - (j + 1), by omega, rfl, hlt, q.1, q.2⟩, fun x H' hy => ?_⟩
    obtain ⟨rfl, hx⟩ := w1.yields j H x H' hlt (hG H sm) hy
    have ex : ys[j] = x := (List.getElem?_eq_some_iff.mp hx).2
    refine hs x (List.mem_of_getElem? hx) H' sm _ (fun H2 s2 => ⟨_, s2 _ _ hDD, ?_, ?_, ?_⟩) _
    · refine Evl.sz_lt ?_
      rw [List.length_append, List.length_map, List.length_take]
      omega
    · intro b o e
      rw [upd_ne (ne_of_none e hD)]
      exact s2 _ _ (sm _ _ e)
    · rw [upd_same, List.take_succ_eq_append_getElem hlt, ex, List.map_append, ← List.append_assoc]
      rfl
  · left
    have e : j = ys.length := by omega
    subst e
    rw [List.take_length] at hDD
    exact ⟨w1.stops H (hG H sm), hd H sm hDD⟩
theorem lc2_out {J : It} {n : Nat} {G : Hp → Prop} {Y : Nat → Hp → V → Hp → Prop} (w : Walk J n G Y) {g : TG} {tt : TT} {wi1 : TI} {g1 : TG} {tt1 : TT} {te : TE} {vs vs1 : List Nat} {σ : L2.St} {H1 : Hp} {Q : VK} (out : Nat → List V) (hG : ∀ H, Same H1 H → G H)
    (hs : ∀ i x D H H', i < n → Y i H x H' → H1 D = none → Same H1 H → H D = some (.lst (((List.range i).map out).flatten)) → ∀ Nx : Hp → Prop, (∀ H', Same H1 H' → H' D = some (.lst (((List.range i).map out).flatten ++ out i)) → Nx H') →
      g x (wipe σ vs) H' fun σ2 H2 => wipe σ2 vs = wipe σ vs ∧ tt σ2 H2 fun b H3 => if b = true then wi1 σ2 H3 fun J1 H4 => ∃ W1 : Nat → Nat → Hp → Prop, (∃ m, W1 0 m H4) ∧ ∀ j k H, W1 j k H →
      (J1.stop j H ∧ Nx H) ∨ (J1.go j H ∧ ∃ Nx1 : Hp → Prop, (∀ H', Nx1 H' → ∃ k', k' < k ∧ W1 (j + 1) k' H') ∧ ∀ x H', J1.yld j H x H' → g1 x (wipe σ2 vs1) H' fun σ3 H5 => wipe σ3 vs1 = wipe σ2 vs1 ∧ tt1 σ3 H5 fun b H6 =>
        if b = true then te σ3 H6 fun y H7 => ∃ acc, H7 D = some (.lst acc) ∧ acc.length < sizeLine ∧ Nx1 (L2.upd H7 D (.lst (acc ++ [y]))) else Nx1 H6) else Nx H3)
    (hd : ∀ D H, H1 D = none → Same H1 H → H D = some (.lst (((List.range n).map out).flatten)) → Q (.ref D) H) : tLc2 (fun _ H R => R J H) g tt wi1 g1 tt1 te vs vs1 σ H1 Q := by
  intro D hD
  refine ⟨fun i m H => m = n - i ∧ i ≤ n ∧ Same H1 H ∧ H D = some (.lst (((List.range i).map out).flatten)), ⟨_, rfl, Nat.zero_le _, fun b o e => by rw [upd_ne (ne_of_none e hD)]; exact e, by rw [upd_same]; rfl⟩, ?_⟩
  rintro i m H ⟨rfl, hi, sm, hDD⟩
  by_cases hlt : i < n
  · right
    refine ⟨w.goes i H hlt (hG H sm), fun H' => Same H1 H' ∧ H' D = some (.lst (((List.range (i + 1)).map out).flatten)), fun H' q => ⟨n - (i + 1), by omega, rfl, hlt, q.1, q.2⟩, fun x H' hy => ?_⟩
    refine hs i x D H H' hlt (w.yields i H x H' hlt (hG H sm) hy) hD sm hDD _ fun H2 s2 h2 => ⟨s2, ?_⟩
    rw [h2, List.range_succ, List.map_append, List.flatten_append]
    simp
  · left
    have e : i = n := by omega
    subst e
    exact ⟨w.stops H (hG H sm), hd D H hD sm hDD⟩
theorem pe_fldK {X : Cx} {K : PySem.W.Frag} {e : Expr} {f : Str} {pos : Pos} {ta : TE} (h : X.K = K) (he : PE X e ta) (hb : attributeBase e f X.env (eval e X.env) = eval e X.env) : PE X (.Attribute e f pos) (tFld K ta f) := by
  subst h
  exact pe_fld he hb
theorem ar_lc {wi : TI} {g : TG} {tt : TT} {te : TE} {vs : List Nat} {σ : L2.St} {H : Hp} {Q : List V → Hp → Prop}
    (h : wi σ H fun J H1 => tLc (fun _ H R => R J H) g tt te vs σ H1 fun y H2 => Q [y] H2) : tCons (tLc wi g tt te vs) tNil σ H Q := h
/-! ### the small defs that rims want -/
abbrev sFilled : Stmt := top 39
abbrev sNeedB : Stmt := top 43
abbrev sFewP : Stmt := top 49
abbrev sNexts : Stmt := top 51
structure TxR (mg : Str → Option Value) : Prop where
  words : ∃ t, mg "MOST_WORDS" = some (.int 4 t)
  places : ∃ t, mg "MOST_PLACES" = some (.int 24 t)
  range : mg "range" = none
  enum : mg "enumerate" = none
def spFilled (K : PySem.W.Frag) (C : Addr) : Sp := fun vs H Q _ => ∃ (p : Addr) (ns : List Int), vs = [.ref p] ∧ WordAt K C H p ns ∧ Q (.bl (decide (0 < (ns.length : Int)))) H
def spNeedB (K : PySem.W.Frag) : Sp := fun vs H Q _ => ∃ (a : Addr) (ns : List Int), vs = [.ref a] ∧ SqL K H a (iv ns) ∧ ns.length ≤ 1000 ∧ Lts ns ∧ Fr.bal ns = [] ∧ ∀ H', Same H H' → Q .non H'
def spFewP : Sp := fun vs H Q _ => ∃ n : Int, vs = [.int n] ∧ n ≤ 24 ∧ Q .non H
/-- the places that stand behind each one, from place f on -/
def nxF (f : Nat) : List (List Int) → List Int
  | [] => []
  | w :: r => ((List.range w.length).map fun (t : Nat) => (f : Int) + (((t + 1) % w.length : Nat) : Int)) ++ nxF (f + w.length) r
theorem nxF_len : ∀ (ws : List (List Int)) (f : Nat), (nxF f ws).length = ws.flatten.length
  | [], _ => rfl
  | w :: r, f => by
    unfold nxF
    rw [List.length_append, nxF_len r, List.flatten_cons, List.length_append, List.length_map, List.length_range]
theorem nxF_snoc : ∀ (ws : List (List Int)) (w : List Int) (f : Nat), nxF f (ws ++ [w]) = nxF f ws ++ ((List.range w.length).map fun (t : Nat) => ((f + ws.flatten.length : Nat) : Int) + (((t + 1) % w.length : Nat) : Int))
  | [], w, f => by simp [nxF]
  | a :: r, w, f => by
    rw [List.cons_append]
    unfold nxF
    rw [nxF_snoc r w, List.append_assoc, List.flatten_cons, List.length_append]
    congr 3
    funext t
    congr 2
    omega
theorem nxF_take {ws : List (List Int)} {i : Nat} {w : List Int} (h : ws[i]? = some w) : nxF 0 (ws.take (i + 1)) = nxF 0 (ws.take i) ++ ((List.range w.length).map fun (t : Nat) => (((ws.take i).flatten.length : Nat) : Int) + (((t + 1) % w.length : Nat) : Int)) := by
  have hi := (List.getElem?_eq_some_iff.mp h).1
  have e := (List.getElem?_eq_some_iff.mp h).2
  rw [List.take_succ_eq_append_getElem hi, e, nxF_snoc, Nat.zero_add]
theorem flat_take {ws : List (List Int)} {i : Nat} {w : List Int} (h : ws[i]? = some w) : (ws.take i).flatten.length + w.length ≤ ws.flatten.length := by
  have hi := (List.getElem?_eq_some_iff.mp h).1
  have e := (List.getElem?_eq_some_iff.mp h).2
  have s : ws = ws.take i ++ (w :: ws.drop (i + 1)) := by
    rw [← e, List.getElem_cons_drop, List.take_append_drop]
  have := congrArg (fun z => z.flatten.length) s
  simp only [List.flatten_append, List.flatten_cons, List.length_append] at this
  omega
/-- words that stand at these places -/
def Wds (K : PySem.W.Frag) (C : Addr) (H : Hp) (xs : List Addr) (ws : List (List Int)) : Prop := All2 (fun p ns => WordAt K C H p ns) xs ws
theorem Wds.same {K : PySem.W.Frag} {C : Addr} {H H' : Hp} {xs : List Addr} {ws : List (List Int)} (h : Wds K C H xs ws) (s : Same H H') : Wds K C H' xs ws := h.imp fun _ _ r => r.same s
def spNexts (K : PySem.W.Frag) (C : Addr) : Sp := fun vs H Q _ => ∃ (a : Addr) (xs : List Addr) (ws : List (List Int)), vs = [.ref a] ∧ SqL K H a (xs.map V.ref) ∧ Wds K C H xs ws ∧ ws.length ≤ 4 ∧ (∀ w ∈ ws, w ≠ []) ∧ ws.flatten.length ≤ 24 ∧ NewB K H Q (iv (nxF 0 ws))
section
variable {P : Program} {w : World} {K : PySem.W.Frag} {mg : Str → Option Value} {base : Heap} {C : Addr}
theorem scFilled : FnScope ["value"] ["value"] (defScope sFilled) := ⟨rfl, rfl, rfl, by decide +kernel, rfl, by decide +kernel, by decide +kernel⟩
theorem ok_filled {f : Addr} {fd : FuncData} (F : Fun K "is_filled" "is_filled" sFilled f fd) (T : TxW K mg C) : FnOk P w K mg base CX0 1 f fd ["value"] (spFilled K C) := by
  refine F.ok scFilled (fun vs H Q E h => ?_) (fun cdv A outer s H vs Q E hr h => ?_)
  · obtain ⟨p, ns, rfl, _⟩ := h
    rfl
  · obtain ⟨p, ns, rfl, W1, k⟩ := h
    refine ⟨_, pss_one (ps_ret (pe_and (pe_callB call_isi (by rfl) T.isin (by decide +kernel) (pa_cons (pv 0) (pa_cons (pe_glob (v := .ref C) (by rfl) T.mgW rfl) pa_nil)))
      (pe_one (pe_cmpR op_gt (pe_fld (pv 0) rfl) pe_int (nomark _))))), ?_⟩
    refine ⟨_, rfl, _, _, _, _, _, rfl, .own C, W1.tyx T, kit_self C, _, rfl, ?_⟩
    refine iteT ?_
    obtain ⟨dx, tl, tk, ks, h1, h2, h3, h4⟩ := W1
    exact ⟨_, rfl, p, C, dx, _, _, rfl, h1, T.cl, T.nN, wf_length, _, _, rfl, rfl, k⟩
theorem scFewP : FnScope ["many"] ["many"] (defScope sFewP) := ⟨rfl, rfl, rfl, by decide +kernel, rfl, by decide +kernel, by decide +kernel⟩
theorem ok_fewP {f : Addr} {fd : FuncData} (F : Fun K "need_few_places" "need_few_places" sFewP f fd) (T : TxR mg) : FnOk P w K mg base CX0 1 f fd ["many"] spFewP := by
  refine F.ok scFewP (fun vs H Q E h => ?_) (fun cdv A outer s H vs Q E hr h => ?_)
  · obtain ⟨n, rfl, _⟩ := h
    rfl
  · obtain ⟨n, rfl, hn, k⟩ := h
    obtain ⟨tk, mM⟩ := T.places
    refine ⟨_, pss_one (ps_if (pt_cmpR op_gt (pv 0) (pe_glob (v := .int 24) (by rfl) mM ⟨_, rfl⟩) (nomark _)) (pss_one ps_never) pss_nil), ?_⟩
    refine ⟨_, rfl, _, _, rfl, rfl, _, rfl, ?_⟩
    exact iteF' (decide_eq_false (by omega)) k
theorem scNeedB : FnScope ["letters", "pairs"] ["letters"] (defScope sNeedB) := ⟨rfl, rfl, rfl, by decide +kernel, rfl, by decide +kernel, by decide +kernel⟩
theorem ok_needB {f : Addr} {fd : FuncData} (F : Fun K "need_balanced" "need_balanced" sNeedB f fd) (GB : Cal P w K mg base "balance_of" 2 ["letters"] (spBalOf K)) : FnOk P w K mg base CX0 3 f fd ["letters"] (spNeedB K) := by
  refine F.ok scNeedB (fun vs H Q E h => ?_) (fun cdv A outer s H vs Q E hr h => ?_)
  · obtain ⟨a, ns, rfl, _⟩ := h
    rfl
  · obtain ⟨a, ns, rfl, hA, hlen, hl, hb, k⟩ := h
    refine ⟨_, pss_cons (ps_set (i := 1) scNeedB.nd rfl (Or.inl rfl) (pe_cal GB hr (by decide) (by rfl) (pa_cons (pv 0) pa_nil)))
      (pss_one (ps_if (pt_truth (pv 1) (by intro _; rfl)) (pss_one ps_never) pss_nil)), ?_⟩
    refine ⟨_, rfl, a, ns, rfl, hA, hlen, hl, fun p H1 s1 hB => ?_⟩
    rw [hb] at hB
    obtain ⟨vs, h1, h2⟩ := hB
    cases h2
    refine at_set ?_
    try dsimp only
    exact ⟨_, rfl, _, .inr (.inl ⟨_, h1, rfl⟩), iteF (k H1 s1)⟩
abbrev nNexts : List Str := ["words", "nexts", "word", "first", "at"]
theorem scNexts : FnScope nNexts ["words"] (defScope sNexts) := ⟨rfl, rfl, rfl, by decide +kernel, rfl, by decide +kernel, by decide +kernel⟩
theorem ok_nexts {f : Addr} {fd : FuncData} (F : Fun K "nexts_of" "nexts_of" sNexts f fd) (T : TxW K mg C) (TA : TxA mg) (R : TxR mg) : FnOk P w K mg base CX0 1 f fd ["words"] (spNexts K C) := by
  refine F.ok scNexts (fun vs H Q E h => ?_) (fun cdv A outer s H vs Q E hr h => ?_)
  · obtain ⟨a, xs, ws, rfl, _⟩ := h
    rfl
  · obtain ⟨a, xs, ws, rfl, hA, hW, l4, hne, l24, k⟩ := h
    refine ⟨_, pss_cons (ps_set (i := 1) scNexts.nd rfl (Or.inl rfl) (pe_lst pa_nil))
      (pss_cons (ps_for PassesOwn.never rfl (pi_list (pv 0)) (pg_name (i := 2) scNexts.nd rfl (Or.inr rfl))
        (pss_cons (ps_set (i := 3) scNexts.nd rfl (Or.inr rfl) (pe_callB call_len_seq (by rfl) TA.len PySem.boot_len (pa_cons (pv 1) pa_nil)))
        (pss_one (ps_expr (pe_bm PySem.F.plainAttrs_list PySem.F.slot_list_extend PySem.F.type_list_extend mt_extend (pv 1) (pa_cons (pe_lc (own := [("at", 4)]) (g := gName 4) (tt := tYes) rfl scNexts.nd (pi_range1 (by rfl) R.range (pa_cons (pe_fld (pv 2) rfl) pa_nil))
          (blkOk_by (N := nNexts) (sc := defScope sNexts) (by decide +kernel)) (fun _ _ _ _ _ => pg_name (i := 4) scNexts.nd rfl (Or.inl rfl)) (fun _ _ _ _ _ => pts_nil)
          (fun _ _ _ _ _ => pe_op op_add (pv 3) (pe_op op_mod (pe_op op_add (pv 4) pe_int) (pe_fldK (K := K) rfl (pv 2) rfl)))) pa_nil))))))
      (pss_one (ps_ret (pe_callTy call_tupB (by rfl) TA.tuple (by decide +kernel) (pa_cons (pv 1) pa_nil))))), ?_⟩
    refine ⟨Nat.zero_le _, fun l hl0 => ?_⟩
    have s0 := same_upd (o := .lst []) hl0
    refine ⟨_, rfl, a, rfl, ⟨_, s0.seq hA⟩, for_list (K := K) (a := a) (xs := xs.map V.ref) (fun i σ H' => ∃ v2 v3 : Option V, σ = [some (.ref a), some (.ref l), v2, v3, none] ∧ Same H H' ∧ H' l = some (.lst (iv (nxF 0 (ws.take i)))))
      ⟨none, none, rfl, s0, upd_same⟩ (fun i σ H1 _ ⟨_, _, _, s, _⟩ => s.seq hA) ?_ ?_⟩
    · rintro i y σ H1 hi ⟨v2, v3, rfl, sm, hL⟩
      obtain ⟨q, hq, rfl⟩ : ∃ q, xs[i]? = some q ∧ y = V.ref q := by
        rw [List.getElem?_map] at hi
        cases e : xs[i]? with
        | none => rw [e] at hi; cases hi
        | some q => rw [e] at hi; exact ⟨q, rfl, (Option.some.inj hi).symm⟩
      obtain ⟨u, hu, Wq⟩ := hW.at hq
      have Wq := Wq.same sm
      have hft := flat_take hu
      have hup : 0 < u.length := List.length_pos_iff.mpr (hne u (List.mem_of_getElem? hu))
      refine ⟨_, rfl, l, _, rfl, .inl (SqL.of hL), ?_⟩
      refine at_set ?_
      try dsimp only
      have el : ((iv (nxF 0 (ws.take i))).length : Int) = (((ws.take i).flatten.length : Nat) : Int) := by rw [List.length_map, nxF_len]
      rw [el]
      refine ⟨_, rfl, .inl ⟨rfl, _, SqL.of hL⟩, ?_⟩
      refine ar_lc ?_
      obtain ⟨dx, tl, tk, ks, w1, _⟩ := id Wq
      refine ⟨_, rfl, q, C, dx, _, _, rfl, w1, T.cl, T.nN, wf_length, _, rfl, by omega, by omega, fun D hD => ?_⟩
      have sD := same_upd (o := .lst []) hD
      refine lc_range (lo := 0) (n := ((u.length : Nat) : Int).toNat) (fun j H' => Same H1 H' ∧ H' D = some (.lst (iv ((List.range j).map fun (t : Nat) => (((ws.take i).flatten.length : Nat) : Int) + (((t + 1) % u.length : Nat) : Int))))) ⟨sD, upd_same⟩ ?_ ?_
      · rintro j H2 hj ⟨s2, hDD⟩
        rw [Int.toNat_natCast] at hj
        have w2 := s2 _ _ w1
        refine ⟨rfl, yes_te ?_⟩
        refine ⟨_, rfl, _, rfl, _, _, rfl, rfl, _, rfl, q, C, dx, _, _, rfl, w2, T.cl, T.nN, wf_length, _, _, rfl, rfl, by omega, _, _, rfl, rfl, ?_⟩
        refine ⟨_, hDD, Evl.sz_lt (by rw [List.length_map, List.length_map, List.length_range]; omega), fun b o e => ?_, ?_⟩
        · rw [upd_ne (ne_of_none e hD)]
          exact s2 _ _ e
        · rw [upd_same, List.range_succ, List.map_append]
          unfold iv
          rw [List.map_append]
          have ev : ((0 : Int) + (j : Nat) + 1) % ((u.length : Nat) : Int) = (((j + 1) % u.length : Nat) : Int) := by
            rw [Int.natCast_emod]
            congr 1
            omega
          exact congrArg (fun z => some (HO.lst (_ ++ [V.int ((((ws.take i).flatten.length : Nat) : Int) + z)]))) ev
      · rintro H2 ⟨s2, hDD⟩
        rw [Int.toNat_natCast] at hDD
        have hL2 := s2 _ _ hL
        refine ⟨l, D, _, _, rfl, rfl, hL2, hDD, Evl.sz_of (by rw [List.length_map, List.length_map, List.length_map, List.length_range, nxF_len]; omega), ?_⟩
        refine ⟨_, _, rfl, same_put (sm.trans s2) hl0, ?_⟩
        rw [upd_same, nxF_take hu]
        unfold iv
        rw [List.map_append]
    · rintro σ H1 ⟨v2, v3, rfl, sm, hL⟩
      have e : ws.take (xs.map V.ref).length = ws := List.take_of_length_le (by rw [List.length_map, hW.length]; exact Nat.le_refl _)
      rw [e] at hL
      refine ⟨_, rfl, l, _, rfl, .inl ⟨SqL.of hL, fun t H2 s2 B2 => k t H2 (sm.trans s2) B2⟩⟩
end
end W14
set_option Elab.async false
set_option linter.all false
set_option maxRecDepth 100000
set_option maxHeartbeats 1000000
namespace W14
open PySem L2 PySem.Spec PyProof.Rows WR WB
abbrev sInitR : Stmt := inClass (top 50) 0
theorem pi_tupK {X : Cx} {K : PySem.W.Frag} {tg l : Expr} {tl : TE} (h : X.K = K) (hl : PE X l tl) : PI X tg l (iTup K tl) := by
  subst h
  exact pi_tup hl
theorem nx_lc2 {wi wi1 : TI} {g g1 gg : TG} {tt tt1 : TT} {te : TE} {vs vs1 : List Nat} {D : Ends} {σ : L2.St} {H : Hp} {Cc : TS} {b1 b2 : L2.St → Hp → Prop} {rt : VK}
    (h : wi σ H fun J H1 => tLc2 (fun _ H R => R J H) g tt wi1 g1 tt1 te vs vs1 σ H1 fun z H4 => gg z σ H4 (Cc D)) : tNext { nx := tSeq (tAsg (tLc2 wi g tt wi1 g1 tt1 te vs vs1) gg) Cc D, rt := rt, bk := b1, ct := b2 } σ H := h
theorem nx_not_lc {r : List V → Hp → VK → Prop} {wi : TI} {g : TG} {tt : TT} {te : TE} {vs : List Nat} {D : Ends} {σ : L2.St} {H : Hp} {A B Cc : TS} {b1 b2 : L2.St → Hp → Prop} {rt : VK}
    (h : wi σ H fun J H1 => tLc (fun _ H R => R J H) g tt te vs σ H1 fun x H2 => r [x] H2 fun v H3 => ∃ c, v = .bl c ∧ if (!c) = true then A { D with nx := Cc D } σ H3 else B { D with nx := Cc D } σ H3) :
    tNext { nx := tSeq (tIfS (tNot (fun σ H Q => tCB r (tCons (tLc wi g tt te vs) tNil) σ H fun x H1 => ∃ c, x = .bl c ∧ Q c H1)) A B) Cc D, rt := rt, bk := b1, ct := b2 } σ H := h
theorem sq_fld {K : PySem.W.Frag} {ta tv : TE} {f : Str} {Cc : TS} {D : Ends} {σ : L2.St} {H : Hp} (h : tv σ H fun y H1 => sFld K ta (fun _ H Q => Q y H) f { D with nx := Cc D } σ H1) : tSeq (sFld K ta tv f) Cc D σ H := h
theorem cb_lc2 {r : List V → Hp → VK → Prop} {wi wi1 : TI} {g g1 : TG} {tt tt1 : TT} {te : TE} {vs vs1 : List Nat} {σ : L2.St} {H : Hp} {Q : VK}
    (h : wi σ H fun J H1 => tLc2 (fun _ H R => R J H) g tt wi1 g1 tt1 te vs vs1 σ H1 fun y H2 => r [y] H2 Q) : tCB r (tCons (tLc2 wi g tt wi1 g1 tt1 te vs vs1) tNil) σ H Q := h
theorem flat_to {ws : List (List Int)} {i : Nat} (h : i ≤ ws.length) : ((List.range i).map fun i => iv (ws.getD i [])).flatten = iv (ws.take i).flatten := by
  have e : (List.range i).map (fun i => ws.getD i []) = ws.take i := by
    refine List.ext_getElem (by rw [List.length_map, List.length_range, List.length_take]; omega) fun j h1 h2 => ?_
    rw [List.length_take] at h2
    rw [List.getElem_map, List.getElem_range, List.getElem_take, List.getD_eq_getElem?_getD, List.getElem?_eq_getElem (by omega)]
    rfl
  rw [← e]
  unfold iv
  rw [List.map_flatten, List.map_map]
  rfl
def rf (tw tl : Addr) (n b : Nat) (sh : Bool) (th tn : Addr) : List (Str × V) := [("words", .ref tw), ("letters", .ref tl), ("many", .int (n : Int)), ("bands", .int (b : Int)), ("is_short", .bl sh), ("homes", .ref th), ("nexts", .ref tn)]
theorem pr1 {tw : Addr} : putF "words" (.ref tw) ([] : List (Str × V)) = ([("words", .ref tw)] : List (Str × V)) := by
  rfl
theorem pr2 {tw : Addr} {tl : Addr} : putF "letters" (.ref tl) ([("words", .ref tw)] : List (Str × V)) = ([("words", .ref tw), ("letters", .ref tl)] : List (Str × V)) := by
  rw [pf_ne (show ¬ (("words" : Str) = "letters") by decide +kernel)]
  rfl
theorem pr3 {tw : Addr} {tl : Addr} {n : Nat} : putF "many" (.int (n : Int)) ([("words", .ref tw), ("letters", .ref tl)] : List (Str × V)) = ([("words", .ref tw), ("letters", .ref tl), ("many", .int (n : Int))] : List (Str × V)) := by
  rw [pf_ne (show ¬ (("words" : Str) = "many") by decide +kernel), pf_ne (show ¬ (("letters" : Str) = "many") by decide +kernel)]
  rfl
theorem pr4 {tw : Addr} {tl : Addr} {n : Nat} {b : Nat} : putF "bands" (.int (b : Int)) ([("words", .ref tw), ("letters", .ref tl), ("many", .int (n : Int))] : List (Str × V)) = ([("words", .ref tw), ("letters", .ref tl), ("many", .int (n : Int)), ("bands", .int (b : Int))] : List (Str × V)) := by
  rw [pf_ne (show ¬ (("words" : Str) = "bands") by decide +kernel), pf_ne (show ¬ (("letters" : Str) = "bands") by decide +kernel), pf_ne (show ¬ (("many" : Str) = "bands") by decide +kernel)]
  rfl
theorem pr5 {tw : Addr} {tl : Addr} {n : Nat} {b : Nat} {sh : Bool} : putF "is_short" (.bl sh) ([("words", .ref tw), ("letters", .ref tl), ("many", .int (n : Int)), ("bands", .int (b : Int))] : List (Str × V)) = ([("words", .ref tw), ("letters", .ref tl), ("many", .int (n : Int)), ("bands", .int (b : Int)), ("is_short", .bl sh)] : List (Str × V)) := by
  rw [pf_ne (show ¬ (("words" : Str) = "is_short") by decide +kernel), pf_ne (show ¬ (("letters" : Str) = "is_short") by decide +kernel), pf_ne (show ¬ (("many" : Str) = "is_short") by decide +kernel), pf_ne (show ¬ (("bands" : Str) = "is_short") by decide +kernel)]
  rfl
theorem pr6 {tw : Addr} {tl : Addr} {n : Nat} {b : Nat} {sh : Bool} {th : Addr} : putF "homes" (.ref th) ([("words", .ref tw), ("letters", .ref tl), ("many", .int (n : Int)), ("bands", .int (b : Int)), ("is_short", .bl sh)] : List (Str × V)) = ([("words", .ref tw), ("letters", .ref tl), ("many", .int (n : Int)), ("bands", .int (b : Int)), ("is_short", .bl sh), ("homes", .ref th)] : List (Str × V)) := by
  rw [pf_ne (show ¬ (("words" : Str) = "homes") by decide +kernel), pf_ne (show ¬ (("letters" : Str) = "homes") by decide +kernel), pf_ne (show ¬ (("many" : Str) = "homes") by decide +kernel), pf_ne (show ¬ (("bands" : Str) = "homes") by decide +kernel), pf_ne (show ¬ (("is_short" : Str) = "homes") by decide +kernel)]
  rfl
theorem pr7 {tw : Addr} {tl : Addr} {n : Nat} {b : Nat} {sh : Bool} {th : Addr} {tn : Addr} : putF "nexts" (.ref tn) ([("words", .ref tw), ("letters", .ref tl), ("many", .int (n : Int)), ("bands", .int (b : Int)), ("is_short", .bl sh), ("homes", .ref th)] : List (Str × V)) = rf tw tl n b sh th tn := by
  rw [pf_ne (show ¬ (("words" : Str) = "nexts") by decide +kernel), pf_ne (show ¬ (("letters" : Str) = "nexts") by decide +kernel), pf_ne (show ¬ (("many" : Str) = "nexts") by decide +kernel), pf_ne (show ¬ (("bands" : Str) = "nexts") by decide +kernel), pf_ne (show ¬ (("is_short" : Str) = "nexts") by decide +kernel), pf_ne (show ¬ (("homes" : Str) = "nexts") by decide +kernel)]
  rfl
/-- the number of each letter's word, from f on -/
def hmF (f : Nat) : List (List Int) → List Int
  | [] => []
  | w :: r => List.replicate w.length (f : Int) ++ hmF (f + 1) r
theorem hm_to : ∀ (ws : List (List Int)) (f : Nat), ((List.range ws.length).map fun i => iv (List.replicate (ws.getD i []).length ((f + i : Nat) : Int))).flatten = iv (hmF f ws)
  | [], f => rfl
  | w :: r, f => by
    have ih := hm_to r (f + 1)
    rw [List.length_cons, List.range_succ_eq_map, List.map_cons, List.flatten_cons, List.map_map]
    unfold hmF
    have e : (List.range r.length).map ((fun i => iv (List.replicate ((w :: r).getD i []).length ((f + i : Nat) : Int))) ∘ Nat.succ) = (List.range r.length).map fun i => iv (List.replicate (r.getD i []).length ((f + 1 + i : Nat) : Int)) := by
      refine List.map_congr_left fun i _ => ?_
      show iv (List.replicate ((w :: r).getD (i + 1) []).length ((f + (i + 1) : Nat) : Int)) = _
      rw [List.getD_cons_succ, show f + (i + 1) = f + 1 + i by omega]
    rw [e, ih]
    unfold iv
    rw [List.map_append]
    rfl
theorem all_bl {vs : List V} {ws : List (List Int)} {f : List Int → Bool} (h : All2 (fun v u => v = V.bl (f u)) vs ws) : vs = (ws.map f).map V.bl := by
  induction h with
  | nil => rfl
  | cons e _ ih => rw [e, ih]; rfl
theorem all_map (ws : List (List Int)) (f : List Int → Bool) : (ws.map f).all id = ws.all f := by
  rw [List.all_map]
  rfl
def RimsAt (K : PySem.W.Frag) (C CR : Addr) (H : Hp) (p : Addr) (xs : List Addr) (ws : List (List Int)) : Prop :=
  ∃ (dx tw tl th tn : Addr), H p = some (.ins CR dx (rf tw tl ws.flatten.length (ws.flatten.length / 2) (ws.all fun w => decide (Fr.rnd w = w)) th tn)) ∧ SqB K H tw (xs.map V.ref) ∧ Wds K C H xs ws ∧ SqB K H tl (iv ws.flatten) ∧ SqB K H th (iv (hmF 0 ws)) ∧ SqB K H tn (iv (nxF 0 ws))
/-- what may be made to rims -/
def RimOk (ws : List (List Int)) : Prop := 1 ≤ ws.length ∧ ws.length ≤ 4 ∧ (∀ w ∈ ws, w ≠ []) ∧ ws.flatten.length ≤ 24 ∧ Lts ws.flatten ∧ Fr.bal ws.flatten = []
structure TxRC (K : PySem.W.Frag) (mg : Str → Option Value) (CR : Addr) : Prop where
  cl : Cls K CR
  n1 : NoAttr K CR "words"
  n2 : NoAttr K CR "letters"
  n3 : NoAttr K CR "many"
  n4 : NoAttr K CR "bands"
  n5 : NoAttr K CR "is_short"
  n6 : NoAttr K CR "homes"
  n7 : NoAttr K CR "nexts"
  mgR : mg "Rims" = some (.ref CR)
  ca : PySem.W.findIn K (.ref CR) "__class__" = some (some (.builtin "object.__class__"))
  cm : PySem.W.mroIn K CR (.type "object") = some true
def spInitR (K : PySem.W.Frag) (C CR : Addr) : Sp := fun vs H Q _ => ∃ (H0 : Hp) (p dx a : Addr) (xs : List Addr) (ws : List (List Int)), vs = [.ref p, .ref a] ∧ Same H0 H ∧ H0 p = none ∧ H p = some (.ins CR dx []) ∧ SqL K H0 a (xs.map V.ref) ∧ Wds K C H0 xs ws ∧ RimOk ws ∧
  ∀ H', Same H0 H' → RimsAt K C CR H' p xs ws → Q .non H'
abbrev nInitR : List Str := ["self", "words", "letters", "word", "letter", "home", "_"]
section
variable {P : Program} {w : World} {K : PySem.W.Frag} {mg : Str → Option Value} {base : Heap} {C CR : Addr}
theorem scInitR : FnScope nInitR ["self", "words"] (defScope sInitR) := ⟨rfl, rfl, rfl, by decide +kernel, rfl, by decide +kernel, by decide +kernel⟩
theorem ok_initR {f : Addr} {fd : FuncData} (F : Fun K "__init__" "Rims.__init__" sInitR f fd) (T : TxW K mg C) (TC : TxRC K mg CR) (TA : TxA mg) (R : TxR mg) (GL : Cal P w K mg base "is_listed" 1 ["value"] (spListE K)) (GF : Cal P w K mg base "is_filled" 1 ["value"] (spFilled K C))
    (GP : Cal P w K mg base "need_few_places" 1 ["many"] spFewP) (GB : Cal P w K mg base "need_balanced" 3 ["letters"] (spNeedB K)) (GN : Cal P w K mg base "nexts_of" 1 ["words"] (spNexts K C)) :
    FnOk P w K mg base CX0 4 f fd ["self", "words"] (spInitR K C CR) := by
  refine F.ok scInitR (fun vs H Q E h => ?_) (fun cdv A outer s H vs Q E hr h => ?_)
  · obtain ⟨H0, p, dx, a, xs, ws, rfl, _⟩ := h
    rfl
  · obtain ⟨H0, p, dx, a, xs, ws, rfl, s0, p0, hp, hS, hW, ⟨l1, l4, hne, l24, hl, hb⟩, k⟩ := h
    obtain ⟨tW, mW⟩ := R.words
    refine ⟨_, pss_cons (ps_if (PW.pt (pw_or (pt_not (pt_val (pe_cal GL hr (by decide) (by rfl) (pa_cons (pv 1) pa_nil)))) (pw_or1 (pt_not (pt_chain op_le op_le pe_int (pe_callB call_len_seq (by rfl) TA.len PySem.boot_len (pa_cons (pv 1) pa_nil)) (pe_glob (v := .int 4) (by rfl) mW ⟨_, rfl⟩)))))) (pss_one ps_never) pss_nil)
      (pss_cons (ps_if (pt_not (pt_val (pe_callB (cr_all rfl) (by rfl) T.all (by decide +kernel) (pa_cons (pe_lc (own := [("word", 3)]) (g := gName 3) (tt := tYes) rfl scInitR.nd (pi_list (pv 1))
          (blkOk_by (N := nInitR) (sc := defScope sInitR) (by decide +kernel)) (fun _ _ _ _ _ => pg_name (i := 3) scInitR.nd rfl (Or.inl rfl)) (fun _ _ _ _ _ => pts_nil)
          (fun _ _ _ _ _ => pe_cal GF hr (by decide) (by rfl) (pa_cons (pv 3) pa_nil))) pa_nil)))) (pss_one ps_never) pss_nil)
      (pss_cons (ps_setLc2 (i := 2) (own := [("word", 3), ("letter", 4)]) (vs1 := [4]) (g := gName 3) (tt := tYes) (g1 := gName 4) (tt1 := tYes) rfl scInitR.nd rfl rfl (sw_true rfl rfl rfl (by decide +kernel)) (pi_list (pv 1))
          (blkOk_by (N := nInitR) (sc := defScope sInitR) (by decide +kernel)) (by decide) (fun _ _ _ _ _ => pg_name (i := 3) scInitR.nd rfl (Or.inl rfl)) (fun _ _ _ _ _ => pts_nil)
          (fun _ _ _ _ _ => pi_tupK (K := K) rfl (pe_fldK (K := K) rfl (pv 3) rfl)) (fun _ _ _ _ _ => pg_name (i := 4) scInitR.nd rfl (Or.inl rfl)) (fun _ _ _ _ _ => pts_nil) (fun _ _ _ _ _ => pv 4))
      (pss_cons (ps_expr (pe_cal GP hr (by decide) (by rfl) (pa_cons (pe_callB call_len_seq (by rfl) TA.len PySem.boot_len (pa_cons (pv 2) pa_nil)) pa_nil)))
      (pss_cons (ps_expr (pe_cal GB hr (by decide) (by rfl) (pa_cons (pv 2) pa_nil)))
      (pss_cons (ps_fld (pv 0) (pe_callTy call_tupB (by rfl) TA.tuple (by decide +kernel) (pa_cons (pv 1) pa_nil)) rfl)
      (pss_cons (ps_fld (pv 0) (pe_callTy call_tupB (by rfl) TA.tuple (by decide +kernel) (pa_cons (pv 2) pa_nil)) rfl)
      (pss_cons (ps_fld (pv 0) (pe_callB call_len_seq (by rfl) TA.len PySem.boot_len (pa_cons (pv 2) pa_nil)) rfl)
      (pss_cons (ps_fld (pv 0) (pe_op op_fdiv (pe_callB call_len_seq (by rfl) TA.len PySem.boot_len (pa_cons (pv 2) pa_nil)) pe_int) rfl)
      (pss_cons (ps_fld (pv 0) (pe_callB (cr_all rfl) (by rfl) T.all (by decide +kernel) (pa_cons (pe_lc (own := [("word", 3)]) (g := gName 3) (tt := tYes) rfl scInitR.nd (pi_list (pv 1))
          (blkOk_by (N := nInitR) (sc := defScope sInitR) (by decide +kernel)) (fun _ _ _ _ _ => pg_name (i := 3) scInitR.nd rfl (Or.inl rfl)) (fun _ _ _ _ _ => pts_nil)
          (fun _ _ _ _ _ => pe_fldK (K := K) rfl (pv 3) rfl)) pa_nil)) rfl)
      (pss_cons (ps_fld (pv 0) (pe_callTy call_tupB (by rfl) TA.tuple (by decide +kernel) (pa_cons (pe_lc2 (own := [("home", 5), ("word", 3), ("_", 6)]) (vs1 := [6]) (g := gTup K 2 (gCons (gName 5) (gCons (gName 3) gNil))) (tt := tYes) (g1 := gName 6) (tt1 := tYes) rfl scInitR.nd (pi_enum (by rfl) R.enum (pa_cons (pv 1) pa_nil))
          (blkOk_by (N := nInitR) (sc := defScope sInitR) (by decide +kernel)) (by decide) (fun _ _ _ _ _ => pg_tup (n := 2) rfl (pgs_cons (pg_name (i := 5) scInitR.nd rfl (Or.inl rfl)) (pgs_cons (pg_name (i := 3) scInitR.nd rfl (Or.inl rfl)) pgs_nil))) (fun _ _ _ _ _ => pts_nil)
          (fun _ _ _ _ _ => pi_tupK (K := K) rfl (pe_fldK (K := K) rfl (pv 3) rfl)) (fun _ _ _ _ _ => pg_name (i := 6) scInitR.nd rfl (Or.inl rfl)) (fun _ _ _ _ _ => pts_nil) (fun _ _ _ _ _ => pv 5)) pa_nil)) rfl)
      (pss_one (ps_fld (pv 0) (pe_cal GN hr (by decide) (by rfl) (pa_cons (pv 1) pa_nil)) rfl)))))))))))), ?_⟩
    have lxw : xs.length = ws.length := hW.length
    have E0 : SqE K H0 a (xs.map V.ref) := .inl hS
    refine ⟨_, rfl, a, _, rfl, E0.same s0, fun H1 s1 => ⟨_, rfl, ?_⟩⟩
    have s01 := s0.trans s1
    refine iteF ?_
    have hp1 := s1 _ _ hp
    refine ⟨_, rfl, a, _, rfl, .inl (s01.seq hS), _, _, rfl, rfl, _, rfl, iteT' (decide_eq_true (by rw [List.length_map, lxw]; omega)) ⟨_, _, rfl, rfl, _, rfl, no_ne (decide_eq_true (by rw [List.length_map, lxw]; omega)) ?_⟩⟩
    refine nx_not_lc ?_
    refine ⟨_, rfl, a, rfl, ⟨_, s01.seq hS⟩, ?_⟩
    refine lcp (walk_list (xs := xs.map V.ref)) (fun _ => true) (fun _ => V.bl true) (by rw [List.length_map]; omega) (fun H2 s => (s01.trans s).seq hS) ?_ ?_
    · intro x hx H2 s2 Qy Qn ky kn
      obtain ⟨q, hq, rfl⟩ := List.mem_map.mp hx
      obtain ⟨u, hu, Wq⟩ := All2.mem hW hq
      have up : 0 < u.length := List.length_pos_iff.mpr (hne u hu)
      refine ⟨rfl, yes_te ⟨_, rfl, q, u, rfl, Wq.same (s01.trans s2), ?_⟩⟩
      rw [decide_eq_true (show (0 : Int) < (u.length : Int) by omega)]
      exact ky rfl H2 (fun _ _ e => e)
    intro D1 H2 hD1 s2 h2
    have s02 := s01.trans s2
    have hp2 := s2 _ _ hp1
    refine ⟨D1, xs.map fun _ => true, rfl, SqL.of (by
      rw [h2, List.filter_eq_self.mpr (fun _ _ => rfl), List.map_map, List.map_map]
      rfl), ?_⟩
    have eall : (xs.map fun _ => true).all id = true := by
      rw [List.all_eq_true]
      intro b hb
      obtain ⟨_, _, rfl⟩ := List.mem_map.mp hb
      rfl
    rw [eall]
    refine ⟨_, rfl, iteF ?_⟩
    refine nx_lc2 ?_
    refine ⟨_, rfl, a, rfl, ⟨_, s02.seq hS⟩, ?_⟩
    refine lc2_out (walk_list (xs := xs.map V.ref)) (fun i => iv (ws.getD i [])) (fun H s => (s02.trans s).seq hS) ?_ ?_
    · rintro i x D H H' hi ⟨rfl, hx⟩ hD sm hDD Nx kN
      obtain ⟨q, hq, rfl⟩ : ∃ q, xs[i]? = some q ∧ x = V.ref q := by
        rw [List.getElem?_map] at hx
        cases e : xs[i]? with
        | none => rw [e] at hx; cases hx
        | some q => rw [e] at hx; exact ⟨q, rfl, (Option.some.inj hx).symm⟩
      obtain ⟨u, hu, Wq⟩ := hW.at hq
      have eu : ws.getD i [] = u := by rw [List.getD_eq_getElem?_getD, hu]; rfl
      obtain ⟨dx1, tl, tk, ks, w1, w2, _⟩ := Wq.same s02
      refine ⟨rfl, yes_te ?_⟩
      refine ⟨_, rfl, q, C, dx1, _, _, rfl, sm _ _ w1, T.cl, T.nL, wf_letters, tl, rfl, ⟨_, WR.Same.seqT sm w2.sq⟩, ?_⟩
      have hft := flat_take hu
      refine lc2_in (walk_tup (xs := iv u)) (fun y => y) hD sm hDD ?_ (fun H s => ?_) ?_ ?_
      · rw [flat_to (by have := (List.getElem?_eq_some_iff.mp hu).1; omega)]
        rw [List.length_map, List.length_map]
        omega
      · exact WR.Same.seqT s w2.sq
      · intro y hy H2 s2 Qy ky Qn
        exact ⟨rfl, yes_te ⟨_, rfl, ky H2 (fun _ _ e => e)⟩⟩
      · intro H2 s2 h2
        refine kN H2 s2 ?_
        rw [h2, List.map_id', eu]
    intro D H3 hD s3 h3
    have eD : ((List.range (xs.map V.ref).length).map fun i => iv (ws.getD i [])).flatten = iv ws.flatten := by
      rw [List.length_map, lxw, flat_to (Nat.le_refl _), List.take_length]
    rw [eD] at h3
    refine at_set ?_
    try dsimp only
    have s03 := s02.trans s3
    have hp3 := s3 _ _ hp2
    have elen : ((iv ws.flatten).length : Int) = (ws.flatten.length : Int) := by rw [List.length_map]
    refine ⟨_, rfl, D, _, rfl, .inl (SqL.of h3), _, rfl, by rw [elen]; omega, ?_⟩
    refine ⟨_, rfl, D, ws.flatten, rfl, SqL.of h3, by omega, hl, hb, fun H4 s4 => ?_⟩
    have s04 := s03.trans s4
    have hp4 := s4 _ _ hp3
    have h4 := s4 _ _ h3
    -- its words
    refine ⟨_, rfl, a, _, rfl, .inl ⟨s04.seq hS, fun tw H5 s5 B5 => ?_⟩⟩
    refine ⟨_, rfl, p, CR, dx, _, rfl, s5 _ _ hp4, TC.cl, TC.n1, (by show 0 < 1000; decide), ?_⟩
    have hDp : ¬ D = p := fun c => by
      rw [c, hp4] at h4
      cases h4
    have s05 := s04.trans s5
    have h5 := s5 _ _ h4
    have hpp1 : L2.upd H5 p (.ins CR dx (putF "words" (.ref tw) [])) p = some (.ins CR dx [("words", .ref tw)]) := by rw [upd_same, pr1]
    have s06 := same_put (o := (.ins CR dx (putF "words" (.ref tw) []))) s05 p0
    have w6 := SqB.put (o := (.ins CR dx (putF "words" (.ref tw) []))) B5 (s5 _ _ hp4)
    have h6 : L2.upd H5 p (.ins CR dx (putF "words" (.ref tw) [])) D = some (.lst (iv ws.flatten)) := by rw [upd_ne (fun c => hDp c)]; exact h5
    obtain ⟨H6, eH6⟩ : ∃ H', H' = L2.upd H5 p (.ins CR dx (putF "words" (.ref tw) [])) := ⟨_, rfl⟩
    rw [← eH6] at hpp1 s06 w6 h6 ⊢
    clear eH6
    refine ⟨_, rfl, D, _, rfl, .inl ⟨SqL.of h6, fun tl H7 s7 B7 => ?_⟩⟩
    refine ⟨_, rfl, p, CR, dx, _, rfl, s7 _ _ hpp1, TC.cl, TC.n2, (by show 1 < 1000; decide), ?_⟩
    have s07 := s06.trans s7
    have w7 := SqB.same s7 w6
    have h7 := s7 _ _ h6
    have hpp2 : L2.upd H7 p (.ins CR dx (putF "letters" (.ref tl) [("words", .ref tw)])) p = some (.ins CR dx [("words", .ref tw), ("letters", .ref tl)]) := by rw [upd_same, pr2]
    have s08 := same_put (o := (.ins CR dx (putF "letters" (.ref tl) [("words", .ref tw)]))) s07 p0
    have w8 := SqB.put (o := (.ins CR dx (putF "letters" (.ref tl) [("words", .ref tw)]))) w7 (s7 _ _ hpp1)
    have b8 := SqB.put (o := (.ins CR dx (putF "letters" (.ref tl) [("words", .ref tw)]))) B7 (s7 _ _ hpp1)
    have h8 : L2.upd H7 p (.ins CR dx (putF "letters" (.ref tl) [("words", .ref tw)])) D = some (.lst (iv ws.flatten)) := by rw [upd_ne (fun c => hDp c)]; exact h7
    obtain ⟨H8, eH8⟩ : ∃ H', H' = L2.upd H7 p (.ins CR dx (putF "letters" (.ref tl) [("words", .ref tw)])) := ⟨_, rfl⟩
    rw [← eH8] at hpp2 s08 w8 b8 h8 ⊢
    clear eH8
    refine ⟨_, rfl, D, _, rfl, .inl (SqL.of h8), ?_⟩
    rw [elen]
    refine ⟨_, rfl, p, CR, dx, _, rfl, hpp2, TC.cl, TC.n3, (by show 2 < 1000; decide), ?_⟩
    have hpp3 : L2.upd H8 p (.ins CR dx (putF "many" (.int (ws.flatten.length : Nat)) [("words", .ref tw), ("letters", .ref tl)])) p = some (.ins CR dx [("words", .ref tw), ("letters", .ref tl), ("many", .int (ws.flatten.length : Nat))]) := by rw [upd_same, pr3]
    have s09 := same_put (o := (.ins CR dx (putF "many" (.int (ws.flatten.length : Nat)) [("words", .ref tw), ("letters", .ref tl)]))) s08 p0
    have w9 := SqB.put (o := (.ins CR dx (putF "many" (.int (ws.flatten.length : Nat)) [("words", .ref tw), ("letters", .ref tl)]))) w8 hpp2
    have b9 := SqB.put (o := (.ins CR dx (putF "many" (.int (ws.flatten.length : Nat)) [("words", .ref tw), ("letters", .ref tl)]))) b8 hpp2
    have h9 : L2.upd H8 p (.ins CR dx (putF "many" (.int (ws.flatten.length : Nat)) [("words", .ref tw), ("letters", .ref tl)])) D = some (.lst (iv ws.flatten)) := by rw [upd_ne (fun c => hDp c)]; exact h8
    obtain ⟨H9, eH9⟩ : ∃ H', H' = L2.upd H8 p (.ins CR dx (putF "many" (.int (ws.flatten.length : Nat)) [("words", .ref tw), ("letters", .ref tl)])) := ⟨_, rfl⟩
    rw [← eH9] at hpp3 s09 w9 b9 h9 ⊢
    clear eH9
    refine ⟨_, rfl, D, _, rfl, .inl (SqL.of h9), _, _, rfl, rfl, ⟨by decide, by decide⟩, ?_⟩
    rw [elen]
    have e2 : ((ws.flatten.length : Nat) : Int) / 2 = ((ws.flatten.length / 2 : Nat) : Int) := by omega
    try dsimp only
    rw [e2]
    refine ⟨_, rfl, p, CR, dx, _, rfl, hpp3, TC.cl, TC.n4, (by show 3 < 1000; decide), ?_⟩
    have hpp4 : L2.upd H9 p (.ins CR dx (putF "bands" (.int ((ws.flatten.length / 2) : Nat)) [("words", .ref tw), ("letters", .ref tl), ("many", .int (ws.flatten.length : Nat))])) p = some (.ins CR dx [("words", .ref tw), ("letters", .ref tl), ("many", .int (ws.flatten.length : Nat)), ("bands", .int ((ws.flatten.length / 2) : Nat))]) := by rw [upd_same, pr4]
    have s0A := same_put (o := (.ins CR dx (putF "bands" (.int ((ws.flatten.length / 2) : Nat)) [("words", .ref tw), ("letters", .ref tl), ("many", .int (ws.flatten.length : Nat))]))) s09 p0
    have wA := SqB.put (o := (.ins CR dx (putF "bands" (.int ((ws.flatten.length / 2) : Nat)) [("words", .ref tw), ("letters", .ref tl), ("many", .int (ws.flatten.length : Nat))]))) w9 hpp3
    have bA := SqB.put (o := (.ins CR dx (putF "bands" (.int ((ws.flatten.length / 2) : Nat)) [("words", .ref tw), ("letters", .ref tl), ("many", .int (ws.flatten.length : Nat))]))) b9 hpp3
    obtain ⟨HA, eHA⟩ : ∃ H', H' = L2.upd H9 p (.ins CR dx (putF "bands" (.int ((ws.flatten.length / 2) : Nat)) [("words", .ref tw), ("letters", .ref tl), ("many", .int (ws.flatten.length : Nat))])) := ⟨_, rfl⟩
    rw [← eHA] at hpp4 s0A wA bA ⊢
    clear eHA
    have sqA := s0A.seq hS
    have WA : Wds K C HA xs ws := hW.same s0A
    refine sq_fld ?_
    refine cb_lc ?_
    refine ⟨_, rfl, a, rfl, ⟨_, sqA⟩, ?_⟩
    refine lcM (walk_list (K := K) (a := a) (xs := xs.map V.ref)) ws (fun _ _ v u => v = V.bl (decide (Fr.rnd u = u))) (fun _ _ _ _ _ h _ => h) (fun _ _ _ _ _ _ _ h => h) (by rw [List.length_map]; omega) (by rw [List.length_map]; exact lxw) (fun H s => s.seq sqA) ?_ (fun x σ1 H A B k h => gName_mono k h) ?_
    · intro i x u hx hu D2 H2 hD2 _ s2 Qy ky
      obtain ⟨q, hq, rfl⟩ : ∃ q, xs[i]? = some q ∧ x = V.ref q := by
        rw [List.getElem?_map] at hx
        cases e : xs[i]? with
        | none => rw [e] at hx; cases hx
        | some q => rw [e] at hx; exact ⟨q, rfl, (Option.some.inj hx).symm⟩
      obtain ⟨u', hu', Wq⟩ := WA.at hq
      obtain rfl : u' = u := Option.some.inj (hu'.symm.trans hu)
      obtain ⟨dx1, tl1, tk, ks, w1, _⟩ := Wq.same s2
      exact ⟨rfl, _, rfl, q, C, dx1, _, _, rfl, w1, T.cl, T.nR, wf_round, ky _ H2 (fun _ _ e => e) rfl⟩
    intro D2 HB bs hD2 sB hB2 hbs
    rw [all_bl hbs] at hB2
    refine ⟨D2, _, rfl, SqL.of hB2, ?_⟩
    rw [all_map]
    have s0B := s0A.trans sB
    have wB := SqB.same sB wA
    have bB := SqB.same sB bA
    refine ⟨_, rfl, p, CR, dx, _, rfl, sB _ _ hpp4, TC.cl, TC.n5, (by show 4 < 1000; decide), ?_⟩
    have hpp5 : L2.upd HB p (.ins CR dx (putF "is_short" (.bl (ws.all fun w => decide (Fr.rnd w = w))) [("words", .ref tw), ("letters", .ref tl), ("many", .int (ws.flatten.length : Nat)), ("bands", .int ((ws.flatten.length / 2) : Nat))])) p = some (.ins CR dx [("words", .ref tw), ("letters", .ref tl), ("many", .int (ws.flatten.length : Nat)), ("bands", .int ((ws.flatten.length / 2) : Nat)), ("is_short", .bl (ws.all fun w => decide (Fr.rnd w = w)))]) := by rw [upd_same, pr5]
    have s0C := same_put (o := (.ins CR dx (putF "is_short" (.bl (ws.all fun w => decide (Fr.rnd w = w))) [("words", .ref tw), ("letters", .ref tl), ("many", .int (ws.flatten.length : Nat)), ("bands", .int ((ws.flatten.length / 2) : Nat))]))) s0B p0
    have wC := SqB.put (o := (.ins CR dx (putF "is_short" (.bl (ws.all fun w => decide (Fr.rnd w = w))) [("words", .ref tw), ("letters", .ref tl), ("many", .int (ws.flatten.length : Nat)), ("bands", .int ((ws.flatten.length / 2) : Nat))]))) wB (sB _ _ hpp4)
    have bC := SqB.put (o := (.ins CR dx (putF "is_short" (.bl (ws.all fun w => decide (Fr.rnd w = w))) [("words", .ref tw), ("letters", .ref tl), ("many", .int (ws.flatten.length : Nat)), ("bands", .int ((ws.flatten.length / 2) : Nat))]))) bB (sB _ _ hpp4)
    obtain ⟨HC, eHC⟩ : ∃ H', H' = L2.upd HB p (.ins CR dx (putF "is_short" (.bl (ws.all fun w => decide (Fr.rnd w = w))) [("words", .ref tw), ("letters", .ref tl), ("many", .int (ws.flatten.length : Nat)), ("bands", .int ((ws.flatten.length / 2) : Nat))])) := ⟨_, rfl⟩
    rw [← eHC] at hpp5 s0C wC bC ⊢
    clear eHC
    have sqC := s0C.seq hS
    have WC : Wds K C HC xs ws := hW.same s0C
    try dsimp only
    refine sq_fld ?_
    refine cb_lc2 ?_
    refine ⟨_, rfl, a, _, rfl, sqC, ?_⟩
    refine lc2_out (walk_enum (xs := xs.map V.ref)) (fun i => iv (List.replicate (ws.getD i []).length ((0 + i : Nat) : Int))) (fun H s => s.seq sqC) ?_ ?_
    · rintro i x D3 H H' hi ⟨T3, y1, y2, rfl, hT, rfl, e1, hx⟩ hD sm hDD Nx kN
      cases e1
      have hx : (xs.map V.ref)[i]? = some y2 := hx
      obtain ⟨q, hq, rfl⟩ : ∃ q, xs[i]? = some q ∧ y2 = V.ref q := by
        rw [List.getElem?_map] at hx
        cases e : xs[i]? with
        | none => rw [e] at hx; cases hx
        | some q => rw [e] at hx; exact ⟨q, rfl, (Option.some.inj hx).symm⟩
      obtain ⟨u, hu, Wq⟩ := WC.at hq
      have eu : ws.getD i [] = u := by rw [List.getD_eq_getElem?_getD, hu]; rfl
      have sT := same_upd (o := .tup [.int (i : Nat), .ref q]) hT
      have smT := sm.trans sT
      obtain ⟨dx1, tl1, tk, ks, w1, w2, _⟩ := Wq
      have hft := flat_take hu
      refine ⟨T3, _, rfl, SqT.of upd_same, rfl, _, _, rfl, _, _, rfl, rfl, ?_⟩
      refine ⟨rfl, yes_te ?_⟩
      refine ⟨_, rfl, q, C, dx1, _, _, rfl, smT _ _ w1, T.cl, T.nL, wf_letters, tl1, rfl, ⟨_, WR.Same.seqT smT w2.sq⟩, ?_⟩
      refine lc2_in (walk_tup (xs := iv u)) (fun _ => .int ((0 + i : Nat) : Int)) hD smT (sT _ _ hDD) ?_ (fun H s => WR.Same.seqT s w2.sq) ?_ ?_
      · have el : ∀ j, j ≤ ws.length → (((List.range j).map fun i => iv (List.replicate (ws.getD i []).length ((0 + i : Nat) : Int))).flatten).length = (ws.take j).flatten.length := by
          intro j
          induction j with
          | zero => intro _; rfl
          | succ j ih =>
            intro hj
            have ej : ws[j]? = some (ws.getD j []) := by
              rw [List.getD_eq_getElem?_getD, List.getElem?_eq_getElem (show j < ws.length by omega)]
              rfl
            rw [List.range_succ, List.map_append, List.flatten_append, List.length_append, ih (by omega), List.take_succ_eq_append_getElem (show j < ws.length by omega), List.flatten_append, List.length_append]
            simp only [List.map_cons, List.map_nil, List.flatten_cons, List.flatten_nil, List.append_nil, List.length_map, List.length_replicate]
            rw [List.getD_eq_getElem?_getD, List.getElem?_eq_getElem (show j < ws.length by omega)]
            rfl
        rw [el i (by have := (List.getElem?_eq_some_iff.mp hu).1; omega), List.length_map]
        omega
      · intro y hy H2 s2 Qy ky Qn
        refine ⟨rfl, yes_te ⟨_, rfl, ?_⟩⟩
        have := ky H2 (fun _ _ e => e)
        rw [Nat.zero_add] at this
        exact this
      · intro H2 s2 h2
        refine kN H2 s2 ?_
        rw [h2, eu]
        congr 3
        unfold iv
        rw [List.map_map, List.map_replicate]
        exact List.map_const ..
    intro D3 HD hD3 sD hDD
    rw [List.length_map, lxw, hm_to ws 0] at hDD
    have s0D := s0C.trans sD
    refine ⟨D3, _, rfl, .inl ⟨SqL.of hDD, fun th HE sE BE => ?_⟩⟩
    have s0E := s0D.trans sE
    have sCE := sD.trans sE
    have wE := SqB.same sCE wC
    have bE := SqB.same sCE bC
    refine ⟨_, rfl, p, CR, dx, _, rfl, sCE _ _ hpp5, TC.cl, TC.n6, (by show 5 < 1000; decide), ?_⟩
    have hpp6 : L2.upd HE p (.ins CR dx (putF "homes" (.ref th) [("words", .ref tw), ("letters", .ref tl), ("many", .int (ws.flatten.length : Nat)), ("bands", .int ((ws.flatten.length / 2) : Nat)), ("is_short", .bl (ws.all fun w => decide (Fr.rnd w = w)))])) p = some (.ins CR dx [("words", .ref tw), ("letters", .ref tl), ("many", .int (ws.flatten.length : Nat)), ("bands", .int ((ws.flatten.length / 2) : Nat)), ("is_short", .bl (ws.all fun w => decide (Fr.rnd w = w))), ("homes", .ref th)]) := by rw [upd_same, pr6]
    have s0F := same_put (o := (.ins CR dx (putF "homes" (.ref th) [("words", .ref tw), ("letters", .ref tl), ("many", .int (ws.flatten.length : Nat)), ("bands", .int ((ws.flatten.length / 2) : Nat)), ("is_short", .bl (ws.all fun w => decide (Fr.rnd w = w)))]))) s0E p0
    have wF := SqB.put (o := (.ins CR dx (putF "homes" (.ref th) [("words", .ref tw), ("letters", .ref tl), ("many", .int (ws.flatten.length : Nat)), ("bands", .int ((ws.flatten.length / 2) : Nat)), ("is_short", .bl (ws.all fun w => decide (Fr.rnd w = w)))]))) wE (sCE _ _ hpp5)
    have bF := SqB.put (o := (.ins CR dx (putF "homes" (.ref th) [("words", .ref tw), ("letters", .ref tl), ("many", .int (ws.flatten.length : Nat)), ("bands", .int ((ws.flatten.length / 2) : Nat)), ("is_short", .bl (ws.all fun w => decide (Fr.rnd w = w)))]))) bE (sCE _ _ hpp5)
    have tF := SqB.put (o := (.ins CR dx (putF "homes" (.ref th) [("words", .ref tw), ("letters", .ref tl), ("many", .int (ws.flatten.length : Nat)), ("bands", .int ((ws.flatten.length / 2) : Nat)), ("is_short", .bl (ws.all fun w => decide (Fr.rnd w = w)))]))) BE (sCE _ _ hpp5)
    obtain ⟨HF, eHF⟩ : ∃ H', H' = L2.upd HE p (.ins CR dx (putF "homes" (.ref th) [("words", .ref tw), ("letters", .ref tl), ("many", .int (ws.flatten.length : Nat)), ("bands", .int ((ws.flatten.length / 2) : Nat)), ("is_short", .bl (ws.all fun w => decide (Fr.rnd w = w)))])) := ⟨_, rfl⟩
    rw [← eHF] at hpp6 s0F wF bF tF ⊢
    clear eHF
    refine ⟨_, rfl, a, xs, ws, rfl, s0F.seq hS, hW.same s0F, l4, hne, l24, fun tn HG sG BG => ?_⟩
    have s0G := s0F.trans sG
    have wG := SqB.same sG wF
    have bG := SqB.same sG bF
    have tG := SqB.same sG tF
    refine ⟨_, rfl, p, CR, dx, _, rfl, sG _ _ hpp6, TC.cl, TC.n7, (by show 6 < 1000; decide), ?_⟩
    have hpp7 : L2.upd HG p (.ins CR dx (putF "nexts" (.ref tn) [("words", .ref tw), ("letters", .ref tl), ("many", .int (ws.flatten.length : Nat)), ("bands", .int ((ws.flatten.length / 2) : Nat)), ("is_short", .bl (ws.all fun w => decide (Fr.rnd w = w))), ("homes", .ref th)])) p = some (.ins CR dx (rf tw tl ws.flatten.length (ws.flatten.length / 2) (ws.all fun w => decide (Fr.rnd w = w)) th tn)) := by rw [upd_same, pr7]
    have s0I := same_put (o := (.ins CR dx (putF "nexts" (.ref tn) [("words", .ref tw), ("letters", .ref tl), ("many", .int (ws.flatten.length : Nat)), ("bands", .int ((ws.flatten.length / 2) : Nat)), ("is_short", .bl (ws.all fun w => decide (Fr.rnd w = w))), ("homes", .ref th)]))) s0G p0
    have wI := SqB.put (o := (.ins CR dx (putF "nexts" (.ref tn) [("words", .ref tw), ("letters", .ref tl), ("many", .int (ws.flatten.length : Nat)), ("bands", .int ((ws.flatten.length / 2) : Nat)), ("is_short", .bl (ws.all fun w => decide (Fr.rnd w = w))), ("homes", .ref th)]))) wG (sG _ _ hpp6)
    have bI := SqB.put (o := (.ins CR dx (putF "nexts" (.ref tn) [("words", .ref tw), ("letters", .ref tl), ("many", .int (ws.flatten.length : Nat)), ("bands", .int ((ws.flatten.length / 2) : Nat)), ("is_short", .bl (ws.all fun w => decide (Fr.rnd w = w))), ("homes", .ref th)]))) bG (sG _ _ hpp6)
    have tI := SqB.put (o := (.ins CR dx (putF "nexts" (.ref tn) [("words", .ref tw), ("letters", .ref tl), ("many", .int (ws.flatten.length : Nat)), ("bands", .int ((ws.flatten.length / 2) : Nat)), ("is_short", .bl (ws.all fun w => decide (Fr.rnd w = w))), ("homes", .ref th)]))) tG (sG _ _ hpp6)
    have nI := SqB.put (o := (.ins CR dx (putF "nexts" (.ref tn) [("words", .ref tw), ("letters", .ref tl), ("many", .int (ws.flatten.length : Nat)), ("bands", .int ((ws.flatten.length / 2) : Nat)), ("is_short", .bl (ws.all fun w => decide (Fr.rnd w = w))), ("homes", .ref th)]))) BG (sG _ _ hpp6)
    obtain ⟨HI, eHI⟩ : ∃ H', H' = L2.upd HG p (.ins CR dx (putF "nexts" (.ref tn) [("words", .ref tw), ("letters", .ref tl), ("many", .int (ws.flatten.length : Nat)), ("bands", .int ((ws.flatten.length / 2) : Nat)), ("is_short", .bl (ws.all fun w => decide (Fr.rnd w = w))), ("homes", .ref th)])) := ⟨_, rfl⟩
    rw [← eHI] at hpp7 s0I wI bI tI nI ⊢
    clear eHI
    exact k HI s0I ⟨dx, tw, tl, th, tn, hpp7, wI, hW.same s0I, bI, tI, nI⟩
end
end W14
set_option Elab.async false
set_option linter.all false
set_option maxRecDepth 100000
set_option maxHeartbeats 2000000
/-! t == u of tuples, whatever their items' == answers. -/
namespace TE
open PySem PySem.SeqAt PySem.Spec PyProof.Rows
open AutoSeq1 (wpAny_loadPart')
section
variable {P : Program} {w : World} {A : Around} {R : Result → Shared → Prop}
/-- the whole answer -/
abbrev ans (xs ys : Array Value) (e : Nat → Bool) : Bool := (List.range (min xs.size ys.size)).all e && xs.size == ys.size
theorem tup_eq (l b : Addr) (xs ys : Array Value) (n k : Nat) (d1 d2 : Option Addr) (o1 o2 : Array (Option Value)) (e : Nat → Bool) (I : Nat → Shared → Prop)
    (step : ∀ i (h1 : i < xs.size) (h2 : i < ys.size) t, I i t → wpAny (model P w) A.in1 (eqBool xs[i] ys[i]) (fun r t' => r = e i ∧ I (i + 1) t') (fun x t' => R (.error x) t') t)
    (out : ∀ i t, I i t → R (.ok (.ret (.bool (ans xs ys e)))) t) {s : Shared} (at1 : s.heap.get? l = some { cls := .type "tuple", dict := d1, data := .seq xs n, slots := o1 }) (at2 : s.heap.get? b = some { cls := .type "tuple", dict := d2, data := .seq ys k, slots := o2 }) (start : I 0 s) :
    wpAny (model P w) A.in1 (Builtin.«tuple.__eq__» ⟨[.ref l, .ref b], []⟩) (GQ.FinOf P w A R) (fun x t => R (.error x) t) s := by
  have sub := AutoSeq1.sub_tuple_tuple
  have len : (xs.toList.zip ys.toList).length = min xs.size ys.size := by simp
  have i0 := start
  obtain ⟨hp, g, d, tk, os⟩ := s
  wp_walk using wpAny_loadPart' at1, wpAny_loadPart' at2, wpAny_forIn_list _ (fun rest b t => b.1 = none ∧ ∃ i, rest = (xs.toList.zip ys.toList).drop i ∧ (∀ j, j < i → j < min xs.size ys.size → e j = true) ∧ I i t) _
  case turn =>
    rintro ⟨y, x⟩ rest b t ⟨hb, i, hz, before, it⟩
    have lt : i < (xs.toList.zip ys.toList).length := Nat.lt_of_not_le fun h' => by
      rw [List.drop_of_length_le h'] at hz
      cases hz
    have lm : i < min xs.size ys.size := len ▸ lt
    have h1 : i < xs.size := by omega
    have h2 : i < ys.size := by omega
    rw [List.drop_eq_getElem_cons lt] at hz
    obtain ⟨pq, more⟩ := List.cons.inj hz
    obtain rfl : y = xs[i] := by simpa using congrArg Prod.fst pq
    obtain rfl : x = ys[i] := by simpa using congrArg Prod.snd pq
    refine wpAny_bind (wpAny_mono (step i h1 h2 t it) (fun r t2 q => ?_) fun _ _ z => z)
    obtain ⟨rfl, it2⟩ := q
    cases he : e i with
    | true =>
      wp_walk
      refine ⟨rfl, i + 1, more, fun j hj lj => ?_, it2⟩
      rcases Nat.lt_succ_iff_lt_or_eq.mp hj with h | rfl
      · exact before j h lj
      · exact he
    | false =>
      wp_walk
      have no : ans xs ys e = false := by
        have : (List.range (min xs.size ys.size)).all e = false := List.all_eq_false.mpr ⟨i, List.mem_range.mpr lm, by rw [he]; decide⟩
        rw [ans, this, Bool.false_and]
      have := out _ _ it2
      rw [no] at this
      exact this
  case fin =>
    rintro ⟨b1, b2⟩ t ⟨hb, i, hz, before, it⟩
    simp only at hb
    subst hb
    have ge : min xs.size ys.size ≤ i := Nat.le_of_not_lt fun h => by
      rw [List.drop_eq_getElem_cons (len ▸ h)] at hz
      cases hz
    have yes : (List.range (min xs.size ys.size)).all e = true := List.all_eq_true.mpr fun j hj => before j (by have := List.mem_range.mp hj; omega) (List.mem_range.mp hj)
    have fin := out _ _ it
    rw [ans, yes, Bool.true_and] at fin
    wp_walk
    simpa [Builtin.Tuple.tupleCompareSizes] using fin
  case h => exact ⟨rfl, 0, rfl, fun j hj => absurd hj (Nat.not_lt_zero j), i0⟩
end
end TE
set_option Elab.async false
set_option linter.all false
set_option maxRecDepth 100000
set_option maxHeartbeats 1000000
namespace W14
open PySem L2 PySem.Spec PyProof.Rows WR WB
/-! ### tuples of words, held against one another -/
section
variable {X : Cx} {C : Addr} {pins : List (Addr × Obj)} {σ : L2.St} {H : Hp} {s : Shared}
theorem vals_ints_inj : ∀ {ns ms : List Int} {us : List Value}, Vals (iv ns) us → Vals (iv ms) us → ns = ms
  | [], [], _, _, _ => rfl
  | [], _ :: _, _, .nil, h => nomatch h
  | _ :: _, [], _, h, .nil => nomatch h
  | n :: ns, m :: ms, _, .cons h1 t1, h2 => by
    cases h2 with
    | cons h3 t3 =>
      obtain ⟨t, rfl⟩ := h1
      obtain ⟨t', e⟩ := h3
      cases e
      rw [vals_ints_inj t1 t3]
theorem word_inj (I : Inv X pins σ H s) {p : Addr} {ns ms : List Int} (h1 : WordAt X.K C H p ns) (h2 : WordAt X.K C H p ms) : ns = ms := by
  obtain ⟨dx, tl, tk, ks, a1, a2, _⟩ := h1
  obtain ⟨dy, ul, uk, js, b1, b2, _⟩ := h2
  have e := Option.some.inj (a1.symm.trans b1)
  injection e with _ _ ef
  have et : tl = ul := by
    have := List.cons.inj ef
    have := Prod.mk.inj this.1
    injection this.2
  subst et
  obtain ⟨its, v1, ⟨o1, g1, _, n1, d1⟩, _⟩ := I.tuple a2.sq
  obtain ⟨its2, v2, ⟨o2, g2, _, n2, d2⟩, _⟩ := I.tuple b2.sq
  have eo := Option.some.inj (g1.symm.trans g2)
  subst eo
  have ei : its = its2 := by
    have := d1.symm.trans d2
    injection this with this
    simpa using this
  subst ei
  exact vals_ints_inj v1 v2
theorem rcW (M : EqW X.prog X.w X.K X.mg X.base C) {A : Around} (sb : Sub X 1 A) (I : Inv X pins σ H s) {a b : Addr} {ns ms : List Int} (W1 : WordAt X.K C H a ns) (W2 : WordAt X.K C H b ms) :
    wpAny (model X.prog X.w) A (richCompare .Eq (.ref a) (.ref b)) (fun r s' => r = .bool (decide (ns = ms)) ∧ Inv X pins σ H s') X.xe s := by
  obtain ⟨f, fd, F, hs, hf, hb⟩ := M.ex
  obtain ⟨dx, tl, tk, ks, ha, _⟩ := id W1
  obtain ⟨dx', tl', tk', ks', hb', _⟩ := id W2
  obtain ⟨mA, J, _⟩ := ins_get I.hok ha
  obtain ⟨mB, J', _⟩ := ins_get I.hok hb'
  obtain ⟨od, J, _⟩ := J.look
  obtain ⟨od', J', _⟩ := J'.look
  obtain ⟨m, hF⟩ := I.fr
  refine PySem.W.cmp_K (op := .Eq) (tb := .ref C) sb.room.units0 hF I.ok.mod.kin J J'.type (by simp [PySem.W.notFirst]) hs hf ?_
  have hsp : spEq X.K C [.ref a, .ref b] H (fun v H' => v = .bl (decide (ns = ms)) ∧ H' = H) E0 := ⟨a, b, ns, ms, rfl, W1, W2, rfl, rfl⟩
  have e0 : Env0 X.prog X.w X.K X.mg X.base A X.stack s H := by
    have e := I.env0
    exact ⟨by rw [sb.fr]; exact e.frames, e.mod, e.bs, e.bsz, e.funs, e.frf, e.hok, e.bare⟩
  have hl := F.len _ _ _ _ hsp
  have r2 : Vals [V.ref a, V.ref b] [Value.ref a, Value.ref b] := .cons rfl (.cons rfl .nil)
  refine wpAny_call (codeAny_mono (F.run A X.stack s H ⟨[.ref a, .ref b], []⟩ [.ref a, .ref b] [.ref a, .ref b] _ E0 sb.room e0 (by
    have := hb s [.ref a, .ref b] I.kIn (by simpa using hl)
    simpa using this) r2 hsp) fun r s' hq => ?_)
  cases r with
  | error e => exact pass0 pins σ H s e s' I hq
  | ok fl =>
    cases fl with
    | ret w =>
      obtain ⟨z, H', I', rz, ez, eH⟩ := I.after hq
      subst ez eH
      cases rz
      exact ⟨rfl, I'⟩
    | next => exact False.elim hq
    | brk => exact False.elim hq
    | cont => exact False.elim hq
theorem ebW (M : EqW X.prog X.w X.K X.mg X.base C) {A : Around} (sb : Sub X 1 A) (I : Inv X pins σ H s) {a b : Addr} {ns ms : List Int} (W1 : WordAt X.K C H a ns) (W2 : WordAt X.K C H b ms) :
    wpAny (model X.prog X.w) A (eqBool (.ref a) (.ref b)) (fun r s' => r = decide (ns = ms) ∧ Inv X pins σ H s') X.xe s := by
  by_cases hab : a = b
  · subst hab
    have e := word_inj I W1 W2
    subst e
    exact (SeqAt.EqAt.same (A := A) (s := s) (.ref a)) X.prog X.w X.xe _ ⟨(decide_eq_true rfl).symm, I⟩
  · refine GQ.eqBool_refG hab (wpAny_mono (rcW M sb I W1 W2) (fun v s' q => ⟨_, q.1, rfl, q.2⟩) fun _ _ z => z)
end
def rEqWT (K : PySem.W.Frag) (C : Addr) : R2 := fun x y H Q => ∃ (a b : Addr) (xs ys : List Addr) (ws vs : List (List Int)), x = .ref a ∧ y = .ref b ∧ SqT K H a (xs.map V.ref) ∧ SqT K H b (ys.map V.ref) ∧ Wds K C H xs ws ∧ Wds K C H ys vs ∧ Q (.bl (decide (ws = vs))) H
theorem all_same {ws vs : List (List Int)} {n m : Nat} (hn : n = ws.length) (hm : m = vs.length) : (((List.range (min n m)).all fun i => decide (ws.getD i [] = vs.getD i [])) && n == m) = decide (ws = vs) := by
  subst hn hm
  rw [Bool.eq_iff_iff, Bool.and_eq_true, List.all_eq_true, decide_eq_true_eq, beq_iff_eq]
  constructor
  · rintro ⟨h1, h2⟩
    refine List.ext_getElem h2 fun i a b => ?_
    have := of_decide_eq_true (h1 i (List.mem_range.mpr (by omega)))
    rw [List.getD_eq_getElem?_getD, List.getD_eq_getElem?_getD, List.getElem?_eq_getElem a, List.getElem?_eq_getElem b] at this
    exact this
  · rintro rfl
    exact ⟨fun i _ => decide_eq_true rfl, rfl⟩
section
variable {X : Cx} {C : Addr}
theorem op_eqWT (M : EqW X.prog X.w X.K X.mg X.base C) {j : Nat} (hr : Room j X.A) (hj : 2 ≤ j) : OpR X (compareOp .Eq) (rEqWT X.K C) := by
  intro pins s σ H x y u v Q I rx ry d
  obtain ⟨a, b, xs, ys, ws, vs, rfl, rfl, ha, hb, hW, hV, q⟩ := d
  cases rx
  cases ry
  have rm : Room 2 X.A := hr.mono hj
  obtain ⟨its, r, ⟨⟨cls, dd, data, sl⟩, ho, hc, n, hd⟩, _⟩ := I.tuple ha
  obtain ⟨its2, r2, ⟨⟨cls2, dd2, data2, sl2⟩, ho2, hc2, n2, hd2⟩, _⟩ := I.tuple hb
  simp only at hc hd hc2 hd2
  subst hc hd hc2 hd2
  have l1 : its.toArray.size = ws.length := by rw [List.size_toArray, ← r.length, List.length_map, hW.length]
  have l2 : its2.toArray.size = vs.length := by rw [List.size_toArray, ← r2.length, List.length_map, hV.length]
  have sb : Sub X 1 X.A.in1 := ⟨rm.in1, rfl⟩
  show wpAny (model X.prog X.w) X.A (richCompare .Eq (.ref a) (.ref b)) (EP X pins σ Q) X.xe s
  refine wpAny_richCompare_same_room (op := .Eq) ⟨_, ho, rfl⟩ ⟨_, ho2, rfl⟩ PySem.F.slot_tuple_eq (GQ.call_here PySem.F.slot_tuple_eq ⟨_, ho, rfl⟩ PySem.F.entry_tuple_eq (PySem.F.args_tuple_eq_2 _ _) ?_) rm.units0
  refine TE.tup_eq a b its.toArray its2.toArray n n2 dd dd2 sl sl2 (fun i => decide (ws.getD i [] = vs.getD i [])) (fun _ t => Inv X pins σ H t) (fun i h1 h2 t It => ?_) (fun i t It => ?_) ho ho2 I
  · have k1 : i < xs.length := by rw [hW.length]; omega
    have k2 : i < ys.length := by rw [hV.length]; omega
    obtain ⟨w1, hw1, Wa⟩ := hW.at (List.getElem?_eq_getElem k1)
    obtain ⟨w2, hw2, Wb⟩ := hV.at (List.getElem?_eq_getElem k2)
    obtain ⟨u1, hu1, ru1⟩ := r.get (show (xs.map V.ref)[i]? = some (V.ref xs[i]) by rw [List.getElem?_map, List.getElem?_eq_getElem k1]; rfl)
    obtain ⟨u2, hu2, ru2⟩ := r2.get (show (ys.map V.ref)[i]? = some (V.ref ys[i]) by rw [List.getElem?_map, List.getElem?_eq_getElem k2]; rfl)
    cases ru1
    cases ru2
    have e1 : its.toArray[i] = .ref xs[i] := by
      have := (List.getElem?_eq_some_iff.mp hu1).2
      simpa using this
    have e2 : its2.toArray[i] = .ref ys[i] := by
      have := (List.getElem?_eq_some_iff.mp hu2).2
      simpa using this
    rw [e1, e2, List.getD_eq_getElem?_getD, List.getD_eq_getElem?_getD, hw1, hw2]
    exact ebW M sb It Wa Wb
  · have e : TE.ans its.toArray its2.toArray (fun i => decide (ws.getD i [] = vs.getD i [])) = decide (ws = vs) := all_same l1 l2
    rw [e]
    exact ⟨(fun z => nomatch z), .bl _, H, It, rfl, q⟩
end
end W14
set_option Elab.async false
set_option linter.all false
set_option maxRecDepth 100000
set_option maxHeartbeats 1000000
namespace W14
open PySem L2 PySem.Spec PyProof.Rows WR WB
theorem rf_words {tw tl th tn : Addr} {n b : Nat} {sh : Bool} : (rf tw tl n b sh th tn).lookup ("words" : Str) = some (.ref tw) := by
  unfold rf
  exact lk_eq
theorem rf_letters {tw tl th tn : Addr} {n b : Nat} {sh : Bool} : (rf tw tl n b sh th tn).lookup ("letters" : Str) = some (.ref tl) := by
  unfold rf
  rw [lk_ne (show ¬ (("letters" : Str) = "words") by decide +kernel)]
  exact lk_eq
theorem rf_many {tw tl th tn : Addr} {n b : Nat} {sh : Bool} : (rf tw tl n b sh th tn).lookup ("many" : Str) = some (.int (n : Int)) := by
  unfold rf
  rw [lk_ne (show ¬ (("many" : Str) = "words") by decide +kernel), lk_ne (show ¬ (("many" : Str) = "letters") by decide +kernel)]
  exact lk_eq
theorem rf_bands {tw tl th tn : Addr} {n b : Nat} {sh : Bool} : (rf tw tl n b sh th tn).lookup ("bands" : Str) = some (.int (b : Int)) := by
  unfold rf
  rw [lk_ne (show ¬ (("bands" : Str) = "words") by decide +kernel), lk_ne (show ¬ (("bands" : Str) = "letters") by decide +kernel), lk_ne (show ¬ (("bands" : Str) = "many") by decide +kernel)]
  exact lk_eq
theorem rf_is_short {tw tl th tn : Addr} {n b : Nat} {sh : Bool} : (rf tw tl n b sh th tn).lookup ("is_short" : Str) = some (.bl sh) := by
  unfold rf
  rw [lk_ne (show ¬ (("is_short" : Str) = "words") by decide +kernel), lk_ne (show ¬ (("is_short" : Str) = "letters") by decide +kernel), lk_ne (show ¬ (("is_short" : Str) = "many") by decide +kernel), lk_ne (show ¬ (("is_short" : Str) = "bands") by decide +kernel)]
  exact lk_eq
theorem rf_homes {tw tl th tn : Addr} {n b : Nat} {sh : Bool} : (rf tw tl n b sh th tn).lookup ("homes" : Str) = some (.ref th) := by
  unfold rf
  rw [lk_ne (show ¬ (("homes" : Str) = "words") by decide +kernel), lk_ne (show ¬ (("homes" : Str) = "letters") by decide +kernel), lk_ne (show ¬ (("homes" : Str) = "many") by decide +kernel), lk_ne (show ¬ (("homes" : Str) = "bands") by decide +kernel), lk_ne (show ¬ (("homes" : Str) = "is_short") by decide +kernel)]
  exact lk_eq
theorem rf_nexts {tw tl th tn : Addr} {n b : Nat} {sh : Bool} : (rf tw tl n b sh th tn).lookup ("nexts" : Str) = some (.ref tn) := by
  unfold rf
  rw [lk_ne (show ¬ (("nexts" : Str) = "words") by decide +kernel), lk_ne (show ¬ (("nexts" : Str) = "letters") by decide +kernel), lk_ne (show ¬ (("nexts" : Str) = "many") by decide +kernel), lk_ne (show ¬ (("nexts" : Str) = "bands") by decide +kernel), lk_ne (show ¬ (("nexts" : Str) = "is_short") by decide +kernel), lk_ne (show ¬ (("nexts" : Str) = "homes") by decide +kernel)]
  exact lk_eq
/-- no name of a method is a field -/
theorem rf_no {tw tl th tn : Addr} {n b : Nat} {sh : Bool} {m : Str} (h : (["words", "letters", "many", "bands", "is_short", "homes", "nexts"] : List Str).all (fun x => !decide (m = x)) = true) : (rf tw tl n b sh th tn).lookup m = none := by
  have g : ∀ x ∈ (["words", "letters", "many", "bands", "is_short", "homes", "nexts"] : List Str), ¬ m = x := fun x hx => by
    have := List.all_eq_true.mp h x hx
    simpa using this
  unfold rf
  rw [lk_ne (g _ (by simp)), lk_ne (g _ (by simp)), lk_ne (g _ (by simp)), lk_ne (g _ (by simp)), lk_ne (g _ (by simp)), lk_ne (g _ (by simp)), lk_ne (g _ (by simp))]
  rfl
theorem RimsAt.same {K : PySem.W.Frag} {C CR : Addr} {H H' : Hp} {p : Addr} {xs : List Addr} {ws : List (List Int)} (h : RimsAt K C CR H p xs ws) (s : Same H H') : RimsAt K C CR H' p xs ws := by
  obtain ⟨dx, tw, tl, th, tn, h1, h2, h3, h4, h5, h6⟩ := h
  exact ⟨dx, tw, tl, th, tn, s _ _ h1, SqB.same s h2, h3.same s, SqB.same s h4, SqB.same s h5, SqB.same s h6⟩
theorem RimsAt.tyx {K : PySem.W.Frag} {mg : Str → Option Value} {C CR : Addr} {H : Hp} {p : Addr} {xs : List Addr} {ws : List (List Int)} (h : RimsAt K C CR H p xs ws) (T : TxW K mg C) (TC : TxRC K mg CR) : TyX K H (.ref p) (.ref CR) := by
  obtain ⟨dx, tw, tl, th, tn, h1, _⟩ := h
  exact .base (.ins h1 TC.cl TC.ca T.cn T.ct TC.cm)
/-! ### rims made -/
structure MkR (P : Program) (w : World) (K : PySem.W.Frag) (mg : Str → Option Value) (base : Heap) (C CR : Addr) : Prop where
  ex : ∃ (f : Addr) (fd : FuncData), Mk K CR f ∧ FnOk P w K mg base CX0 4 f fd ["self", "words"] (spInitR K C CR) ∧ Binds K fd ["self", "words"] []
def NewR (K : PySem.W.Frag) (C CR : Addr) (H : Hp) (Q : VK) (xs : List Addr) (ws : List (List Int)) : Prop := ∀ p H', Same H H' → RimsAt K C CR H' p xs ws → Q (.ref p) H'
section
variable {X : Cx} {C CR : Addr} {p pos : Pos} {e : Expr} {es : List Expr} {t : TA} {j : Nat}
theorem pe_rims {mg : Str → Option Value} (M : MkR X.prog X.w X.K X.mg X.base C CR) (T : TxRC X.K X.mg CR) (hr : Room j X.A) (hkj : 5 ≤ j) (hg : Gl X "Rims") (ha : PA X (e :: es) t)
    (he : starEach (e :: es) X.env = (false, eval e X.env) :: starEach es X.env := by rfl) (hpl : (backTo pos (starEach es X.env)).any (·.1) = false := by rfl) :
    PE X (.Call (.Name "Rims" p) (e :: es) [] pos) (tMake CR (spInitR X.K C CR) [] E0 t) := by
  obtain ⟨f, fd, M, F, hb⟩ := M.ex
  exact pe_make M F (hr.mono hkj) hg T.mgR hb .nil pass0 ha (by decide) he hpl
end
theorem rims_at {K : PySem.W.Frag} {C CR : Addr} {H1 : Hp} {q x dx : Addr} {xs : List Addr} {ws : List (List Int)} {G : Hp → Prop} {E : XK} (nx : H1 x = none) (ndx : H1 dx = none) (hq : SqL K H1 q (xs.map V.ref)) (hW : Wds K C H1 xs ws) (ok : RimOk ws) (k : ∀ H', Same H1 H' → RimsAt K C CR H' x xs ws → G H') :
    spInitR K C CR [.ref x, .ref q] (L2.upd (L2.upd H1 dx (.own x)) x (.ins CR dx [])) (fun v H2 => v = .non ∧ G H2) E := by
  have s0 : Same H1 (L2.upd (L2.upd H1 dx (.own x)) x (.ins CR dx [])) := fun b o e => by
    rw [upd_ne (ne_of_none e nx), upd_ne (ne_of_none e ndx)]
    exact e
  exact ⟨H1, x, dx, q, xs, ws, rfl, s0, nx, upd_same, hq, hW, ok, fun H' s' W' => ⟨rfl, k H' s' W'⟩⟩
/-! ### rims held against one another, and their places -/
abbrev sEqR : Stmt := inClass (top 50) 1
abbrev sNextR : Stmt := inClass (top 50) 3
abbrev sNeedPl : Stmt := top 48
def spEqR (K : PySem.W.Frag) (C CR : Addr) : Sp := fun vs H Q _ => ∃ (p q : Addr) (xs ys : List Addr) (ws us : List (List Int)), vs = [.ref p, .ref q] ∧ RimsAt K C CR H p xs ws ∧ RimsAt K C CR H q ys us ∧ Q (.bl (decide (ws = us))) H
def spNeedPl (K : PySem.W.Frag) (C CR : Addr) : Sp := fun vs H Q _ => ∃ (p : Addr) (i : Int) (xs : List Addr) (ws : List (List Int)), vs = [.ref p, .int i] ∧ RimsAt K C CR H p xs ws ∧ 0 ≤ i ∧ i < ws.flatten.length ∧ Q .non H
def spNextR (K : PySem.W.Frag) (C CR : Addr) (g : List (List Int) → List Int) : Sp := fun vs H Q _ => ∃ (p : Addr) (i : Nat) (xs : List Addr) (ws : List (List Int)), vs = [.ref p, .int (i : Int)] ∧ RimsAt K C CR H p xs ws ∧ i < ws.flatten.length ∧ ∀ z, (g ws)[i]? = some z → Q (.int z) H
theorem hmF_len : ∀ (ws : List (List Int)) (f : Nat), (hmF f ws).length = ws.flatten.length
  | [], _ => rfl
  | w :: r, f => by
    unfold hmF
    rw [List.length_append, hmF_len r, List.flatten_cons, List.length_append, List.length_replicate]
section
variable {P : Program} {w : World} {K : PySem.W.Frag} {mg : Str → Option Value} {base : Heap} {C CR : Addr}
theorem scEqR : FnScope ["self", "other"] ["self", "other"] (defScope sEqR) := ⟨rfl, rfl, rfl, by decide +kernel, rfl, by decide +kernel, by decide +kernel⟩
theorem ok_eqR {f : Addr} {fd : FuncData} (F : Fun K "__eq__" "Rims.__eq__" sEqR f fd) (T : TxW K mg C) (TC : TxRC K mg CR) (M : EqW P w K mg base C) : FnOk P w K mg base CX0 3 f fd ["self", "other"] (spEqR K C CR) := by
  refine F.ok scEqR (fun vs H Q E h => ?_) (fun cdv A outer s H vs Q E hr h => ?_)
  · obtain ⟨p, q, xs, ys, ws, us, rfl, _⟩ := h
    rfl
  · obtain ⟨p, q, xs, ys, ws, us, rfl, R1, R2, k⟩ := h
    refine ⟨_, pss_one (ps_ret (pe_and (pe_callB call_isi (by rfl) T.isin (by decide +kernel) (pa_cons (pv 1) (pa_cons (pe_glob (v := .ref CR) (by rfl) TC.mgR rfl) pa_nil)))
      (pe_one (pe_cmpR (op_eqWT M hr (by decide)) (pe_fld (pv 0) rfl) (pe_fld (pv 1) rfl) (nomark _))))), ?_⟩
    refine ⟨_, rfl, _, _, _, _, _, rfl, .own CR, R2.tyx T TC, kit_self CR, _, rfl, ?_⟩
    refine iteT ?_
    obtain ⟨dx, tw, tl, th, tn, h1, h2, h3, _⟩ := R1
    obtain ⟨dy, uw, ul, uh, un, g1, g2, g3, _⟩ := R2
    exact ⟨_, rfl, p, CR, dx, _, _, rfl, h1, TC.cl, TC.n1, rf_words, _, rfl, q, CR, dy, _, _, rfl, g1, TC.cl, TC.n1, rf_words, tw, uw, xs, ys, ws, us, rfl, rfl, h2.sq, g2.sq, h3, g3, k⟩
theorem scNeedPl : FnScope ["rims", "value"] ["rims", "value"] (defScope sNeedPl) := ⟨rfl, rfl, rfl, by decide +kernel, rfl, by decide +kernel, by decide +kernel⟩
theorem scNextR : FnScope ["self", "place"] ["self", "place"] (defScope sNextR) := ⟨rfl, rfl, rfl, by decide +kernel, rfl, by decide +kernel, by decide +kernel⟩
theorem ok_needPl {f : Addr} {fd : FuncData} (F : Fun K "need_place" "need_place" sNeedPl f fd) (TC : TxRC K mg CR) (GW : Cal P w K mg base "is_within" 2 ["value", "least", "most"] spWithin) : FnOk P w K mg base CX0 3 f fd ["rims", "value"] (spNeedPl K C CR) := by
  refine F.ok scNeedPl (fun vs H Q E h => ?_) (fun cdv A outer s H vs Q E hr h => ?_)
  · obtain ⟨p, i, xs, ws, rfl, _⟩ := h
    rfl
  · obtain ⟨p, i, xs, ws, rfl, R1, i0, i1, k⟩ := h
    refine ⟨_, pss_one (ps_if (pt_not (pt_val (pe_cal GW hr (by decide) (by rfl) (pa_cons (pv 1) (pa_cons pe_int (pa_cons (pe_op op_sub (pe_fld (pv 0) rfl) pe_int) pa_nil)))))) (pss_one ps_never) pss_nil), ?_⟩
    obtain ⟨dx, tw, tl, th, tn, h1, _⟩ := R1
    refine ⟨_, rfl, _, rfl, p, CR, dx, _, _, rfl, h1, TC.cl, TC.n3, rf_many, _, _, rfl, rfl, ?_⟩
    refine ⟨.int i, .int 0, .int ((ws.flatten.length : Int) - 1), "int", rfl, .int i, .inr ⟨_, rfl⟩, .inr ⟨_, rfl⟩, _, rfl, ?_⟩
    refine no_ne ?_ k
    show (decide ((0 : Int) ≤ i) && decide (i ≤ (ws.flatten.length : Int) - 1)) = true
    rw [decide_eq_true i0, decide_eq_true (show i ≤ (ws.flatten.length : Int) - 1 by omega)]
    rfl
theorem ok_nextR {f : Addr} {fd : FuncData} (F : Fun K "next" "Rims.next" sNextR f fd) (TC : TxRC K mg CR) (GP : Cal P w K mg base "need_place" 3 ["rims", "value"] (spNeedPl K C CR)) : FnOk P w K mg base CX0 4 f fd ["self", "place"] (spNextR K C CR (nxF 0)) := by
  refine F.ok scNextR (fun vs H Q E h => ?_) (fun cdv A outer s H vs Q E hr h => ?_)
  · obtain ⟨p, i, xs, ws, rfl, _⟩ := h
    rfl
  · obtain ⟨p, i, xs, ws, rfl, R1, i1, k⟩ := h
    refine ⟨_, pss_cons (ps_expr (pe_cal GP hr (by decide) (by rfl) (pa_cons (pv 0) (pa_cons (pv 1) pa_nil))))
      (pss_one (ps_ret (pe_ix ix_tup (pe_fld (pv 0) rfl) (pv 1) (fun _ _ => rfl)))), ?_⟩
    refine ⟨_, rfl, _, rfl, p, _, xs, ws, rfl, R1, by omega, by omega, ?_⟩
    obtain ⟨dx, tw, tl, th, tn, h1, _, _, _, _, h6⟩ := R1
    have lt : i < (nxF 0 ws).length := by rw [nxF_len]; exact i1
    exact ⟨_, rfl, p, CR, dx, _, _, rfl, h1, TC.cl, TC.n7, rf_nexts, _, rfl, tn, _, _, _, rfl, rfl, h6.sq, atI_nat (iv_get (List.getElem?_eq_getElem lt)), k _ (List.getElem?_eq_getElem lt)⟩
end
end W14
set_option Elab.async false
set_option linter.all false
set_option maxRecDepth 100000
set_option maxHeartbeats 1000000
namespace W14
open PySem L2 PySem.Spec PyProof.Rows WR WB
/-! ### rims == rims, rims != rims -/
structure EqR (P : Program) (w : World) (K : PySem.W.Frag) (mg : Str → Option Value) (base : Heap) (C CR : Addr) : Prop where
  ex : ∃ (f : Addr) (fd : FuncData), FnOk P w K mg base CX0 3 f fd ["self", "other"] (spEqR K C CR) ∧ PySem.W.findIn K (.ref CR) "__eq__" = some (some (.ref f)) ∧ PySem.W.isFn K (.ref f) = true ∧ Binds K fd ["self", "other"] []
def rEqR (K : PySem.W.Frag) (C CR : Addr) : R2 := fun x y H Q => ∃ (p q : Addr) (xs ys : List Addr) (ws us : List (List Int)), x = .ref p ∧ y = .ref q ∧ RimsAt K C CR H p xs ws ∧ RimsAt K C CR H q ys us ∧ Q (.bl (decide (ws = us))) H
def rNeR (K : PySem.W.Frag) (C CR : Addr) : R2 := fun x y H Q => ∃ (p q : Addr) (xs ys : List Addr) (ws us : List (List Int)), x = .ref p ∧ y = .ref q ∧ RimsAt K C CR H p xs ws ∧ RimsAt K C CR H q ys us ∧ Q (.bl (!decide (ws = us))) H
section
variable {X : Cx} {C CR : Addr} {pins : List (Addr × Obj)} {σ : L2.St} {H : Hp} {s : Shared}
theorem callEqR (M : EqR X.prog X.w X.K X.mg X.base C CR) {A : Around} (sb : Sub X 3 A) (I : Inv X pins σ H s) {a b : Addr} {xs ys : List Addr} {ws us : List (List Int)} (R1 : RimsAt X.K C CR H a xs ws) (R2 : RimsAt X.K C CR H b ys us) :
    ∃ f : Addr, PySem.W.findIn X.K (.ref CR) "__eq__" = some (some (.ref f)) ∧ PySem.W.isFn X.K (.ref f) = true ∧ wpAny (model X.prog X.w) A (call (.ref f) [.ref a, .ref b]) (fun r s' => r = .bool (decide (ws = us)) ∧ Inv X pins σ H s') X.xe s := by
  obtain ⟨f, fd, F, hs, hf, hb⟩ := M.ex
  refine ⟨f, hs, hf, ?_⟩
  have hsp : spEqR X.K C CR [.ref a, .ref b] H (fun v H' => v = .bl (decide (ws = us)) ∧ H' = H) E0 := ⟨a, b, xs, ys, ws, us, rfl, R1, R2, rfl, rfl⟩
  have e0 : Env0 X.prog X.w X.K X.mg X.base A X.stack s H := by
    have e := I.env0
    exact ⟨by rw [sb.fr]; exact e.frames, e.mod, e.bs, e.bsz, e.funs, e.frf, e.hok, e.bare⟩
  have hl := F.len _ _ _ _ hsp
  have r2 : Vals [V.ref a, V.ref b] [Value.ref a, Value.ref b] := .cons rfl (.cons rfl .nil)
  refine wpAny_call (codeAny_mono (F.run A X.stack s H ⟨[.ref a, .ref b], []⟩ [.ref a, .ref b] [.ref a, .ref b] _ E0 sb.room e0 (by
    have := hb s [.ref a, .ref b] I.kIn (by simpa using hl)
    simpa using this) r2 hsp) fun r s' hq => ?_)
  cases r with
  | error e => exact pass0 pins σ H s e s' I hq
  | ok fl =>
    cases fl with
    | ret w =>
      obtain ⟨z, H', I', rz, ez, eH⟩ := I.after hq
      subst ez eH
      cases rz
      exact ⟨rfl, I'⟩
    | next => exact False.elim hq
    | brk => exact False.elim hq
    | cont => exact False.elim hq
theorem op_eqR (M : EqR X.prog X.w X.K X.mg X.base C CR) {j : Nat} (hr : Room j X.A) (hj : 3 ≤ j) : OpR X (compareOp .Eq) (rEqR X.K C CR) := by
  intro pins s σ H x y u v Q I rx ry d
  obtain ⟨a, b, xs, ys, ws, us, rfl, rfl, R1, R2, hq⟩ := d
  cases rx
  cases ry
  obtain ⟨dx, tw, tl, th, tn, ha, _⟩ := id R1
  obtain ⟨dy, uw, ul, uh, un, hb', _⟩ := id R2
  obtain ⟨mA, J, _⟩ := ins_get I.hok ha
  obtain ⟨mB, J', _⟩ := ins_get I.hok hb'
  obtain ⟨od, J, _⟩ := J.look
  obtain ⟨od', J', _⟩ := J'.look
  obtain ⟨m, hF⟩ := I.fr
  have rm : Room 3 X.A := hr.mono hj
  obtain ⟨f, hs, hf, hc⟩ := callEqR M ⟨rm, rfl⟩ I R1 R2
  show wpAny (model X.prog X.w) X.A (richCompare .Eq (.ref a) (.ref b)) (EP X pins σ Q) X.xe s
  refine PySem.W.cmp_K (op := .Eq) (tb := .ref CR) rm.units0 hF I.ok.mod.kin J J'.type (by simp [PySem.W.notFirst]) hs hf (wpAny_mono hc (fun r s' q => ?_) fun _ _ z => z)
  obtain ⟨rfl, I'⟩ := q
  exact ⟨.bl _, H, I', rfl, hq⟩
theorem op_neR (M : EqR X.prog X.w X.K X.mg X.base C CR) (hne : PySem.W.findIn X.K (.ref CR) "__ne__" = some (some (.builtin "object.__ne__"))) (hmr : PySem.W.mroIn X.K CR (.type "object") = some true) {j : Nat} (hr : Room j X.A) (hj : 4 ≤ j) : OpR X (compareOp .NotEq) (rNeR X.K C CR) := by
  intro pins s σ H x y u v Q I rx ry d
  obtain ⟨a, b, xs, ys, ws, us, rfl, rfl, R1, R2, hq⟩ := d
  cases rx
  cases ry
  obtain ⟨dx, tw, tl, th, tn, ha, _⟩ := id R1
  obtain ⟨dy, uw, ul, uh, un, hb', _⟩ := id R2
  obtain ⟨mA, J, _⟩ := ins_get I.hok ha
  obtain ⟨mB, J', _⟩ := ins_get I.hok hb'
  obtain ⟨od, J, _⟩ := J.look
  obtain ⟨od', J', _⟩ := J'.look
  have rm4 : Room 4 X.A := hr.mono hj
  obtain ⟨f, hs, hf, hc⟩ := callEqR (A := X.A.in1) M ⟨rm4.in1, rfl⟩ I R1 R2
  show wpAny (model X.prog X.w) X.A (richCompare .NotEq (.ref a) (.ref b)) (EP X pins σ Q) X.xe s
  refine NeK.rc_ne (by have := rm4.in1.units0; exact this) I.kIn J J' hmr hs hf hne (wpAny_mono hc (fun r s' q => ?_) fun _ _ z => z)
  obtain ⟨rfl, I'⟩ := q
  exact ⟨_, rfl, .bl _, H, I', rfl, hq⟩
end
end W14
set_option Elab.async false
set_option linter.all false
set_option maxRecDepth 100000
set_option maxHeartbeats 1000000
namespace W14
open PySem L2 PySem.Spec PyProof.Rows WR WB
/-! ### str of rims -/
abbrev sStrR : Stmt := inClass (top 50) 2
def txtR (ws : List (List Int)) : Str := Txt.join (Str.ofString " / ") (ws.map txt)
def spStrR (K : PySem.W.Frag) (C CR : Addr) : Sp := fun vs H Q _ => ∃ (p : Addr) (xs : List Addr) (ws : List (List Int)), vs = [.ref p] ∧ RimsAt K C CR H p xs ws ∧ RimOk ws ∧ ∀ H', Same H H' → Q (.str (txtR ws)) H'
theorem all_str {vs : List V} {ws : List (List Int)} {f : List Int → Str} (h : All2 (fun v u => v = V.str (f u)) vs ws) : vs = (ws.map f).map V.str := by
  induction h with
  | nil => rfl
  | cons e _ ih => rw [e, ih]; rfl
theorem txts_len : ∀ ws : List (List Int), ((ws.map txt).map (·.length)).sum ≤ 3 * ws.flatten.length + ws.length
  | [] => Nat.zero_le _
  | w :: r => by
    have h1 := txt_len (ns := w)
    have h2 := txts_len r
    simp only [List.map_cons, List.sum_cons, List.flatten_cons, List.length_append, List.length_cons]
    omega
theorem Lts.word {ws : List (List Int)} (h : Lts ws.flatten) {w : List Int} (hw : w ∈ ws) : Lts w := fun x hx => h x (List.mem_flatten.mpr ⟨w, hw, hx⟩)
theorem word_le {ws : List (List Int)} {w : List Int} (hw : w ∈ ws) : w.length ≤ ws.flatten.length := by
  obtain ⟨i, hi, e⟩ := List.mem_iff_getElem.mp hw
  have := flat_take (ws := ws) (i := i) (w := w) (by rw [List.getElem?_eq_getElem hi, e])
  omega
section
variable {P : Program} {w : World} {K : PySem.W.Frag} {mg : Str → Option Value} {base : Heap} {C CR : Addr}
theorem scStrR : FnScope ["self", "word"] ["self"] (defScope sStrR) := ⟨rfl, rfl, rfl, by decide +kernel, rfl, by decide +kernel, by decide +kernel⟩
theorem ok_strR {f : Addr} {fd : FuncData} (F : Fun K "__str__" "Rims.__str__" sStrR f fd) (TC : TxRC K mg CR) (hstr : mg "str" = none) (M : MStr.Spe P w K mg base C "__str__" 2 (spStrM K C)) : FnOk P w K mg base CX0 5 f fd ["self"] (spStrR K C CR) := by
  refine F.ok scStrR (fun vs H Q E h => ?_) (fun cdv A outer s H vs Q E hr h => ?_)
  · obtain ⟨p, xs, ws, rfl, _⟩ := h
    rfl
  · obtain ⟨p, xs, ws, rfl, R1, ⟨l1, l4, hne, l24, hl, hb⟩, k⟩ := h
    refine ⟨_, pss_one (ps_ret (pe_join pe_str (pe_lc (own := [("word", 1)]) (g := gName 1) (tt := tYes) rfl scStrR.nd (pi_tup (pe_fld (pv 0) rfl)) (blkOk_by (N := ["self", "word"]) (sc := defScope sStrR) (by decide +kernel)) (fun _ _ _ _ _ => pg_name (i := 1) scStrR.nd rfl (Or.inl rfl)) (fun _ _ _ _ _ => pts_nil)
        (fun _ _ _ _ _ => pe_callTy (MStr.call_strO M hr (by decide)) (by rfl) hstr (by decide +kernel) (pa_cons (pv 1) pa_nil))))), ?_⟩
    obtain ⟨dx, tw, tl, th, tn, h1, h2, h3, _⟩ := R1
    have lxw : xs.length = ws.length := h3.length
    refine ⟨⟨_, rfl⟩, lc_in ?_⟩
    refine ⟨_, rfl, p, CR, dx, _, _, rfl, h1, TC.cl, TC.n1, rf_words, tw, rfl, ⟨_, h2.sq⟩, ?_⟩
    refine lcM (walk_tup (K := K) (a := tw) (xs := xs.map V.ref)) ws (fun _ _ v u => v = V.str (txt u)) (fun _ _ _ _ _ h _ => h) (fun _ _ _ _ _ _ _ h => h) (by rw [List.length_map]; omega) (by rw [List.length_map]; exact lxw) (fun H s => WR.Same.seqT s h2.sq) ?_ (fun x σ1 H A B k h => gName_mono k h) ?_
    · intro i x u hx hu D2 H2 hD2 _ s2 Qy ky
      obtain ⟨q, hq, rfl⟩ : ∃ q, xs[i]? = some q ∧ x = V.ref q := by
        rw [List.getElem?_map] at hx
        cases e : xs[i]? with
        | none => rw [e] at hx; cases hx
        | some q => rw [e] at hx; exact ⟨q, rfl, (Option.some.inj hx).symm⟩
      obtain ⟨u', hu', Wq⟩ := h3.at hq
      obtain rfl : u' = u := Option.some.inj (hu'.symm.trans hu)
      have mem : u' ∈ ws := List.mem_of_getElem? hu
      have Wq2 := Wq.same s2
      obtain ⟨dx1, tl1, tk, ks, w1, _⟩ := id Wq2
      exact ⟨rfl, _, rfl, q, dx1, _, rfl, w1, q, u', rfl, Wq2, by have := word_le mem; omega, hl.word mem, fun H3 s3 => ⟨_, rfl, ky _ H3 s3 rfl⟩⟩
    · intro D H3 vs hD s3 h3' hvs
      rw [all_str hvs] at h3'
      refine ⟨_, D, ws.map txt, rfl, rfl, .inl (SqL.of h3'), ?_, k H3 s3⟩
      have h1 := txts_len ws
      have h2 : (ws.map txt).length = ws.length := List.length_map ..
      rw [h2]
      show _ + ws.length * 3 ≤ _
      exact Nat.le_trans (show _ ≤ 100 by omega) (by decide)
end
end W14
set_option Elab.async false
set_option linter.all false
set_option maxRecDepth 100000
set_option maxHeartbeats 2000000
/-! enumerate(a tuple), and enumerate of what is a list or a tuple -/
namespace WE
open PySem PySem.W PySem.Spec PyProof.Rows L2
abbrev enObj (j : Addr) : Obj := { cls := .type "enumerate", data := .fields #[.none, .bool false, .ref j, rawInt 0, .none, .none] }
set_option maxHeartbeats 4000000 in
theorem enum_new {v : Value} {o : Obj} {G : Heap → Prop} (B : Begins v o G) :
    Meets (Builtin.«enumerate.__new__» ⟨[.type "enumerate", v], []⟩) (fun _ R t => G t.heap ∧ R (.ok (.ret (.ref (t.heap.push o).objs.size))) { t with heap := (t.heap.push o).push (enObj t.heap.objs.size) }) :=
  .of_wp fun P0 w0 A0 R t k => by
    obtain ⟨hp, gl, dr, tk, os⟩ := t
    obtain ⟨g, k⟩ := k
    have subE := sub_enumerate
    have goes : ∀ {A1 : Around} {E1 : Value → Shared → Prop} {Q1 : Value → Shared → Prop}, Q1 (.ref hp.objs.size) ⟨hp.push o, gl, dr, tk, os⟩ → wpAny (model P0 w0) A1 (pyIter v) Q1 E1 ⟨hp, gl, dr, tk, os⟩ := fun q => B.iter P0 w0 _ _ ⟨hp, gl, dr, tk, os⟩ _ g q
    wp_walk using goes
    refine wpAny_stack_any fun st => wpAny_pure ?_
    split
    · rename_i c _ _ _ _ _
      cases (c == Value.type "enumerate") <;> (wp_walk using goes; exact ⟨_, rfl, k⟩)
    · wp_walk using goes
      exact ⟨_, rfl, k⟩
section
variable {prog : Program} {w : World} {A : Around} {E : Value → Shared → Prop} {s : Shared}
theorem call_enum {v : Value} {o : Obj} {G : Heap → Prop} {Q : Value → Shared → Prop} (B : Begins v o G) (g : G s.heap)
    (k : (s.heap.push o).objs.size = s.heap.objs.size + 1 → IsEnum ((s.heap.push o).push (enObj s.heap.objs.size)) (s.heap.objs.size + 1) s.heap.objs.size 0 .none → Q (.ref (s.heap.objs.size + 1)) { s with heap := (s.heap.push o).push (enObj s.heap.objs.size) }) :
    wpAny (model prog w) A (call (.type "enumerate") [v]) Q E s := by
  refine callType_new F.called_enumerate (by decide) (F.typeCall_enumerate_1 _) (F.newCall_enumerate_1 _) (fun z => F.args_object_init_2 z _) F.entry_enumerate_new (enum_new B) ⟨g, ?_⟩
  have sz : (s.heap.push o).objs.size = s.heap.objs.size + 1 := Heap.size_push ..
  have en : IsEnum ((s.heap.push o).push (enObj s.heap.objs.size)) (s.heap.objs.size + 1) s.heap.objs.size 0 .none := by
    have at_ := Heap.get?_push_size (s.heap.push o) (o := enObj s.heap.objs.size) rfl
    rw [sz] at at_
    exact at_
  show _ ∧ _
  rw [sz]
  exact ⟨⟨_, en, rfl⟩, k sz en⟩
theorem enum_end {e j t : Addr} {i : Nat} {its : Array Value} {old : Value} {Q : Option Value → Shared → Prop} (quiet : A.handled = none) (en : IsEnum s.heap e j i old) (at_ : s.heap.IsTupleIter j t i) (tp : s.heap.IsTuple t its) (no : its[i]? = none)
    (k : ∀ h', Heap.ExtBut j s.heap h' → Q none { s with heap := h' }) : wpAny (model prog w) A (pyNext (.ref e)) Q E s := by
  have ty : s.TypeIs (.ref e) "enumerate" := ⟨_, en, rfl⟩
  unfold pyNext
  refine wpAny_bind (wpAny_attempt (wpAny_callSpecial?_slot (name := Str.ofString "__next__") ty F.slot_enumerate_next (wpAny_call_entry F.slot_enumerate_next ty F.entry_enumerate_next ?_ (F.args_enumerate_next_1 _))))
  show wpAny _ _ (field (.ref e) 2 >>= _) _ _ _
  refine wpAny_bind (wpAny_field en rfl (x := .ref j) rfl (wpAny_bind (wpAny_nextOf_tuple_end quiet at_ tp no fun h' x ext ⟨o, ho, hc⟩ => ?_)))
  exact wpAny_bind (wpAny_isInstance (T := "StopIteration") (b := true) ⟨o, ho, hc⟩ isSubtype_stop (wpAny_pure (k _ ext)))
end
/-- the tuple at a, each item in a new pair -/
def IteT (K : PySem.W.Frag) (a : Addr) : It :=
  ⟨fun i H => ∃ (xs : List V) (x : V), SqT K H a xs ∧ xs[i]? = some x, fun i H v H' => ∃ T x, v = .ref T ∧ H T = none ∧ H' = upd H T (.tup [.int (i : Nat), x]) ∧ ∀ xs, SqT K H a xs → xs[i]? = some x, fun i H => ∃ xs : List V, SqT K H a xs ∧ xs.length ≤ i⟩
theorem apart {h : Heap} {a b : Addr} {x y : String} (h1 : ∃ o, h.get? a = some o ∧ o.cls = .type x) (h2 : ∃ o, h.get? b = some o ∧ o.cls = .type y) (n : x ≠ y) : a ≠ b := by
  rintro rfl
  obtain ⟨o1, e1, c1⟩ := h1
  obtain ⟨o2, e2, c2⟩ := h2
  rw [e1] at e2
  cases e2
  rw [c1] at c2
  injection c2 with c3
  exact n c3
theorem turn_enumT {P : Program} {w : World} {K : PySem.W.Frag} {elts : List Expr} {kk : Nat} {tpos : Pos} (a e j : Addr) :
    Turn P w K (.Tuple elts kk tpos) (IteT K a) [e, j] e (fun i h => (∃ o, IsEnum h e j ((i : Nat) : Int) o) ∧ h.IsTupleIter j a i ∧ e ≠ j) where
  mem := by simp
  obj := fun i h ⟨⟨o1, h1⟩, ⟨o2, h2, c2, d2⟩, _⟩ b hb => by
    rcases List.mem_cons.mp hb with z | z
    · subst z
      exact ⟨_, h1, fun _ q => nomatch q⟩
    · rw [List.mem_singleton.mp z]
      exact ⟨o2, h2, fun _ q => by rw [d2] at q; cases q⟩
  keep := fun i h h' st k => ⟨st.1.imp fun _ z => k e (by simp) _ z, st.2.1.at fun o z => k j (by simp) o z, st.2.2⟩
  item := by
    intro X eP eW eK calm i pins s σ H E I fps st go
    subst eP eW eK
    obtain ⟨⟨o1, h1⟩, h2, ej⟩ := st
    obtain ⟨xs, x, sq, hx⟩ := go
    obtain ⟨its, rv, tp, _⟩ := I.tuple sq
    obtain ⟨u, hu, ru⟩ := rv.get hx
    have in_e : e < s.heap.objs.size := Heap.lt_size h1
    have in_j : j < s.heap.objs.size := by
      obtain ⟨_, q, _⟩ := id h2
      exact Heap.lt_size q
    have ta : ∃ o, s.heap.get? a = some o ∧ o.cls = .type "tuple" := by
      obtain ⟨o, z1, z2, _⟩ := id tp
      exact ⟨o, z1, z2⟩
    have tj : ∃ o, s.heap.get? j = some o ∧ o.cls = .type "tuple_iterator" := by
      obtain ⟨o, z1, z2, _⟩ := id h2
      exact ⟨o, z1, z2⟩
    have aj := apart ta tj (by decide)
    have ea : e ≠ a := apart ⟨_, h1, rfl⟩ ta (by decide)
    have lt : i < its.toArray.size := by
      rw [List.size_toArray]
      exact (List.getElem?_eq_some_iff.mp hu).1
    refine wpAny_pyNext_enum_itemD (Draws.tuple (A := X.A.in1) (I.ok.hd calm) j a aj its.toArray) h1 ⟨h2, tp⟩ lt ej (by simp [ej, ea]) fun y h3 tk hy out at3 new sz kp => ?_
    obtain rfl : u = y := by
      rw [List.getElem?_toArray, hu] at hy
      exact Option.some.inj hy
    refine ⟨_, rfl, wpAny_letOwnedTupleGo_enum (s := { s with heap := h3, toks := tk + 1 }) out fun h4 en4 sb => ?_⟩
    have new4 : h4.get? s.heap.objs.size = some { cls := .type "tuple", data := .seq #[.int i tk, u] } := (sb.2 _ (Nat.ne_of_gt in_e)).trans new
    have ok4 : ObjOk X.prog X.w (upd H s.heap.objs.size (.tup [.int (i : Nat), x])) h4 s.heap.objs.size (.tup [.int (i : Nat), x]) :=
      ⟨Nat.le_trans (by show 2 ≤ 16; decide) (by decide), [.int i tk, u], .cons ⟨_, rfl⟩ (.cons ru .nil), ⟨_, new4, rfl, _, rfl⟩⟩
    have I4 : Inv X pins σ (upd H s.heap.objs.size (.tup [.int (i : Nat), x])) { s with heap := h4, toks := tk + 1 } :=
      I.turnedNew (ch := [e, j]) (fun b ob hb q => (sb.2 b fun z => hb (by simp [z])).trans (kp b ob (fun z => hb (by simp [z])) (fun z => hb (by simp [z])) q)) fps (Nat.le_refl _) ok4
    refine ⟨.ref s.heap.objs.size, _, I4, rfl, ⟨_, x, rfl, I.hok.fresh (Nat.le_refl _), rfl, fun ys hy => ?_⟩, ⟨⟨u, ?_⟩, at3.1.at fun o q => (sb.2 j ej.symm).trans q, ej⟩, fun b hb => ?_⟩
    · rw [I.tuple_inj hy sq]
      exact hx
    · rw [show ((i + 1 : Nat) : Int) = (i : Int) + 1 by omega]
      exact en4
    · have lb : b < s.heap.objs.size := by
        rcases List.mem_cons.mp hb with z | z
        · rw [z]; exact in_e
        · rw [List.mem_singleton.mp z]; exact in_j
      rw [upd_ne (Nat.ne_of_lt lb)]
      exact (fps b hb).1
  done := by
    intro X eP eW eK calm i pins s σ H E I fps st go
    subst eP eW eK
    obtain ⟨⟨o1, h1⟩, h2, ej⟩ := st
    obtain ⟨xs, sq, le⟩ := go
    obtain ⟨its, rv, tp, _⟩ := I.tuple sq
    have ll := rv.length
    obtain ⟨f0, f1, f2, f3, f4, f5⟩ := fps j (by simp)
    exact enum_end (I.ok.hd calm) h1 h2 tp (by rw [List.getElem?_toArray]; exact List.getElem?_eq_none (by omega)) fun h' eb => ⟨rfl, I.turned (t' := s.toks) (fun b o hb q => eb b o hb q) f0 f1 f3 f4 f5⟩
  self := fun A i s Q E st h => let ⟨⟨_, he⟩, _⟩ := st; wpAny_pyIter_enum he h
/-- what is a list or a tuple, by any walk that goes through it -/
def iEnumA (K : PySem.W.Frag) (ta : TA) : TI := fun σ H R => ta σ H fun vs H1 => ∃ a xs, vs = [.ref a] ∧ (SqL K H1 a xs ∨ SqT K H1 a xs) ∧ ∀ J G, Walk J xs.length G (YPair (fun i => some (.int (i : Nat))) (fun i => xs[i]?)) → (∀ H, Same H1 H → G H) → R J H1
theorem walk_enumT {K : PySem.W.Frag} {a : Addr} {xs : List V} : Walk (IteT K a) xs.length (fun H => SqT K H a xs) (YPair (fun i => some (.int (i : Nat))) (fun i => xs[i]?)) := by
  refine ⟨fun i _ lt q => ⟨xs, xs[i], q, List.getElem?_eq_getElem lt⟩, fun _ q => ⟨xs, q, Nat.le_refl _⟩, fun i H v H' _ q y => ?_⟩
  obtain ⟨T, x, h1, h2, h3, h4⟩ := y
  exact ⟨T, .int (i : Nat), x, h1, h2, h3, rfl, h4 xs q⟩
theorem seqL {K : PySem.W.Frag} {H H' : Hp} {a : Addr} {xs : List V} (s : Same H H') (h : SqL K H a xs) : SqL K H' a xs := s.seq h
theorem seqT {K : PySem.W.Frag} {H H' : Hp} {a : Addr} {xs : List V} (s : Same H H') (h : SqT K H a xs) : SqT K H' a xs := WR.Same.seqT s h
theorem pi_enumA {X : Cx} {K : PySem.W.Frag} {e : Expr} {ta : TA} {p pos tpos : Pos} {elts : List Expr} {kk : Nat} (hK : X.K = K) (hg : Gl X "enumerate") (hm : X.mg "enumerate" = none) (ha : PA X [e] ta) (one : starEach [e] X.env = [(false, eval e X.env)] := by rfl) :
    PI X (.Tuple elts kk tpos) (.Call (.Name "enumerate" p) [e] [] pos) (iEnumA K ta) := by
  subst hK
  refine ⟨fun pins s σ H R I h => ?_⟩
  refine Call_ (ld_blt I hg hm boot_enumerate (PyProof.Rows.callWith_type1 (thn (ha.run pos pins s σ H _ I h) fun us s1 ⟨vs, H1, I1, rv, q1⟩ => ?_) one rfl))
  obtain ⟨a, xs, ex, sq, k⟩ := q1
  subst ex
  obtain ⟨u, rfl, ru⟩ := vals1 rv
  cases ru
  have free : ∀ b ∈ [s1.heap.objs.size + 1, s1.heap.objs.size], FpOk X pins H1 b := fun b hb => by
    have ge : s1.heap.objs.size ≤ b := by
      rcases List.mem_cons.mp hb with z | z
      · rw [z]; exact Nat.le_succ _
      · rw [List.mem_singleton.mp z]; exact Nat.le_refl _
    exact I1.fpOk ge (I1.hok.fresh ge)
  rcases sq with sq | sq
  · obtain ⟨its, rw_, pl, _⟩ := I1.list sq
    refine call_enumerate_list pl.isList fun h2 en at_ _ kp => wpAny_pyIter_enum en ?_
    exact ⟨s1.heap.objs.size + 1, [s1.heap.objs.size + 1, s1.heap.objs.size], _, _, H1, rfl, I1.kept (t' := s1.toks) kp, turn_enum a (s1.heap.objs.size + 1) s1.heap.objs.size, ⟨⟨.none, en⟩, at_, Nat.succ_ne_self _⟩, free, k _ _ walk_enum fun _ z => seqL z sq⟩
  · obtain ⟨its, rw_, tp, _⟩ := I1.tuple sq
    refine call_enum (begins_tuple a its.toArray) tp fun sz en => wpAny_pyIter_enum en ?_
    have kp : ∀ b o, s1.heap.get? b = some o → ((s1.heap.push { cls := .type "tuple_iterator", data := .fields #[.ref a, .int 0 0] }).push (enObj s1.heap.objs.size)).get? b = some o := fun b o z => Heap.get?_push_of_some _ (Heap.get?_push_of_some _ z)
    exact ⟨s1.heap.objs.size + 1, [s1.heap.objs.size + 1, s1.heap.objs.size], _, _, H1, rfl, I1.kept (t' := s1.toks) kp, turn_enumT a (s1.heap.objs.size + 1) s1.heap.objs.size, ⟨⟨.none, en⟩, ⟨_, Heap.get?_push_of_some _ (Heap.get?_push_size _ rfl), rfl, rfl⟩, Nat.succ_ne_self _⟩, free, k _ _ walk_enumT fun _ z => seqT z sq⟩
/-- a walk through what is a list or a tuple -/
def iSeqA (K : PySem.W.Frag) (te : TE) : TI := fun σ H R => te σ H fun x H1 => ∃ a xs, x = .ref a ∧ (SqL K H1 a xs ∨ SqT K H1 a xs) ∧ ∀ J G, Walk J xs.length G (YAt xs) → (∀ H, Same H1 H → G H) → R J H1
theorem pi_seqA {X : Cx} {K : PySem.W.Frag} {tg e : Expr} {te : TE} (hK : X.K = K) (he : PE X e te) : PI X tg e (iSeqA K te) := by
  subst hK
  refine ⟨fun pins s σ H R I h => ?_⟩
  refine thn (he.run pins s σ H _ I h) fun v s1 ⟨x, H1, I1, rx, q1⟩ => ?_
  obtain ⟨a, xs, ex, sq, k⟩ := q1
  subst ex
  cases rx
  have free : ∀ b ∈ [s1.heap.objs.size], FpOk X pins H1 b := fun b hb => by
    rw [List.mem_singleton.mp hb]
    exact I1.fpOk (Nat.le_refl _) (I1.hok.fresh (Nat.le_refl _))
  rcases sq with sq | sq
  · obtain ⟨its, _, pl, _⟩ := I1.list sq
    exact wpAny_pyIter_list pl.isList ⟨s1.heap.objs.size, [s1.heap.objs.size], _, _, H1, rfl, I1.kept (t' := s1.toks) fun b o e => Heap.get?_push_of_some _ e, turn_list a _, ⟨_, Heap.get?_push_size _ rfl, rfl, rfl⟩, free, k _ _ walk_list fun _ z => seqL z sq⟩
  · obtain ⟨its, _, pl, _⟩ := I1.tuple sq
    exact wpAny_pyIter_tuple (show s1.heap.IsTuple a its.toArray from pl) ⟨s1.heap.objs.size, [s1.heap.objs.size], _, _, H1, rfl, I1.kept (t' := s1.toks) fun b o e => Heap.get?_push_of_some _ e, turn_tuple a _, ⟨_, Heap.get?_push_size _ rfl, rfl, rfl⟩, free, k _ _ walk_tup fun _ z => seqT z sq⟩
/-- an item of what is a list or a tuple -/
def rIxA (K : PySem.W.Frag) : R2 := fun x y H Q => ∃ p xs i v, x = .ref p ∧ y = .int i ∧ (SqL K H p xs ∨ SqT K H p xs) ∧ atI xs i = some v ∧ Q v H
theorem ixA {X : Cx} {K : PySem.W.Frag} (hK : X.K = K) : IxR X (rIxA K) := by
  subst hK
  intro value slice pins s σ H x y v u Q I rx ry ⟨p, xs, i, w, e1, e2, sq, at_, q⟩ hs
  rcases sq with sq | sq
  · exact ix_list value slice pins s σ H x y v u Q I rx ry ⟨p, xs, i, w, e1, e2, sq, at_, q⟩ hs
  · exact ix_tup value slice pins s σ H x y v u Q I rx ry ⟨p, xs, i, w, e1, e2, sq, at_, q⟩ hs
end WE
set_option Elab.async false
set_option linter.all false
set_option maxRecDepth 100000
set_option maxHeartbeats 1000000
namespace W14
open PySem L2 PySem.Spec PyProof.Rows WR WB WE
/-! ### the corners of a sewing -/
/-- the place behind the mate of a place -/
def nxt (nx mt : List Int) (p : Nat) : Nat := (nx.getD (mt.getD p 0).toNat 0).toNat
/-- on from place to place until one was seen: all that were seen, and those of this corner -/
def orb (nx mt : List Int) : Nat → List Nat → Nat → List Nat → List Nat × List Nat
  | 0, s, _, c => (s, c)
  | k + 1, s, p, c => if p ∈ s then (s, c) else orb nx mt k (p :: s) (nxt nx mt p) (c ++ [p])
def crn (nx mt : List Int) (n : Nat) : Nat → List Nat × List (List Nat)
  | 0 => ([], [])
  | i + 1 => ((orb nx mt (n + 1) (crn nx mt n i).1 i []).1, if (orb nx mt (n + 1) (crn nx mt n i).1 i []).2 = [] then (crn nx mt n i).2 else (crn nx mt n i).2 ++ [(orb nx mt (n + 1) (crn nx mt n i).1 i []).2])
def nats (c : List Nat) : List Int := c.map fun (x : Nat) => (x : Int)
def SeenAt (w : World) (H : Hp) (a : Addr) (s : List Nat) : Prop := ∃ f : Int → Bool, H a = some (SetO w a f s.length) ∧ ∀ j, f j = true ↔ j ∈ nats s
/-- seen places: each once, none too great -/
def SeenOk (n : Nat) (s : List Nat) : Prop := s.Nodup ∧ ∀ x ∈ s, x < n
theorem SeenOk.lt {n : Nat} {s : List Nat} (h : SeenOk n s) {p : Nat} (hp : p < n) (hn : p ∉ s) : s.length < n := by
  have := L2.nat_nodup_len (p :: s) (List.range n) (List.nodup_cons.mpr ⟨hn, h.1⟩) fun x hx => by
    rcases List.mem_cons.mp hx with rfl | hx
    · exact List.mem_range.mpr hp
    · exact List.mem_range.mpr (h.2 x hx)
  rw [List.length_range, List.length_cons] at this
  omega
theorem nxF_rng : ∀ (ws : List (List Int)) (f : Nat), (∀ w ∈ ws, w ≠ []) → ∀ z ∈ nxF f ws, 0 ≤ z ∧ z < ((f + ws.flatten.length : Nat) : Int)
  | [], _, _, z, hz => nomatch hz
  | w :: r, f, hne, z, hz => by
    unfold nxF at hz
    rw [List.flatten_cons, List.length_append]
    rcases List.mem_append.mp hz with hz | hz
    · obtain ⟨t, ht, rfl⟩ := List.mem_map.mp hz
      have hl : 0 < w.length := List.length_pos_iff.mpr (hne w List.mem_cons_self)
      have := Nat.mod_lt (t + 1) hl
      omega
    · have := nxF_rng r (f + w.length) (fun u hu => hne u (List.mem_cons_of_mem _ hu)) z hz
      omega
def CornAt (K : PySem.W.Frag) (H : Hp) (a : Addr) (cs : List (List Nat)) : Prop := ∃ vs, SqB K H a vs ∧ All2 (fun v c => ∃ q, v = V.ref q ∧ SqB K H q (iv (nats c))) vs cs
abbrev sCorn : Stmt := top 56
abbrev nCorn : List Str := ["rims", "mates", "corners", "seen", "start", "corner", "place"]
def MatesOk (n : Nat) (mt : List Int) : Prop := mt.length = n ∧ ∀ z ∈ mt, 0 ≤ z ∧ z < (n : Int)
def spCorn (K : PySem.W.Frag) (C CR : Addr) : Sp := fun vs H Q _ => ∃ (p m : Addr) (xs : List Addr) (ws : List (List Int)) (mt : List Int), vs = [.ref p, .ref m] ∧ RimsAt K C CR H p xs ws ∧ RimOk ws ∧ SqE K H m (iv mt) ∧ MatesOk ws.flatten.length mt ∧
  ∀ q H', Same H H' → CornAt K H' q (crn (nxF 0 ws) mt ws.flatten.length ws.flatten.length).2 → Q (.ref q) H'
theorem SqB.keptL {K : PySem.W.Frag} {H H' : Hp} {l q : Addr} {vs xs : List V} (hl : H l = some (.lst vs)) (d : Kept l H H') (h : SqB K H q xs) : SqB K H' q xs := by
  refine ⟨SqT.keptL hl d h.sq, ?_⟩
  obtain ⟨o, u, e, z⟩ := h.bare
  refine ⟨o, u, d _ _ (fun c => ?_) e, z⟩
  subst c
  rw [hl] at e
  cases e
theorem SqB.keptS {K : PySem.W.Frag} {w : World} {H H' : Hp} {a q : Addr} {f : Int → Bool} {n : Nat} {xs : List V} (hs : H a = some (SetO w a f n)) (d : Kept a H H') (h : SqB K H q xs) : SqB K H' q xs := by
  obtain ⟨o, u, e, z⟩ := h.bare
  have nq : q ≠ a := fun c => by
    rw [c, hs] at e
    cases e
  refine ⟨?_, ⟨o, u, d _ _ nq e, z⟩⟩
  exact h.sq.elim (fun r => .inl (r.elim (fun r => .inl (d _ _ nq r)) fun ⟨o, r⟩ => .inr ⟨o, d _ _ nq r⟩)) fun r => .inr r
theorem orb_in {nx mt : List Int} {k p : Nat} {s c : List Nat} (hk : 0 < k) (h : p ∈ s) : orb nx mt k s p c = (s, c) := by
  cases k with
  | zero => exact absurd hk (by decide)
  | succ k => unfold orb; rw [if_pos h]
theorem orb_out {nx mt : List Int} {k p : Nat} {s c : List Nat} (h : p ∉ s) : orb nx mt (k + 1) s p c = orb nx mt k (p :: s) (nxt nx mt p) (c ++ [p]) := by
  conv => lhs; unfold orb
  rw [if_neg h]
section
variable {P : Program} {w : World} {K : PySem.W.Frag} {mg : Str → Option Value} {base : Heap} {C CR : Addr}
theorem scCorn : FnScope nCorn ["rims", "mates"] (defScope sCorn) := ⟨rfl, rfl, rfl, by decide +kernel, rfl, by decide +kernel, by decide +kernel⟩
theorem ok_corn {f : Addr} {fd : FuncData} (F : Fun K "corners_of" "corners_of" sCorn f fd) (TC : TxRC K mg CR) (TA : TxA mg) (R : TxR mg) (hset : mg "set" = none) : FnOk P w K mg base CX0 1 f fd ["rims", "mates"] (spCorn K C CR) := by
  refine F.ok scCorn (fun vs H Q E h => ?_) (fun cdv A outer s H vs Q E hr h => ?_)
  · obtain ⟨p, m, xs, ws, mt, rfl, _⟩ := h
    rfl
  · obtain ⟨p, m, xs, ws, mt, rfl, R1, ⟨l1, l4, hne, l24, hl, hb⟩, hM, ⟨lm, hm⟩, k⟩ := h
    refine ⟨_, pss_cons (ps_set (i := 2) scCorn.nd rfl (Or.inl rfl) (pe_lst pa_nil))
      (pss_cons (ps_set (i := 3) scCorn.nd rfl (Or.inl rfl) (pe_callTy0 cr_set0 (by rfl) hset (by decide +kernel)))
      (pss_cons (ps_for PassesOwn.never rfl (pi_range1 (by rfl) R.range (pa_cons (pe_fld (pv 0) rfl) pa_nil)) (pg_name (i := 4) scCorn.nd rfl (Or.inl rfl))
        (pss_cons (ps_set (i := 5) scCorn.nd rfl (Or.inl rfl) (pe_lst pa_nil))
        (pss_cons (ps_set (i := 6) scCorn.nd rfl (Or.inl rfl) (pv 4))
        (pss_cons (ps_while PassesOwn.never (pt_cmpR or_snotin (pv 6) (pv 3) (by rfl))
          (pss_cons (ps_expr (pe_sadd (pv 3) (pa_cons (pv 6) pa_nil)))
          (pss_cons (ps_expr (pe_bm PySem.F.plainAttrs_list PySem.F.slot_list_append PySem.F.type_list_append mt_append (pv 5) (pa_cons (pv 6) pa_nil)))
          (pss_one (ps_set (i := 6) scCorn.nd rfl (Or.inl rfl) (pe_ix ix_tup (pe_fld (pv 0) rfl) (pe_ix (ixA (K := K) rfl) (pv 1) (pv 6) (fun _ _ => rfl)) (fun _ _ => rfl)))))))
        (pss_one (ps_if (pt_truth (pv 5) (by intro _; rfl)) (pss_one (ps_expr (pe_bm PySem.F.plainAttrs_list PySem.F.slot_list_append PySem.F.type_list_append mt_append (pv 2) (pa_cons (pe_callTy call_tupB (by rfl) TA.tuple (by decide +kernel) (pa_cons (pv 5) pa_nil)) pa_nil)))) pss_nil))))))
      (pss_one (ps_ret (pe_callTy call_tupB (by rfl) TA.tuple (by decide +kernel) (pa_cons (pv 2) pa_nil)))))), ?_⟩
    obtain ⟨dx, tw, tl, th, tn, h1, h2, h3, h4, h5, h6⟩ := id R1
    obtain ⟨n, en⟩ : ∃ n, n = ws.flatten.length := ⟨_, rfl⟩
    rw [← en] at lm hm k l24
    have hnx : (nxF 0 ws).length = n := by rw [nxF_len, en]
    refine ⟨Nat.zero_le _, fun lc hlc => ?_⟩
    have s1 := same_upd (o := .lst []) hlc
    refine ⟨rfl, fun ss hss => ?_⟩
    have s2 := s1.trans (same_upd (o := SetO w ss (fun _ => false) 0) hss)
    have nss : H ss = none := s1.free hss
    have ncs : lc ≠ ss := fun e => by rw [← e, upd_same] at hss; cases hss
    have gc : L2.upd (L2.upd H lc (.lst [])) ss (SetO w ss (fun _ => false) 0) lc = some (.lst []) := by rw [upd_ne ncs, upd_same]
    have gs : L2.upd (L2.upd H lc (.lst [])) ss (SetO w ss (fun _ => false) 0) ss = some (SetO w ss (fun _ => false) 0) := upd_same
    refine ⟨_, rfl, p, CR, dx, _, _, rfl, s2 _ _ h1, TC.cl, TC.n3, rf_many, _, rfl, by omega, by omega, ?_⟩
    rw [← en]
    refine for_range (lo := 0) (n := ((n : Nat) : Int).toNat) (fun i σ H' => ∃ (v4 v5 v6 : Option V) (vs : List V), σ = [some (.ref p), some (.ref m), some (.ref lc), some (.ref ss), v4, v5, v6] ∧ Same H H' ∧ SeenAt w H' ss (crn (nxF 0 ws) mt n i).1 ∧ SeenOk n (crn (nxF 0 ws) mt n i).1 ∧ H' lc = some (.lst vs) ∧ vs.length ≤ i ∧
        All2 (fun v c => ∃ q, v = V.ref q ∧ SqB K H' q (iv (nats c))) vs (crn (nxF 0 ws) mt n i).2)
      ⟨none, none, none, [], rfl, s2, ⟨fun _ => false, gs, fun j => by simp [crn, nats]⟩, ⟨List.nodup_nil, fun _ h => nomatch h⟩, gc, Nat.le_refl _, .nil⟩ ?_ ?_
    · rintro i σ H3 hi ⟨v4, v5, v6, vs, rfl, sm, hse, hso, hlcs, lvs, hcs⟩
      rw [Int.toNat_natCast] at hi
      refine ⟨Nat.zero_le _, fun lk hlk => ?_⟩
      have kss : ss ≠ lk := fun e => by
        obtain ⟨f, hf, _⟩ := hse
        rw [e, hlk] at hf
        cases hf
      have nlk : H lk = none := sm.free hlk
      refine ⟨_, rfl, ?_⟩
      refine while_by (fun σ H4 => ∃ (k pl : Nat) (s c : List Nat), σ = [some (.ref p), some (.ref m), some (.ref lc), some (.ref ss), some (.int (0 + (i : Nat))), some (.ref lk), some (.int (pl : Int))] ∧ Kept ss H3 H4 ∧ SeenAt w H4 ss s ∧ SeenOk n s ∧ pl < n ∧ H4 lk = some (.lst (iv (nats c))) ∧ c.length ≤ s.length ∧
          orb (nxF 0 ws) mt k s pl c = orb (nxF 0 ws) mt (n + 1) (crn (nxF 0 ws) mt n i).1 i [] ∧ n - s.length < k)
        (fun _ H4 => match H4 lk with | some (.lst xs) => n + 1 - xs.length | _ => 0) ?_ ?_ ?_
      · refine ⟨n + 1, i, (crn (nxF 0 ws) mt n i).1, [], by rw [Int.zero_add]; rfl, fun b o nb e => by rw [upd_ne (ne_of_none e hlk)]; exact e, ?_, hso, hi, upd_same, Nat.zero_le _, rfl, by omega⟩
        obtain ⟨f, hf, hj⟩ := hse
        exact ⟨f, by rw [upd_ne kss]; exact hf, hj⟩
      · rintro σ H4 ⟨kk, pl, s, c, rfl, kp, ⟨f, hf, hj⟩, hok, hpl, hL, lcs, eo, hkk⟩
        have sm4 : Same H H4 := fun b o e => kp b o (fun z => by rw [z, nss] at e; cases e) (sm _ _ e)
        refine ⟨_, rfl, _, rfl, (pl : Int), ss, f, s.length, rfl, rfl, hf, _, rfl, ?_⟩
        have fpl : f (pl : Int) = true ↔ pl ∈ s := by
          rw [hj]
          unfold nats
          rw [List.mem_map]
          constructor
          · rintro ⟨x, hx, e⟩
            have : x = pl := by omega
            exact this ▸ hx
          · intro h
            exact ⟨pl, h, rfl⟩
        by_cases hin : pl ∈ s
        · refine iteF' (by rw [fpl.mpr hin]; rfl) ?_
          rw [orb_in (by omega) hin] at eo
          have f1 : (crn (nxF 0 ws) mt n (i + 1)).1 = s := by
            show (orb (nxF 0 ws) mt (n + 1) (crn (nxF 0 ws) mt n i).1 i []).1 = s
            rw [← eo]
          have f2 : (crn (nxF 0 ws) mt n (i + 1)).2 = if c = [] then (crn (nxF 0 ws) mt n i).2 else (crn (nxF 0 ws) mt n i).2 ++ [c] := by
            show (if (orb (nxF 0 ws) mt (n + 1) (crn (nxF 0 ws) mt n i).1 i []).2 = [] then _ else _ ++ [(orb (nxF 0 ws) mt (n + 1) (crn (nxF 0 ws) mt n i).1 i []).2]) = _
            rw [← eo]
          have hlc4 := kp _ _ ncs hlcs
          obtain ⟨f0, hf0, _⟩ := hse
          have hcs4 : All2 (fun v c => ∃ q, v = V.ref q ∧ SqB K H4 q (iv (nats c))) vs (crn (nxF 0 ws) mt n i).2 := hcs.imp fun _ _ ⟨a, e, r⟩ => ⟨a, e, SqB.keptS hf0 kp r⟩
          refine ⟨_, rfl, _, .inl ⟨_, SqL.of hL, rfl⟩, ?_⟩
          by_cases hc : c = []
          · subst hc
            refine iteF ?_
            refine ⟨_, _, _, vs, rfl, sm4, ?_, ?_, hlc4, by omega, ?_⟩
            · rw [f1]
              exact ⟨f, hf, hj⟩
            · rw [f1]
              exact hok
            · rw [f2, if_pos rfl]
              exact hcs4
          · have hne' : (iv (nats c)).isEmpty = false := by
              cases c with
              | nil => exact absurd rfl hc
              | cons => rfl
            refine iteT' (by rw [hne']; rfl) ?_
            refine ⟨_, rfl, .inl ⟨rfl, _, SqL.of hlc4⟩, _, rfl, lk, _, rfl, .inl ⟨SqL.of hL, fun q H5 s5 B5 => ?_⟩⟩
            have hlc5 := s5 _ _ hlc4
            refine ⟨lc, _, _, rfl, rfl, hlc5, Evl.sz_lt (by omega), ?_⟩
            have kc : Kept lc H5 (L2.upd H5 lc (.lst (vs ++ [.ref q]))) := Kept.upd
            refine ⟨_, _, _, vs ++ [.ref q], rfl, same_put (sm4.trans s5) hlc, ?_, ?_, upd_same, by rw [List.length_append]; show vs.length + 1 ≤ i + 1; omega, ?_⟩
            · rw [f1]
              exact ⟨f, kc _ _ ncs.symm (s5 _ _ hf), hj⟩
            · rw [f1]
              exact hok
            · rw [f2, if_neg hc]
              refine All2.app (hcs4.imp fun _ _ ⟨a, e, r⟩ => ⟨a, e, SqB.keptL hlc5 kc (SqB.same s5 r)⟩) (.cons ⟨q, rfl, SqB.keptL hlc5 kc B5⟩ .nil)
        · have ff : f (pl : Int) = false := by
            cases e : f (pl : Int) with
            | false => rfl
            | true => exact absurd (fpl.mp e) hin
          have hsl := hok.lt hpl hin
          refine iteT' (by rw [ff]; rfl) ?_
          refine ⟨_, rfl, ⟨ss, f, _, rfl, hf⟩, _, rfl, ss, (pl : Int), f, s.length, rfl, rfl, hf, ?_, ?_⟩
          · exact Nat.lt_of_le_of_lt (show s.length + 1 ≤ 64 by omega) (by decide)
          rw [ff]
          have hL5 : L2.upd H4 ss (SetO w ss (fun j => f j || decide (j = (pl : Int))) (s.length + 1)) lk = some (.lst (iv (nats c))) := by
            rw [upd_ne kss.symm]
            exact hL
          have kp5 : Kept ss H3 (L2.upd H4 ss (SetO w ss (fun j => f j || decide (j = (pl : Int))) (s.length + 1))) := kp.trans Kept.upd
          have hs5 : L2.upd H4 ss (SetO w ss (fun j => f j || decide (j = (pl : Int))) (s.length + 1)) ss = some (SetO w ss (fun j => f j || decide (j = (pl : Int))) (s.length + 1)) := upd_same
          obtain ⟨H5, e5⟩ : ∃ H5, H5 = L2.upd H4 ss (SetO w ss (fun j => f j || decide (j = (pl : Int))) (s.length + 1)) := ⟨_, rfl⟩
          try dsimp only
          rw [if_neg Bool.false_ne_true]
          show tSeq _ _ _ _ (L2.upd H4 ss (SetO w ss (fun j => f j || decide (j = (pl : Int))) (s.length + 1)))
          rw [← e5]
          rw [← e5] at hL5 kp5 hs5
          refine ⟨_, rfl, .inl ⟨rfl, _, SqL.of hL5⟩, _, rfl, lk, _, _, rfl, rfl, hL5, Evl.sz_lt (by unfold nats; rw [List.length_map, List.length_map]; omega), ?_⟩
          have kp6 : Kept ss H3 (L2.upd H5 lk (.lst (iv (nats c) ++ [.int (pl : Int)]))) := fun b o nb e => by
            rw [upd_ne (ne_of_none e hlk)]
            exact kp5 b o nb e
          have hs6 : L2.upd H5 lk (.lst (iv (nats c) ++ [.int (pl : Int)])) ss = some (SetO w ss (fun j => f j || decide (j = (pl : Int))) (s.length + 1)) := by
            rw [upd_ne kss]
            exact hs5
          have hL6 : L2.upd H5 lk (.lst (iv (nats c) ++ [.int (pl : Int)])) lk = some (.lst (iv (nats (c ++ [pl])))) := by
            rw [upd_same]
            unfold iv nats
            rw [List.map_append, List.map_append]
            rfl
          obtain ⟨H6, e6⟩ : ∃ H6, H6 = L2.upd H5 lk (.lst (iv (nats c) ++ [.int (pl : Int)])) := ⟨_, rfl⟩
          rw [← e6] at kp6 hs6 hL6 ⊢
          have sm6 : Same H H6 := fun b o e => kp6 b o (fun z => by rw [z, nss] at e; cases e) (sm _ _ e)
          have lpm : pl < mt.length := by omega
          obtain ⟨m0, m1⟩ := hm _ (List.getElem_mem lpm)
          have lmn : mt[pl].toNat < (nxF 0 ws).length := by omega
          obtain ⟨x0, x1⟩ := nxF_rng ws 0 hne _ (List.getElem_mem lmn)
          rw [Nat.zero_add, ← en] at x1
          have enx : nxt (nxF 0 ws) mt pl = ((nxF 0 ws)[mt[pl].toNat]).toNat := by
            unfold nxt
            rw [List.getD_eq_getElem?_getD, List.getD_eq_getElem?_getD, List.getElem?_eq_getElem lpm]
            show ((nxF 0 ws)[mt[pl].toNat]?.getD 0).toNat = _
            rw [List.getElem?_eq_getElem lmn]
            rfl
          have em : mt[pl] = ((mt[pl].toNat : Nat) : Int) := by omega
          refine ⟨_, rfl, p, CR, dx, _, _, rfl, sm6 _ _ h1, TC.cl, TC.n7, rf_nexts, _, rfl, _, rfl, m, _, _, _, rfl, rfl, hM.same sm6, atI_nat (iv_get (List.getElem?_eq_getElem lpm)), tn, _, _, _, rfl, rfl, (SqB.same sm6 h6).sq, (by rw [em]; exact atI_nat (iv_get (List.getElem?_eq_getElem lmn))), ?_⟩
          refine at_set ?_
          obtain ⟨k', rfl⟩ : ∃ k', kk = k' + 1 := ⟨kk - 1, by omega⟩
          have eo' := (orb_out hin).symm.trans eo
          have ex : ((nxt (nxF 0 ws) mt pl : Nat) : Int) = (nxF 0 ws)[mt[pl].toNat] := by
            rw [enx]
            omega
          refine ⟨⟨k', nxt (nxF 0 ws) mt pl, pl :: s, c ++ [pl], by rw [ex]; rfl, kp6, ⟨_, hs6, fun j => ?_⟩, ⟨List.nodup_cons.mpr ⟨hin, hok.1⟩, fun x hx => ?_⟩, by omega, hL6, ?_, eo', ?_⟩, ?_⟩
          · rw [Bool.or_eq_true, decide_eq_true_eq, hj]
            show _ ↔ j ∈ (pl : Int) :: nats s
            rw [List.mem_cons]
            exact or_comm
          · rcases List.mem_cons.mp hx with rfl | hx
            · exact hpl
            · exact hok.2 x hx
          · rw [List.length_append, List.length_cons]
            show c.length + 1 ≤ s.length + 1
            omega
          · rw [List.length_cons]
            omega
          · show (match H6 lk with | some (.lst xs) => n + 1 - xs.length | _ => 0) < (match H4 lk with | some (.lst xs) => n + 1 - xs.length | _ => 0)
            rw [hL6, hL]
            show n + 1 - (iv (nats (c ++ [pl]))).length < n + 1 - (iv (nats c)).length
            unfold iv nats
            simp only [List.length_map, List.length_append, List.length_cons, List.length_nil]
            omega
      · rintro σ H4 Q Q' hh ⟨v, e1, u, e2, kk, a, S, n', ex, ey, hs, c, ec, q⟩
        exact ⟨v, e1, u, e2, kk, a, S, n', ex, ey, hs, c, ec, hh c H4 q⟩
    · rintro σ H3 ⟨v4, v5, v6, vs, rfl, sm, _, _, hlcs, lvs, hcs⟩
      rw [Int.toNat_natCast] at hcs
      refine ⟨_, rfl, lc, _, rfl, .inl ⟨SqL.of hlcs, fun q H4 s4 B4 => ?_⟩⟩
      exact k q H4 (sm.trans s4) ⟨vs, B4, hcs.imp fun _ _ ⟨a, e, r⟩ => ⟨a, e, SqB.same s4 r⟩⟩
end
end W14
set_option Elab.async false
set_option linter.all false
set_option maxRecDepth 100000
set_option maxHeartbeats 1000000
namespace W14
open PySem L2 PySem.Spec PyProof.Rows WR WB WE
/-! ### mates that are mates -/
abbrev sAreI : Stmt := top 20
abbrev sPaired : Stmt := top 22
abbrev sAreM : Stmt := top 55
abbrev sNeedR : Stmt := top 47
/-- each place and its mate are mates of one another, and not the same -/
def PairOk (n : Nat) (mt : List Int) : Prop := MatesOk n mt ∧ ∀ i (h : i < mt.length), mt[i] ≠ (i : Int) ∧ mt[mt[i].toNat]? = some (i : Int)
/-- mates bear contrary letters -/
def MatOk (ls mt : List Int) : Prop := PairOk ls.length mt ∧ ∀ i (h : i < mt.length), ls.getD mt[i].toNat 0 = -ls.getD i 0
def spAreI (K : PySem.W.Frag) : Sp := fun vs H Q _ => ∃ (a : Addr) (ns : List Int), vs = [.ref a] ∧ SqE K H a (iv ns) ∧ ns.length ≤ 1000 ∧ ∀ H', Same H H' → Q (.bl true) H'
def spPaired (K : PySem.W.Frag) : Sp := fun vs H Q _ => ∃ (a : Addr) (mt : List Int) (n : Nat), vs = [.ref a, .int (n : Int)] ∧ SqE K H a (iv mt) ∧ n ≤ 1000 ∧ PairOk n mt ∧ ∀ H', Same H H' → Q (.bl true) H'
def spAreM (K : PySem.W.Frag) : Sp := fun vs H Q _ => ∃ (l a : Addr) (ls mt : List Int), vs = [.ref l, .ref a] ∧ SqB K H l (iv ls) ∧ SqE K H a (iv mt) ∧ ls.length ≤ 1000 ∧ MatOk ls mt ∧ ∀ H', Same H H' → Q (.bl true) H'
def spNeedR (K : PySem.W.Frag) (C CR : Addr) : Sp := fun vs H Q _ => ∃ (p : Addr) (z : V) (xs : List Addr) (ws : List (List Int)), vs = [.ref p, z] ∧ RimsAt K C CR H p xs ws ∧ Q .non H
theorem nx_ret_lc {r : List V → Hp → VK → Prop} {wi : TI} {g : TG} {tt : TT} {te : TE} {vs : List Nat} {D : Ends} {σ : L2.St} {H : Hp} {b1 b2 : L2.St → Hp → Prop} {rt : VK}
    (h : wi σ H fun J H1 => tLc (fun _ H R => R J H) g tt te vs σ H1 fun y H2 => r [y] H2 D.rt) : tNext { nx := tRet (tCB r (tCons (tLc wi g tt te vs) tNil)) D, rt := rt, bk := b1, ct := b2 } σ H := h
theorem lcE {J : It} {G : Hp → Prop} {xs : List V} (wk : Walk J xs.length G (YPair (fun i => some (.int (i : Nat))) (fun i => xs[i]?))) {g : TG} {tt : TT} {te : TE} {vs : List Nat} {σ : L2.St} {H1 : Hp} {Q : VK} (f : Nat → Bool) (v : Nat → V) (hz : xs.length < 40000) (hG : ∀ H, Same H1 H → G H)
    (hs : ∀ i x, xs[i]? = some x → ∀ H, Same H1 H → ∀ T, H T = none → ∀ (Qy : V → Hp → Prop) (Qn : Hp → Prop), (f i = true → ∀ H', Same H H' → Qy (v i) H') → (f i = false → ∀ H', Same H H' → Qn H') →
      g (.ref T) (wipe σ vs) (L2.upd H T (.tup [.int (i : Nat), x])) fun σ2 H2 => wipe σ2 vs = wipe σ vs ∧ tt σ2 H2 fun b H3 => if b = true then te σ2 H3 Qy else Qn H3)
    (hd : ∀ (D : Addr) H', H1 D = none → Same H1 H' → H' D = some (.lst (((List.range xs.length).filter f).map v)) → Q (.ref D) H') : tLc (fun _ H R => R J H) g tt te vs σ H1 Q := by
  intro D hD
  refine lc_it wk (fun i H => Same H1 H ∧ H D = some (.lst (((List.range i).filter f).map v))) ⟨fun b o e => by rw [upd_ne (ne_of_none e hD)]; exact e, upd_same⟩ (fun i H _ q => hG _ q.1) ?_ ?_
  · rintro i x H H' hi q ⟨T, y1, y2, rfl, hT, rfl, e1, hx⟩
    cases e1
    refine hs i y2 hx H q.1 T hT _ _ (fun hf H2 s2 => ⟨_, s2 _ _ q.2, ?_, ?_, ?_⟩) (fun hf H2 s2 => ⟨fun b o e => s2 b o (q.1 b o e), ?_⟩)
    · refine Evl.sz_lt ?_
      rw [List.length_map]
      have := List.length_filter_le f (List.range i)
      rw [List.length_range] at this
      omega
    · intro b o e
      rw [upd_ne (ne_of_none e hD)]
      exact s2 b o (q.1 b o e)
    · rw [upd_same, List.range_succ, List.filter_append, List.map_append, List.filter_cons, if_pos hf]
      rfl
    · rw [List.range_succ, List.filter_append, List.filter_cons, if_neg (by rw [hf]; decide)]
      show H2 D = some (.lst (((List.range i).filter f ++ []).map v))
      rw [List.append_nil]
      exact s2 _ _ q.2
  · intro H q
    exact hd D H hD q.1 q.2
theorem ixt {X : Cx} {K : PySem.W.Frag} (h : X.K = K) : IxR X (rIxT K) := h ▸ ix_tup
section
variable {P : Program} {w : World} {K : PySem.W.Frag} {mg : Str → Option Value} {base : Heap} {C CR : Addr}
theorem scNeedR : FnScope ["value", "part"] ["value", "part"] (defScope sNeedR) := ⟨rfl, rfl, rfl, by decide +kernel, rfl, by decide +kernel, by decide +kernel⟩
theorem ok_needR {f : Addr} {fd : FuncData} (F : Fun K "need_rims" "need_rims" sNeedR f fd) (T : TxW K mg C) (TC : TxRC K mg CR) : FnOk P w K mg base CX0 1 f fd ["value", "part"] (spNeedR K C CR) := by
  refine F.ok scNeedR (fun vs H Q E h => ?_) (fun cdv A outer s H vs Q E hr h => ?_)
  · obtain ⟨p, z, xs, ws, rfl, _⟩ := h
    rfl
  · obtain ⟨p, z, xs, ws, rfl, R1, k⟩ := h
    refine ⟨_, pss_one (ps_if (pt_not (pt_val (pe_callB call_isi (by rfl) T.isin (by decide +kernel) (pa_cons (pv 0) (pa_cons (pe_glob (v := .ref CR) (by rfl) TC.mgR rfl) pa_nil))))) (pss_one ps_never) pss_nil), ?_⟩
    exact ⟨_, rfl, _, _, _, _, _, rfl, .own CR, R1.tyx T TC, kit_self CR, _, rfl, iteF k⟩
theorem scAreI : FnScope ["value", "part"] ["value"] (defScope sAreI) := ⟨rfl, rfl, rfl, by decide +kernel, rfl, by decide +kernel, by decide +kernel⟩
theorem ok_areI {f : Addr} {fd : FuncData} (F : Fun K "are_integers" "are_integers" sAreI f fd) (hall : mg "all" = none) (GL : Cal P w K mg base "is_listed" 1 ["value"] (spListE K)) (GI : Cal P w K mg base "is_integer" 1 ["value"] spIsInt) : FnOk P w K mg base CX0 2 f fd ["value"] (spAreI K) := by
  refine F.ok scAreI (fun vs H Q E h => ?_) (fun cdv A outer s H vs Q E hr h => ?_)
  · obtain ⟨a, ns, rfl, _⟩ := h
    rfl
  · obtain ⟨a, ns, rfl, hA, ln, k⟩ := h
    refine ⟨_, pss_one (ps_ret (pe_and (pe_cal GL hr (by decide) (by rfl) (pa_cons (pv 0) pa_nil)) (pe_one (pe_callB (cr_all rfl) (by rfl) hall (by decide +kernel) (pa_cons (pe_lc (own := [("part", 1)]) (g := gName 1) (tt := tYes) rfl scAreI.nd (pi_seqA (K := K) rfl (pv 0))
      (blkOk_by (N := ["value", "part"]) (sc := defScope sAreI) (by decide +kernel)) (fun _ _ _ _ _ => pg_name (i := 1) scAreI.nd rfl (Or.inl rfl)) (fun _ _ _ _ _ => pts_nil)
      (fun _ _ _ _ _ => pe_cal GI hr (by decide) (by rfl) (pa_cons (pv 1) pa_nil))) pa_nil))))), ?_⟩
    refine ⟨_, rfl, a, _, rfl, hA, fun H1 s1 => ⟨_, rfl, iteT ?_⟩⟩
    refine cb_lc ?_
    refine ⟨_, rfl, a, _, rfl, hA.same s1, fun J G wk hG => ?_⟩
    refine lcp wk (fun _ => true) (fun _ => .bl true) (by rw [List.length_map]; omega) hG ?_ ?_
    · intro x hx H2 s2 Qy Qn ky kn
      obtain ⟨i, hi, rfl⟩ := List.mem_map.mp hx
      exact ⟨rfl, yes_te ⟨_, rfl, .int i, _, rfl, .int i, ky rfl H2 (fun _ _ e => e)⟩⟩
    · intro D H2 hD s2 h2
      refine ⟨D, ns.map fun _ => true, rfl, SqL.of (by
        rw [h2, List.filter_eq_self.mpr (fun _ _ => rfl), List.map_map, List.map_map]
        rfl), ?_⟩
      have e : (ns.map fun _ => true).all id = true := by
        rw [List.all_eq_true]
        intro b hb
        obtain ⟨_, _, rfl⟩ := List.mem_map.mp hb
        rfl
      rw [e]
      exact k H2 (s1.trans s2)
theorem scPaired : FnScope ["value", "many", "place", "mate"] ["value", "many"] (defScope sPaired) := ⟨rfl, rfl, rfl, by decide +kernel, rfl, by decide +kernel, by decide +kernel⟩
theorem ok_paired {f : Addr} {fd : FuncData} (F : Fun K "are_paired" "are_paired" sPaired f fd) (TA : TxA mg) (R : TxR mg) (GI : Cal P w K mg base "are_integers" 2 ["value"] (spAreI K)) : FnOk P w K mg base CX0 3 f fd ["value", "many"] (spPaired K) := by
  refine F.ok scPaired (fun vs H Q E h => ?_) (fun cdv A outer s H vs Q E hr h => ?_)
  · obtain ⟨a, mt, n, rfl, _⟩ := h
    rfl
  · obtain ⟨a, mt, n, rfl, hA, hn, ⟨⟨lm, hm⟩, hp⟩, k⟩ := h
    refine ⟨_, pss_cons (ps_if (PW.pt (pw_or (pt_not (pt_val (pe_cal GI hr (by decide) (by rfl) (pa_cons (pv 0) pa_nil)))) (pw_or1 (pt_cmpR op_ne (pe_callB call_len_seq (by rfl) TA.len PySem.boot_len (pa_cons (pv 0) pa_nil)) (pv 1) (nomark _))))) (pss_one (ps_ret pe_bl)) pss_nil)
      (pss_cons (ps_for PassesOwn.never rfl (pi_enumA (K := K) rfl (by rfl) R.enum (pa_cons (pv 0) pa_nil)) (pg_tup (n := 2) rfl (pgs_cons (pg_name (i := 2) scPaired.nd rfl (Or.inl rfl)) (pgs_cons (pg_name (i := 3) scPaired.nd rfl (Or.inl rfl)) pgs_nil)))
        (pss_one (ps_if (PW.pt (pw_or (pt_not (pt_chain op_le op_lt pe_int (pv 3) (pv 1))) (pw_or (pt_cmpR op_eq (pv 3) (pv 2) (nomark _)) (pw_or1 (pt_cmpR op_ne (pe_ix (ixA (K := K) rfl) (pv 0) (pv 3) (fun _ _ => rfl)) (pv 2) (nomark _)))))) (pss_one (ps_ret pe_bl)) pss_nil)))
      (pss_one (ps_ret pe_bl))), ?_⟩
    refine ⟨_, rfl, a, mt, rfl, hA, by omega, fun H1 s1 => ⟨_, rfl, iteF ?_⟩⟩
    have hA1 := hA.same s1
    refine ⟨_, rfl, a, _, rfl, hA1, _, rfl, rfl, _, rfl, no_ne (decide_eq_true (by rw [List.length_map, lm])) ?_⟩
    refine ⟨_, rfl, a, _, rfl, hA1, fun J G wk hG => ?_⟩
    refine for_it wk (fun i σ H' => ∃ v2 v3 : Option V, σ = [some (.ref a), some (.int (n : Int)), v2, v3] ∧ Same H1 H') ⟨none, none, rfl, Same.refl _⟩ (fun i σ H' _ ⟨_, _, _, s⟩ => hG _ s) ?_ ?_
    · rintro i x σ H3 H4 hi ⟨v2, v3, rfl, sm⟩ ⟨T0, xi, yi, rfl, hT0, rfl, hx, hy⟩
      have hin : i < mt.length := by rw [List.length_map] at hi; exact hi
      obtain rfl := Option.some.inj hx
      have ey : yi = V.int mt[i] := by
        have hy : (iv mt)[i]? = some yi := hy
        rw [List.getElem?_map, List.getElem?_eq_getElem hin] at hy
        exact (Option.some.inj hy).symm
      subst ey
      obtain ⟨z0, z1⟩ := hm _ (List.getElem_mem hin)
      obtain ⟨p0, p1⟩ := hp i hin
      have sT := sm.trans (same_upd (o := .tup [.int (i : Nat), .int mt[i]]) hT0)
      have em : mt[i] = ((mt[i].toNat : Nat) : Int) := by omega
      refine ⟨T0, _, rfl, SqT.of upd_same, rfl, _, _, rfl, _, _, rfl, rfl, ?_⟩
      refine ⟨_, rfl, _, _, rfl, rfl, _, rfl, iteT' (decide_eq_true z0) ⟨_, rfl, _, _, rfl, rfl, _, rfl, no_ne (decide_eq_true z1) ?_⟩⟩
      refine ⟨_, rfl, _, rfl, rfl, _, rfl, iteF' (decide_eq_false fun z => p0 (by injection z)) ?_⟩
      refine ⟨_, rfl, _, rfl, a, _, _, _, rfl, rfl, hA1.same sT, (by rw [em]; exact atI_nat (iv_get p1)), _, rfl, rfl, _, rfl, no_ne (decide_eq_true rfl) ?_⟩
      exact ⟨_, _, rfl, sT⟩
    · rintro σ H' ⟨v2, v3, rfl, sm⟩
      exact k _ (s1.trans sm)
abbrev nAreM : List Str := ["letters", "value", "place", "mate"]
theorem scAreM : FnScope nAreM ["letters", "value"] (defScope sAreM) := ⟨rfl, rfl, rfl, by decide +kernel, rfl, by decide +kernel, by decide +kernel⟩
theorem ok_areM {f : Addr} {fd : FuncData} (F : Fun K "are_mates" "are_mates" sAreM f fd) (TA : TxA mg) (R : TxR mg) (hall : mg "all" = none) (GP : Cal P w K mg base "are_paired" 3 ["value", "many"] (spPaired K)) : FnOk P w K mg base CX0 4 f fd ["letters", "value"] (spAreM K) := by
  refine F.ok scAreM (fun vs H Q E h => ?_) (fun cdv A outer s H vs Q E hr h => ?_)
  · obtain ⟨l, a, ls, mt, rfl, _⟩ := h
    rfl
  · obtain ⟨l, a, ls, mt, rfl, hL, hA, ln, ⟨hp, hm⟩, k⟩ := h
    have lm := hp.1.1
    refine ⟨_, pss_cons (ps_if (pt_not (pt_val (pe_cal GP hr (by decide) (by rfl) (pa_cons (pv 1) (pa_cons (pe_callB call_len_seq (by rfl) TA.len PySem.boot_len (pa_cons (pv 0) pa_nil)) pa_nil))))) (pss_one (ps_ret pe_bl)) pss_nil)
      (pss_one (ps_ret (pe_callB (cr_all rfl) (by rfl) hall (by decide +kernel) (pa_cons (pe_lc (own := [("place", 2), ("mate", 3)]) (g := gTup K 2 (gCons (gName 2) (gCons (gName 3) gNil))) (tt := tYes) rfl scAreM.nd (pi_enumA (K := K) rfl (by rfl) R.enum (pa_cons (pv 1) pa_nil))
        (blkOk_by (N := nAreM) (sc := defScope sAreM) (by decide +kernel)) (fun _ _ _ _ _ => pg_tup (n := 2) rfl (pgs_cons (pg_name (i := 2) scAreM.nd rfl (Or.inl rfl)) (pgs_cons (pg_name (i := 3) scAreM.nd rfl (Or.inl rfl)) pgs_nil))) (fun _ _ _ _ _ => pts_nil)
        (fun _ _ _ _ _ => pe_cmpR op_eq (pe_ix (ixt (K := K) rfl) (pv 0) (pv 3) (fun _ _ => rfl)) (pe_un un_neg (pe_ix (ixt (K := K) rfl) (pv 0) (pv 2) (fun _ _ => rfl))) (nomark _))) pa_nil)))), ?_⟩
    refine ⟨_, rfl, _, rfl, l, _, rfl, .inr hL.sq, a, mt, ls.length, congrArg (fun z => [V.ref a, V.int z]) (by rw [List.length_map]), hA, ln, hp, fun H1 s1 => ⟨_, rfl, iteF ?_⟩⟩
    refine nx_ret_lc ?_
    refine ⟨_, rfl, a, _, rfl, hA.same s1, fun J G wk hG => ?_⟩
    refine lcE wk (fun _ => true) (fun _ => .bl true) (by rw [List.length_map]; omega) hG ?_ ?_
    · intro i x hx H2 s2 T0 hT Qy Qn ky kn
      have hin : i < mt.length := by
        have := (List.getElem?_eq_some_iff.mp hx).1
        rwa [List.length_map] at this
      obtain rfl : x = V.int mt[i] := by
        rw [List.getElem?_map, List.getElem?_eq_getElem hin] at hx
        exact (Option.some.inj hx).symm
      obtain ⟨z0, z1⟩ := hp.1.2 _ (List.getElem_mem hin)
      have sT := same_upd (o := .tup [.int (i : Nat), .int mt[i]]) hT
      have hL2 := (SqB.same ((s1.trans s2).trans sT) hL).sq
      have em : mt[i] = ((mt[i].toNat : Nat) : Int) := by omega
      have l1 : mt[i].toNat < ls.length := by omega
      have l2 : i < ls.length := by omega
      have eq := hm i hin
      rw [List.getD_eq_getElem?_getD, List.getD_eq_getElem?_getD, List.getElem?_eq_getElem l1, List.getElem?_eq_getElem l2] at eq
      have eq : ls[mt[i].toNat] = -ls[i] := eq
      refine ⟨T0, _, rfl, SqT.of upd_same, rfl, _, _, rfl, _, _, rfl, rfl, ?_⟩
      refine ⟨rfl, yes_te ?_⟩
      refine ⟨_, rfl, _, rfl, l, _, _, _, rfl, rfl, hL2, (by rw [em]; exact atI_nat (iv_get (List.getElem?_eq_getElem l1))), _, rfl, _, rfl, l, _, _, _, rfl, rfl, hL2, atI_nat (iv_get (List.getElem?_eq_getElem l2)), _, rfl, rfl, ?_⟩
      have e : decide (V.int ls[mt[i].toNat] = V.int (-ls[i])) = true := decide_eq_true (by rw [eq])
      show Qy (.bl (decide (V.int ls[mt[i].toNat] = V.int (-ls[i])))) _
      rw [e]
      exact ky rfl _ sT
    · intro D H2 hD s2 h2
      refine ⟨D, (List.range (iv mt).length).map fun _ => true, rfl, SqL.of (by
        rw [h2, List.filter_eq_self.mpr (fun _ _ => rfl), List.map_map]
        rfl), ?_⟩
      have e : ((List.range (iv mt).length).map fun _ => true).all id = true := by
        rw [List.all_eq_true]
        intro b hb
        obtain ⟨_, _, rfl⟩ := List.mem_map.mp hb
        rfl
      rw [e]
      exact k H2 (s1.trans s2)
end
end W14
set_option Elab.async false
set_option linter.all false
set_option maxRecDepth 100000
set_option maxHeartbeats 1000000
namespace W14
open PySem L2 PySem.Spec PyProof.Rows WR WB WE
/-! ### numbers joined by pairs -/
abbrev sJoined : Stmt := top 23
/-- on to where a number leads, at most k times -/
def rt (ab : List Nat) : Nat → Nat → Nat
  | 0, x => x
  | k + 1, x => if ab.getD x 0 = x then x else rt ab k (ab.getD x 0)
def jnS (ab : List Nat) (p : Nat × Nat) : List Nat := ab.set (max (rt ab p.1 p.1) (rt ab p.2 p.2)) (min (rt ab p.1 p.1) (rt ab p.2 p.2))
def jn : List Nat → List (Nat × Nat) → List Nat
  | ab, [] => ab
  | ab, p :: r => jn (jnS ab p) r
/-- the number i put to the row of r -/
def putR : List (Nat × List Nat) → Nat → Nat → List (Nat × List Nat)
  | [], r, i => [(r, [i])]
  | (k, m) :: t, r, i => if k = r then (k, m ++ [i]) :: t else (k, m) :: putR t r i
def flr (ab : List Nat) : Nat → List Nat × List (Nat × List Nat)
  | 0 => (ab, [])
  | i + 1 => ((flr ab i).1.set i ((flr ab i).1.getD ((flr ab i).1.getD i 0) 0), putR (flr ab i).2 ((flr ab i).1.getD ((flr ab i).1.getD i 0) 0) i)
def joinF (n : Nat) (ps : List (Nat × Nat)) : List (List Nat) := (flr (jn (List.range n) ps) n).2.map (·.2)
/-- each leads to none that is greater -/
def DnOk (n : Nat) (ab : List Nat) : Prop := ab.length = n ∧ ∀ i, i < n → ab.getD i 0 ≤ i
theorem DnOk.rt_le {n : Nat} {ab : List Nat} (h : DnOk n ab) : ∀ (k x : Nat), x < n → rt ab k x ≤ x
  | 0, x, _ => Nat.le_refl _
  | k + 1, x, hx => by
    unfold rt
    split
    · exact Nat.le_refl _
    · exact Nat.le_trans (h.rt_le k _ (by have := h.2 x hx; omega)) (h.2 x hx)
theorem getD_set {l : List Nat} {i j v : Nat} (h : i < l.length) : (l.set i v).getD j 0 = if j = i then v else l.getD j 0 := by
  rw [List.getD_eq_getElem?_getD, List.getD_eq_getElem?_getD, List.getElem?_set]
  by_cases e : i = j
  · subst e
    rw [if_pos rfl, if_pos rfl, if_pos h]
    rfl
  · rw [if_neg e, if_neg (fun z => e z.symm)]
theorem DnOk.set {n : Nat} {ab : List Nat} (h : DnOk n ab) {i v : Nat} (hi : i < n) (hv : v ≤ i) : DnOk n (ab.set i v) := by
  refine ⟨by rw [List.length_set, h.1], fun j hj => ?_⟩
  rw [getD_set (by rw [h.1]; exact hi)]
  split
  · omega
  · exact h.2 j hj
theorem DnOk.jnS {n : Nat} {ab : List Nat} (h : DnOk n ab) {p : Nat × Nat} (h1 : p.1 < n) (h2 : p.2 < n) : DnOk n (jnS ab p) := by
  have a := h.rt_le p.1 p.1 h1
  have b := h.rt_le p.2 p.2 h2
  exact h.set (by omega) (by omega)
theorem dn_range (n : Nat) : DnOk n (List.range n) := by
  refine ⟨List.length_range, fun i hi => ?_⟩
  rw [List.getD_eq_getElem?_getD, List.getElem?_range hi]
  exact Nat.le_refl _
theorem DnOk.jn {n : Nat} : ∀ (ps : List (Nat × Nat)) {ab : List Nat}, DnOk n ab → (∀ p ∈ ps, p.1 < n ∧ p.2 < n) → DnOk n (W14.jn ab ps)
  | [], _, h, _ => h
  | p :: r, _, h, hp => DnOk.jn r (h.jnS (hp p List.mem_cons_self).1 (hp p List.mem_cons_self).2) fun q hq => hp q (List.mem_cons_of_mem _ hq)
theorem DnOk.flr {n : Nat} {ab : List Nat} (h : DnOk n ab) : ∀ i, i ≤ n → DnOk n (W14.flr ab i).1
  | 0, _ => h
  | i + 1, hi => by
    have d := DnOk.flr h i (by omega)
    have a := d.2 i (by omega)
    have b := d.2 ((W14.flr ab i).1.getD i 0) (by omega)
    exact d.set (by omega) (by omega)
/-- where numbers lead stays the same for any k that is great enough -/
theorem DnOk.rt_end {n : Nat} {ab : List Nat} (h : DnOk n ab) {x : Nat} (k : Nat) (e : ab.getD x 0 = x) : rt ab k x = x := by
  cases k with
  | zero => rfl
  | succ k => unfold rt; rw [if_pos e]
theorem DnOk.rt_step {n : Nat} {ab : List Nat} (h : DnOk n ab) {x k : Nat} (hx : x < n) (hk : x ≤ k) (e : ab.getD x 0 ≠ x) : ∃ k', k = k' + 1 ∧ ab.getD x 0 ≤ k' ∧ rt ab k x = rt ab k' (ab.getD x 0) := by
  have a := h.2 x hx
  obtain ⟨k', rfl⟩ : ∃ k', k = k' + 1 := ⟨k - 1, by omega⟩
  refine ⟨k', rfl, by omega, ?_⟩
  conv => lhs; unfold rt
  rw [if_neg e]
theorem nats_get {l : List Nat} {i : Nat} (h : i < l.length) : atI (iv (nats l)) ((i : Nat) : Int) = some (V.int ((l.getD i 0 : Nat) : Int)) := by
  refine atI_nat (iv_get ?_)
  unfold nats
  rw [List.getElem?_map, List.getElem?_eq_getElem h, List.getD_eq_getElem?_getD, List.getElem?_eq_getElem h]
  rfl
theorem nats_set {l : List Nat} {i v : Nat} : (iv (nats l)).set i (V.int (v : Int)) = iv (nats (l.set i v)) := by
  unfold nats
  rw [List.map_set, ← List.map_set, ← List.map_set]
theorem nats_len (l : List Nat) : (iv (nats l)).length = l.length := by
  unfold nats
  rw [List.length_map, List.length_map]
theorem ixN_nat {n i : Nat} (h : i < n) : ixN n ((i : Nat) : Int) = some i := by
  unfold ixN
  rw [if_pos (by omega), if_pos (by omega), Int.toNat_natCast]
/-- rows of a dict: each key a number, its value a list of numbers -/
def RowsAt (H : Hp) (kvs : List (L2.Key × V)) (rs : List (Nat × List Nat)) : Prop := All2 (fun kv r => kv.1 = Sum.inl ((r.1 : Nat) : Int) ∧ ∃ q, kv.2 = V.ref q ∧ H q = some (.lst (iv (nats r.2)))) kvs rs
theorem rows_none {H : Hp} {kvs : List (L2.Key × V)} {rs : List (Nat × List Nat)} (h : RowsAt H kvs rs) {r i : Nat} (e : valV kvs (Sum.inl ((r : Nat) : Int)) = none) : putR rs r i = rs ++ [(r, [i])] := by
  induction h with
  | nil => rfl
  | @cons kv p kvs rs hp _ ih =>
    have n : ¬ kv.1 = Sum.inl ((r : Nat) : Int) := fun z => by
      rw [valV_pos z] at e
      cases e
    rw [valV_neg n] at e
    have n2 : ¬ p.1 = r := fun z => n (by rw [hp.1, z])
    obtain ⟨k, m⟩ := p
    unfold putR
    rw [if_neg n2, ih e]
    rfl
theorem rows_some {H : Hp} {kvs : List (L2.Key × V)} {rs : List (Nat × List Nat)} (h : RowsAt H kvs rs) {r i : Nat} {v : V} (e : valV kvs (Sum.inl ((r : Nat) : Int)) = some v) :
    ∃ K1 K2 R1 R2 m, kvs = K1 ++ (Sum.inl ((r : Nat) : Int), v) :: K2 ∧ rs = R1 ++ (r, m) :: R2 ∧ RowsAt H K1 R1 ∧ RowsAt H K2 R2 ∧ (∃ q, v = V.ref q ∧ H q = some (.lst (iv (nats m)))) ∧ putR rs r i = R1 ++ (r, m ++ [i]) :: R2 := by
  induction h with
  | nil => cases e
  | @cons kv p kvs rs hp t ih =>
    obtain ⟨k, m⟩ := p
    by_cases z : kv.1 = Sum.inl ((r : Nat) : Int)
    · rw [valV_pos z] at e
      obtain rfl : k = r := by
        have := hp.1.symm.trans z
        injection this with this
        omega
      cases e
      refine ⟨[], kvs, [], rs, m, ?_, rfl, .nil, t, hp.2, ?_⟩
      · rw [← z]
        rfl
      · unfold putR
        rw [if_pos rfl]
        rfl
    · rw [valV_neg z] at e
      have n2 : ¬ k = r := fun y => z (by rw [hp.1, y])
      obtain ⟨K1, K2, R1, R2, m2, e1, e2, h1, h2, h3, e3⟩ := ih e
      refine ⟨kv :: K1, K2, (k, m) :: R1, R2, m2, by rw [e1]; rfl, by rw [e2]; rfl, .cons hp h1, h2, h3, ?_⟩
      unfold putR
      rw [if_neg n2, e3]
      rfl
end W14
set_option Elab.async false
set_option linter.all false
set_option maxRecDepth 100000
set_option maxHeartbeats 1000000
namespace W14
open PySem L2 PySem.Spec PyProof.Rows WR WB WE
theorem call_tupNw {X : Cx} {K : PySem.W.Frag} (hK : X.K = K) : CallR X (.type "tuple") (fun xs H Q => ∃ p ys, xs = [.ref p] ∧ SqL K H p ys ∧ ∀ q (o : Obj), H q = none → o.dict = none → Q (.ref q) (L2.upd H q (.frz o (.tup ys)))) := by
  subst hK
  intro pins s σ H vs us Q I r h
  obtain ⟨p, ys, rfl, hq, k⟩ := h
  obtain ⟨u, rfl, rx⟩ := vals1 r
  cases rx
  obtain ⟨its, rv, pl, hz⟩ := I.list hq
  refine call_tuple_list pl.isList (fun h1 kp => ?_) (by rw [List.size_toArray, ← rv.length]; exact hz)
  have J : Inv X pins σ H { s with heap := h1 } := I.kept (t' := s.toks) kp
  have new : (h1.push { cls := .type "tuple", data := .seq its.toArray }).get? h1.objs.size = some { cls := .type "tuple", data := .seq its.toArray } := Heap.get?_push_size _ rfl
  exact ⟨.ref _, _, J.laid (t' := s.toks) (o := .frz { cls := .type "tuple", data := .seq its.toArray } (.tup ys)) (fun _ _ e => Heap.get?_push_of_some _ e) (Nat.le_refl _) ⟨new, hz, its, rv, IsTup.new _ _⟩, rfl, k _ _ (J.hok.fresh (Nat.le_refl _)) rfl⟩
def PrN (K : PySem.W.Frag) (H : Hp) (v : V) (p : Nat × Nat) : Prop := ∃ q : Addr, v = .ref q ∧ SqT K H q [.int (p.1 : Int), .int (p.2 : Int)]
theorem PrN.same {K : PySem.W.Frag} {H H' : Hp} {v : V} {p : Nat × Nat} (h : PrN K H v p) (s : Same H H') : PrN K H' v p := by
  obtain ⟨q, e, t⟩ := h
  exact ⟨q, e, WR.Same.seqT s t⟩
def spJoined (K : PySem.W.Frag) : Sp := fun vs H Q _ => ∃ (n : Nat) (a : Addr) (us : List V) (ps : List (Nat × Nat)), vs = [.int (n : Int), .ref a] ∧ H a = some (.lst us) ∧ All2 (PrN K H) us ps ∧ n ≤ 40 ∧ us.length ≤ 1000 ∧ (∀ p ∈ ps, p.1 < n ∧ p.2 < n) ∧
  ∀ q H', Same H H' → CornAt K H' q (joinF n ps) → Q (.ref q) H'
abbrev nJoined : List Str := ["many", "pairs", "above", "one", "other", "rows", "at", "row"]
theorem rgV_nats (n : Nat) : rgV 0 (n : Int) = iv (nats (List.range n)) := by
  unfold rgV nats
  show _ = ((List.range n).map fun (x : Nat) => (x : Int)).map V.int
  rw [List.map_map, show ((n : Int) - 0).toNat = n by omega]
  refine List.map_congr_left fun i _ => ?_
  show V.int (0 + (i : Nat)) = V.int ((i : Nat) : Int)
  rw [Int.zero_add]
theorem wk_vals {d : Addr} {o : Obj} {kvs : List (L2.Key × V)} : Walk (Itd d o kvs) (kvs.map (·.2)).length (fun H => H d = some (.frz o (.dK kvs))) (YAt (kvs.map (·.2))) := by
  have w := walk_values (d := d) (o := o) (kvs := kvs)
  rw [List.length_map]
  refine ⟨w.goes, w.stops, fun i H x H' hi g y => ?_⟩
  obtain ⟨e, k, hk⟩ := w.yields i H x H' hi g y
  refine ⟨e, ?_⟩
  rw [List.getElem?_map, hk]
  rfl
def slotN (i : Nat) (σ : L2.St) : Nat := match σ[i]? with | some (some (V.int y)) => y.toNat | _ => 0
theorem cb_lock_lc {r : List V → Hp → VK → Prop} {t : TE} {σ : L2.St} {H : Hp} {Q : VK} (h : tLockE t σ H fun y H2 => r [y] H2 Q) : tCB r (tCons (tLockE t) tNil) σ H Q := h
theorem ret_cb_lock {r : List V → Hp → VK → Prop} {t : TE} {D : Ends} {σ : L2.St} {H : Hp} (h : tLockE t σ H fun y H2 => r [y] H2 D.rt) : tRet (tCB r (tCons (tLockE t) tNil)) D σ H := h
theorem flr_rows_len (ab : List Nat) : ∀ i, (∀ p ∈ (flr ab i).2, p.2.length ≤ i)
  | 0, p, h => nomatch h
  | i + 1, p, h => by
    have ih := flr_rows_len ab i
    have key : ∀ (rs : List (Nat × List Nat)) (r : Nat), (∀ p ∈ rs, p.2.length ≤ i) → ∀ p ∈ putR rs r i, p.2.length ≤ i + 1 := by
      intro rs r
      induction rs with
      | nil =>
        intro _ p hp
        unfold putR at hp
        rw [List.mem_singleton.mp hp]
        show 1 ≤ i + 1
        omega
      | cons x t iht =>
        intro hx p hp
        obtain ⟨k, m⟩ := x
        unfold putR at hp
        split at hp
        · rcases List.mem_cons.mp hp with rfl | hp
          · have := hx (k, m) List.mem_cons_self
            show (m ++ [i]).length ≤ i + 1
            rw [List.length_append]
            show m.length + 1 ≤ i + 1
            have this : m.length ≤ i := this
            omega
          · have := hx p (List.mem_cons_of_mem _ hp)
            omega
        · rcases List.mem_cons.mp hp with rfl | hp
          · have := hx (k, m) List.mem_cons_self
            have this : m.length ≤ i := this
            show m.length ≤ i + 1
            omega
          · exact iht (fun q hq => hx q (List.mem_cons_of_mem _ hq)) p hp
    exact key _ _ ih p h
section
variable {P : Program} {w : World} {K : PySem.W.Frag} {mg : Str → Option Value} {base : Heap} {C CR : Addr}
theorem scJoined : FnScope nJoined ["many", "pairs"] (defScope sJoined) := ⟨rfl, rfl, rfl, by decide +kernel, rfl, by decide +kernel, by decide +kernel⟩
theorem ok_joined {f : Addr} {fd : FuncData} (F : Fun K "joined" "joined" sJoined f fd) (TA : TxA mg) (R : TxR mg) (hlist : mg "list" = none) (hmax : mg "max" = none) (hmin : mg "min" = none) : FnOk P w K mg base CX0 1 f fd ["many", "pairs"] (spJoined K) := by
  refine F.ok scJoined (fun vs H Q E h => ?_) (fun cdv A outer s H vs Q E hr h => ?_)
  · obtain ⟨n, a, us, ps, rfl, _⟩ := h
    rfl
  · obtain ⟨n, a, us, ps, rfl, hA, hP, hn, hu, hps, k⟩ := h
    refine ⟨_, pss_cons (ps_set (i := 2) scJoined.nd rfl (Or.inl rfl) (pe_listRg rfl (by rfl) hlist (prg_1 (by rfl) R.range (pv 0))))
      (pss_cons (ps_for PassesOwn.never rfl (pi_list (pv 1)) (pg_tup (n := 2) rfl (pgs_cons (pg_name (i := 3) scJoined.nd rfl (Or.inl rfl)) (pgs_cons (pg_name (i := 4) scJoined.nd rfl (Or.inl rfl)) pgs_nil)))
        (pss_cons (ps_while PassesOwn.never (pt_cmpR op_ne (pe_ix ix_list (pv 2) (pv 3) (fun _ _ => rfl)) (pv 3) (nomark _)) (pss_one (ps_set (i := 3) scJoined.nd rfl (Or.inl rfl) (pe_ix ix_list (pv 2) (pv 3) (fun _ _ => rfl)))))
        (pss_cons (ps_while PassesOwn.never (pt_cmpR op_ne (pe_ix ix_list (pv 2) (pv 4) (fun _ _ => rfl)) (pv 4) (nomark _)) (pss_one (ps_set (i := 4) scJoined.nd rfl (Or.inl rfl) (pe_ix ix_list (pv 2) (pv 4) (fun _ _ => rfl)))))
        (pss_one (ps_asg (pe_callB (call_min2 rfl) (by rfl) hmin (by decide +kernel) (pa_cons (pv 3) (pa_cons (pv 4) pa_nil))) (pg_sub (pv 2) (pe_callB (call_max2 rfl) (by rfl) hmax (by decide +kernel) (pa_cons (pv 3) (pa_cons (pv 4) pa_nil))) set_list))))))
      (pss_cons (ps_set (i := 5) scJoined.nd rfl (Or.inl rfl) pe_dnewK)
      (pss_cons (ps_for PassesOwn.never rfl (pi_range1 (by rfl) R.range (pa_cons (pv 0) pa_nil)) (pg_name (i := 6) scJoined.nd rfl (Or.inl rfl))
        (pss_cons (ps_asg (pe_ix ix_list (pv 2) (pe_ix ix_list (pv 2) (pv 6) (fun _ _ => rfl)) (fun _ _ => rfl)) (pg_sub (pv 2) (pv 6) set_list))
        (pss_one (ps_expr (pe_bm PySem.F.plainAttrs_list PySem.F.slot_list_append PySem.F.type_list_append mt_append (pe_dsetd (pv 5) (pe_ix ix_list (pv 2) (pv 6) (fun _ _ => rfl)) (pe_lst pa_nil) ⟨rfl, rfl, rfl, rfl⟩) (pa_cons (pv 6) pa_nil))))))
      (pss_one (ps_ret (pe_callTy call_tupB (by rfl) TA.tuple (by decide +kernel) (pa_cons (pe_lock (pe_lc (own := [("row", 7)]) (g := gName 7) (tt := tYes) rfl scJoined.nd (pi_values (pv 5))
        (blkOk_by (N := nJoined) (sc := defScope sJoined) (by decide +kernel)) (fun _ _ _ _ _ => pg_name (i := 7) scJoined.nd rfl (Or.inl rfl)) (fun _ _ _ _ _ => pts_nil)
        (fun _ _ _ _ _ => pe_callTy (call_tupNw (K := K) rfl) (by rfl) TA.tuple (by decide +kernel) (pa_cons (pv 7) pa_nil)))) pa_nil))))))), ?_⟩
    refine ⟨_, rfl, n, rfl, RgOk.of_le (by omega) (by omega) (by omega) (by omega), fun lc hlc => ?_⟩
    rw [rgV_nats]
    have na : a ≠ lc := ne_of_none hA hlc
    refine ⟨_, rfl, a, rfl, ⟨us, SqL.of (by rw [upd_ne na]; exact hA)⟩, ?_⟩
    have lps := hP.length
    refine for_it (walk_list (K := K) (a := a) (xs := us)) (fun i σ H' => ∃ (v3 v4 : Option V) (ab : List Nat), σ = [some (.int (n : Int)), some (.ref a), some (.ref lc), v3, v4, none, none, none] ∧ Kept lc H H' ∧ H' lc = some (.lst (iv (nats ab))) ∧ DnOk n ab ∧ jn ab (ps.drop i) = jn (List.range n) ps)
      ⟨none, none, List.range n, rfl, fun b o nb e => by rw [upd_ne nb]; exact e, upd_same, dn_range n, rfl⟩ (fun i σ H' _ ⟨_, _, _, _, kp, _⟩ => SqL.of (kp _ _ na hA)) ?_ ?_
    · rintro i x σ H3 H4 hi ⟨v3, v4, ab, rfl, kp, hL, dn, ej⟩ ⟨rfl, hx⟩
      obtain ⟨⟨o1, o2⟩, hp, q, rfl, hq⟩ := hP.at hx
      have hq3 : SqT K H4 q [.int (o1 : Int), .int (o2 : Int)] := by
        refine hq.elim (fun r => .inl (r.elim (fun r => .inl (kp _ _ (ne_of_none r hlc) r)) fun ⟨o, r⟩ => .inr ⟨o, kp _ _ (ne_of_none r hlc) r⟩)) fun r => .inr r
      obtain ⟨b1, b2⟩ := hps (o1, o2) (List.mem_of_getElem? hp)
      have b1 : o1 < n := b1
      have b2 : o2 < n := b2
      refine ⟨q, _, rfl, hq3, rfl, _, _, rfl, _, _, rfl, rfl, ?_⟩
      refine while_by (fun σ H5 => ∃ (kk y : Nat), σ = [some (.int (n : Int)), some (.ref a), some (.ref lc), some (.int (y : Int)), some (.int (o2 : Int)), none, none, none] ∧ H4 = H5 ∧ y < n ∧ y ≤ kk ∧ rt ab kk y = rt ab o1 o1)
        (fun σ _ => slotN 3 σ) ⟨o1, o1, rfl, rfl, b1, Nat.le_refl _, rfl⟩ ?_ ?_
      · rintro σ H5 ⟨kk, y, rfl, rfl, hy, hyk, ey⟩
        have hyl : y < ab.length := by rw [dn.1]; exact hy
        refine ⟨_, rfl, _, rfl, lc, _, _, _, rfl, rfl, SqL.of hL, nats_get hyl, _, rfl, rfl, _, rfl, ?_⟩
        by_cases e : ab.getD y 0 = y
        · refine iteF' (by rw [e]; show (!decide (V.int (y : Int) = V.int (y : Int))) = false; rw [decide_eq_true rfl]; rfl) ?_
          rw [dn.rt_end _ e] at ey
          refine while_by (fun σ H5 => ∃ (kk y2 : Nat), σ = [some (.int (n : Int)), some (.ref a), some (.ref lc), some (.int (y : Int)), some (.int (y2 : Int)), none, none, none] ∧ H4 = H5 ∧ y2 < n ∧ y2 ≤ kk ∧ rt ab kk y2 = rt ab o2 o2)
            (fun σ _ => slotN 4 σ) ⟨o2, o2, rfl, rfl, b2, Nat.le_refl _, rfl⟩ ?_ ?_
          · rintro σ H5 ⟨kk2, y2, rfl, rfl, hy2, hyk2, ey2⟩
            have hyl2 : y2 < ab.length := by rw [dn.1]; exact hy2
            refine ⟨_, rfl, _, rfl, lc, _, _, _, rfl, rfl, SqL.of hL, nats_get hyl2, _, rfl, rfl, _, rfl, ?_⟩
            by_cases e2 : ab.getD y2 0 = y2
            · refine iteF' (by rw [e2]; show (!decide (V.int (y2 : Int) = V.int (y2 : Int))) = false; rw [decide_eq_true rfl]; rfl) ?_
              rw [dn.rt_end _ e2] at ey2
              have hmx : max y y2 < ab.length := by omega
              have e3 : (if (y2 : Int) < (y : Int) then (y2 : Int) else (y : Int)) = ((min y y2 : Nat) : Int) := by split <;> omega
              have e4 : (if (y2 : Int) > (y : Int) then (y2 : Int) else (y : Int)) = ((max y y2 : Nat) : Int) := by split <;> omega
              refine ⟨_, rfl, _, rfl, _, _, rfl, ?_⟩
              refine ⟨_, rfl, _, rfl, _, rfl, _, _, rfl, ?_⟩
              rw [e4]
              refine ⟨lc, _, _, max y y2, rfl, rfl, hL, by rw [nats_len]; exact ixN_nat hmx, ?_⟩
              rw [e3, nats_set]
              have ejs : ab.set (max y y2) (min y y2) = jnS ab (o1, o2) := by
                unfold jnS
                rw [← ey, ← ey2]
              rw [ejs]
              refine ⟨_, _, jnS ab (o1, o2), rfl, kp.trans Kept.upd, upd_same, dn.jnS b1 b2, ?_⟩
              rw [← ej]
              have ed : ps.drop i = (o1, o2) :: ps.drop (i + 1) := by
                have hil : i < ps.length := (List.getElem?_eq_some_iff.mp hp).1
                rw [List.drop_eq_getElem_cons hil]
                congr 1
                exact Option.some.inj ((List.getElem?_eq_getElem hil).symm.trans hp)
              rw [ed]
              rfl
            · have hle2 := dn.2 y2 hy2
              obtain ⟨k', ek, hk', er⟩ := dn.rt_step hy2 hyk2 e2
              refine iteT' (by show (!decide (V.int ((ab.getD y2 0 : Nat) : Int) = V.int (y2 : Int))) = true; rw [decide_eq_false (fun z => e2 (by injection z with z; omega))]; rfl) ?_
              refine ⟨_, rfl, _, rfl, lc, _, _, _, rfl, rfl, SqL.of hL, nats_get hyl2, ?_⟩
              refine ⟨⟨k', ab.getD y2 0, rfl, rfl, by omega, hk', er.symm.trans ey2⟩, ?_⟩
              show ((ab.getD y2 0 : Nat) : Int).toNat < ((y2 : Nat) : Int).toNat
              omega
          · rintro σ H5 Q Q' hh ⟨v, e1, u, e2, p, xs, z, v', ex, ey, hs, ha, u', e3, fl, c, ec, q⟩
            exact ⟨v, e1, u, e2, p, xs, z, v', ex, ey, hs, ha, u', e3, fl, c, ec, hh c H5 q⟩
        · have hle := dn.2 y hy
          obtain ⟨k', ek, hk', er⟩ := dn.rt_step hy hyk e
          refine iteT' (by show (!decide (V.int ((ab.getD y 0 : Nat) : Int) = V.int (y : Int))) = true; rw [decide_eq_false (fun z => e (by injection z with z; omega))]; rfl) ?_
          refine ⟨_, rfl, _, rfl, lc, _, _, _, rfl, rfl, SqL.of hL, nats_get hyl, ?_⟩
          refine ⟨⟨k', ab.getD y 0, rfl, rfl, by omega, hk', er.symm.trans ey⟩, ?_⟩
          show ((ab.getD y 0 : Nat) : Int).toNat < ((y : Nat) : Int).toNat
          omega
      · rintro σ H5 Q Q' hh ⟨v, e1, u, e2, p, xs, z, v', ex, ey, hs, ha, u', e3, fl, c, ec, q⟩
        exact ⟨v, e1, u, e2, p, xs, z, v', ex, ey, hs, ha, u', e3, fl, c, ec, hh c H5 q⟩
    · rintro σ H3 ⟨v3, v4, ab, rfl, kp, hL, dn, ej⟩
      rw [lps, List.drop_length] at ej
      have ej : ab = jn (List.range n) ps := ej
      have sm3 : Same H H3 := fun b o e => kp _ _ (ne_of_none e hlc) e
      refine fun dd hdd => ?_
      have nLd : lc ≠ dd := ne_of_none hL hdd
      have nHd : H dd = none := sm3.free hdd
      refine ⟨_, rfl, _, rfl, by omega, by omega, ?_⟩
      refine for_range (lo := 0) (n := ((n : Nat) : Int).toNat) (fun i σ H' => ∃ (v6 : Option V) (kvs : List (L2.Key × V)), σ = [some (.int (n : Int)), some (.ref a), some (.ref lc), v3, v4, some (.ref dd), v6, none] ∧ Same H H' ∧ H' lc = some (.lst (iv (nats (flr ab i).1))) ∧
          H' dd = some (.dK kvs) ∧ RowsAt H' kvs (flr ab i).2 ∧ (kvs.map (·.2)).Nodup ∧ kvs.length ≤ i ∧ ∀ q, V.ref q ∈ kvs.map (·.2) → H q = none ∧ q ≠ lc)
        ⟨none, [], rfl, sm3.trans (same_upd hdd), by rw [upd_ne nLd]; exact hL, upd_same, .nil, List.nodup_nil, Nat.le_refl _, fun _ h => nomatch h⟩ ?_ ?_
      · rintro i σ H4 hi ⟨v6, kvs, rfl, sm, hL4, hd4, hR4, nd, lk, new4⟩
        rw [Int.toNat_natCast] at hi
        rw [Int.zero_add]
        have dF := dn.flr i (by omega)
        have dG := dn.flr (i + 1) (by omega)
        obtain ⟨fl, efl⟩ : ∃ fl, fl = (flr ab i).1 := ⟨_, rfl⟩
        obtain ⟨fg, efg⟩ : ∃ fg, fg = (flr ab (i + 1)).1 := ⟨_, rfl⟩
        rw [← efl] at hL4 dF
        rw [← efg] at dG
        have eg : fg = fl.set i (fl.getD (fl.getD i 0) 0) := by rw [efg, efl]; rfl
        have hil : i < fl.length := by rw [dF.1]; exact hi
        have hjl : fl.getD i 0 < fl.length := by have := dF.2 i hi; omega
        refine ⟨_, rfl, _, rfl, _, rfl, lc, _, _, _, rfl, rfl, SqL.of hL4, nats_get hil, lc, _, _, _, rfl, rfl, SqL.of hL4, nats_get hjl, _, rfl, _, rfl, lc, _, _, i, rfl, rfl, hL4, by rw [nats_len]; exact ixN_nat hil, ?_⟩
        rw [nats_set, ← eg]
        obtain ⟨H5, e5⟩ : ∃ H5, H5 = L2.upd H4 lc (.lst (iv (nats fg))) := ⟨_, rfl⟩
        rw [← e5]
        have hL5 : H5 lc = some (.lst (iv (nats fg))) := by rw [e5, upd_same]
        have k45 : Kept lc H4 H5 := by rw [e5]; exact Kept.upd
        have sm5 : Same H H5 := by rw [e5]; exact same_put sm hlc
        have hd5 : H5 dd = some (.dK kvs) := k45 _ _ nLd.symm hd4
        have hR5 : RowsAt H5 kvs (flr ab i).2 := by
          have g : ∀ (xs : List (L2.Key × V)) (rs : List (Nat × List Nat)), RowsAt H4 xs rs → (∀ q, V.ref q ∈ xs.map (·.2) → q ≠ lc) → RowsAt H5 xs rs := by
            intro xs rs h
            induction h with
            | nil => intro _; exact .nil
            | cons r _ ih =>
              intro hn
              obtain ⟨r1, q, r2, r3⟩ := r
              refine .cons ⟨r1, q, r2, k45 _ _ (hn q (by rw [← r2]; exact List.mem_cons_self)) r3⟩ (ih fun q hq => hn q (List.mem_cons_of_mem _ hq))
          exact g _ _ hR4 fun q hq => (new4 q hq).2
        have hig : i < fg.length := by rw [dG.1]; exact hi
        have eri : fg.getD i 0 = fl.getD (fl.getD i 0) 0 := by rw [eg, getD_set hil, if_pos rfl]
        have er2 : (flr ab (i + 1)).2 = putR (flr ab i).2 (fg.getD i 0) i := by
          rw [eri, efl]
          rfl
        obtain ⟨r, er⟩ : ∃ r, r = fg.getD i 0 := ⟨_, rfl⟩
        refine ⟨_, rfl, dd, rfl, .inl ⟨kvs, .inl hd5⟩, _, rfl, _, rfl, lc, _, _, _, rfl, rfl, SqL.of hL5, nats_get hig, Nat.zero_le _, fun q hq => ?_⟩
        rw [← er] at er2 ⊢
        have ndq : dd ≠ q := ne_of_none hd5 hq
        have nlq : lc ≠ q := ne_of_none hL5 hq
        have nHq : H q = none := sm5.free hq
        obtain ⟨H6, e6⟩ : ∃ H6, H6 = L2.upd H5 q (.lst []) := ⟨_, rfl⟩
        rw [← e6]
        have s56 : Same H5 H6 := by rw [e6]; exact same_upd hq
        have hd6 := s56 _ _ hd5
        have hL6 := s56 _ _ hL5
        have hq6 : H6 q = some (.lst []) := by rw [e6, upd_same]
        have hR6 : RowsAt H6 kvs (flr ab i).2 := hR5.imp fun _ _ ⟨r1, q, r2, r3⟩ => ⟨r1, q, r2, s56 _ _ r3⟩
        have sm6 := sm5.trans s56
        refine ⟨kvs, Sum.inl ((r : Nat) : Int), hd6, rfl, Evl.sz_lt (by omega), fun v ev => ?_, fun ev => ?_⟩
        · obtain ⟨K1, K2, R1, R2, m, ek, eR, h1, h2, ⟨q0, rfl, hq0⟩, ep⟩ := rows_some (i := i) hR6 ev
          have hml : m.length ≤ i := flr_rows_len ab i (r, m) (by rw [eR]; simp)
          have mem0 : V.ref q0 ∈ kvs.map (·.2) := by rw [ek]; simp
          obtain ⟨n0, n0l⟩ := new4 q0 mem0
          have n0d : q0 ≠ dd := fun z => by
            rw [z, hd6] at hq0
            cases hq0
          refine ⟨.inl ⟨rfl, _, SqL.of hq0⟩, _, rfl, q0, _, _, rfl, rfl, hq0, Evl.sz_lt (by rw [nats_len]; omega), ?_⟩
          have k67 : Kept q0 H6 (L2.upd H6 q0 (.lst (iv (nats m) ++ [.int (i : Int)]))) := Kept.upd
          have nd1 := nd
          rw [ek, List.map_append, List.map_cons, List.nodup_append] at nd1
          obtain ⟨nd1, nd2, nd3⟩ := nd1
          rw [List.nodup_cons] at nd2
          have g : ∀ (xs : List (L2.Key × V)) (rs : List (Nat × List Nat)), RowsAt H6 xs rs → V.ref q0 ∉ xs.map (·.2) → RowsAt (L2.upd H6 q0 (.lst (iv (nats m) ++ [.int (i : Int)]))) xs rs := by
            intro xs rs h
            induction h with
            | nil => intro _; exact .nil
            | cons r _ ih =>
              intro hn
              obtain ⟨r1, q, r2, r3⟩ := r
              refine .cons ⟨r1, q, r2, k67 _ _ (fun z => hn (by rw [List.map_cons, r2, z]; exact List.mem_cons_self)) r3⟩ (ih fun z => hn (List.mem_cons_of_mem _ z))
          refine ⟨_, kvs, rfl, same_put sm6 n0, ?_, k67 _ _ n0d.symm hd6, ?_, nd, by omega, new4⟩
          · rw [← efg]
            exact k67 _ _ n0l.symm hL6
          · rw [er2, ep, ek]
            refine All2.app (g _ _ h1 fun z => nd3 _ z _ List.mem_cons_self rfl) (.cons ⟨rfl, q0, rfl, ?_⟩ (g _ _ h2 nd2.1))
            rw [upd_same]
            unfold nats iv
            rw [List.map_append, List.map_append]
            rfl
        · have eK := putK_new (V.ref q) ev
          rw [eK]
          obtain ⟨H7, e7⟩ : ∃ H7, H7 = L2.upd H6 dd (.dK (kvs ++ [(Sum.inl ((r : Nat) : Int), V.ref q)])) := ⟨_, rfl⟩
          rw [← e7]
          have k67 : Kept dd H6 H7 := by rw [e7]; exact Kept.upd
          have hd7 : H7 dd = some (.dK (kvs ++ [(Sum.inl ((r : Nat) : Int), V.ref q)])) := by rw [e7, upd_same]
          have hq7 := k67 _ _ ndq.symm hq6
          have hL7 := k67 _ _ nLd hL6
          have sm7 : Same H H7 := by rw [e7]; exact same_put sm6 nHd
          have hR7 : RowsAt H7 kvs (flr ab i).2 := hR6.imp fun _ _ ⟨r1, q, r2, r3⟩ => ⟨r1, q, r2, k67 _ _ (fun z => by rw [z, hd6] at r3; cases r3) r3⟩
          refine ⟨.inl ⟨rfl, _, SqL.of hq7⟩, _, rfl, q, _, _, rfl, rfl, hq7, Evl.sz_lt (by show 0 < 100000; omega), ?_⟩
          have k78 : Kept q H7 (L2.upd H7 q (.lst ([] ++ [.int (i : Int)]))) := Kept.upd
          have nq : V.ref q ∉ kvs.map (·.2) := fun z => by
            obtain ⟨kv, hkv, ekv⟩ := List.mem_map.mp z
            obtain ⟨p, _, _, q1, e1, h1⟩ := All2.mem hR5 hkv
            have : q1 = q := by
              rw [e1] at ekv
              injection ekv
            rw [this, hq] at h1
            cases h1
          have g : ∀ (xs : List (L2.Key × V)) (rs : List (Nat × List Nat)), RowsAt H7 xs rs → V.ref q ∉ xs.map (·.2) → RowsAt (L2.upd H7 q (.lst ([] ++ [.int (i : Int)]))) xs rs := by
            intro xs rs h
            induction h with
            | nil => intro _; exact .nil
            | cons r _ ih =>
              intro hn
              obtain ⟨r1, q2, r2, r3⟩ := r
              refine .cons ⟨r1, q2, r2, k78 _ _ (fun z => hn (by rw [List.map_cons, r2, z]; exact List.mem_cons_self)) r3⟩ (ih fun z => hn (List.mem_cons_of_mem _ z))
          refine ⟨_, _, rfl, same_put sm7 nHq, ?_, k78 _ _ ndq hd7, ?_, ?_, by rw [List.length_append]; show kvs.length + 1 ≤ i + 1; omega, ?_⟩
          · rw [← efg]
            exact k78 _ _ nlq hL7
          · rw [er2, rows_none hR7 ev]
            exact All2.app (g _ _ hR7 nq) (.cons ⟨rfl, q, rfl, upd_same⟩ .nil)
          · rw [List.map_append, List.nodup_append]
            refine ⟨nd, by simp, ?_⟩
            rintro x hx y hy rfl
            rw [List.map_cons, List.map_nil, List.mem_singleton] at hy
            have hy : x = V.ref q := hy
            exact nq (by rw [← hy]; exact hx)
          · intro z hz
            rw [List.map_append, List.mem_append] at hz
            rcases hz with hz | hz
            · exact new4 z hz
            · rw [List.map_cons, List.map_nil, List.mem_singleton] at hz
              injection hz with hz
              rw [hz]
              exact ⟨nHq, nlq.symm⟩
      · rintro σ H4 ⟨v6, kvs, rfl, sm, hL4, hd4, hR4, nd, lk, new4⟩
        rw [Int.toNat_natCast] at hR4 lk
        dsimp only
        refine ret_cb_lock ?_
        refine ⟨dd, .dK kvs, hd4, trivial, fun od => ?_⟩
        refine lc_in ?_
        refine ⟨_, rfl, dd, od, kvs, rfl, upd_same, ?_⟩
        have rows : All2 (fun (v : V) (r : Nat × List Nat) => ∃ q, v = V.ref q ∧ H4 q = some (.lst (iv (nats r.2)))) (kvs.map (·.2)) (flr ab n).2 := by
          have g : ∀ (xs : List (L2.Key × V)) (rs : List (Nat × List Nat)), RowsAt H4 xs rs → All2 (fun (v : V) (r : Nat × List Nat) => ∃ q, v = V.ref q ∧ H4 q = some (.lst (iv (nats r.2)))) (xs.map (·.2)) rs := by
            intro xs rs h
            induction h with
            | nil => exact .nil
            | cons r _ ih => exact .cons r.2 ih
          exact g _ _ hR4
        have lrow := rows.length
        have nH1 : ∀ q xs, H4 q = some (.lst xs) → q ≠ dd := fun q xs e z => by
          rw [z, hd4] at e
          cases e
        refine lcM (wk_vals (d := dd) (o := od) (kvs := kvs)) (flr ab n).2 (fun D H5 v r => ∃ q, v = V.ref q ∧ q ≠ dd ∧ SqB K H5 q (iv (nats r.2))) (fun D H5 H6 v b ⟨q, e, nq, h⟩ s => ⟨q, e, nq, SqB.same s h⟩) (fun D H5 ws o v b hD ⟨q, e, nq, h⟩ => ⟨q, e, nq, SqB.keptL hD Kept.upd h⟩)
          (by rw [List.length_map]; omega) lrow (fun H5 s => s _ _ upd_same) ?_ (fun _ _ _ _ _ => gName_mono) ?_
        · intro i x b hx hb D H5 hD hDD s5 Qy ky
          obtain ⟨r, hr2, q, rfl, hq⟩ := rows.at hx
          obtain rfl : r = b := Option.some.inj (hr2.symm.trans hb)
          have nqd := nH1 q _ hq
          have hq5 : H5 q = some (.lst (iv (nats r.2))) := s5 _ _ (by rw [upd_ne nqd]; exact hq)
          have hd5 : H5 dd = some (.frz od (.dK kvs)) := s5 _ _ upd_same
          refine ⟨rfl, _, rfl, q, _, rfl, SqL.of hq5, fun q2 o h2 ho => ?_⟩
          refine ky _ _ (same_upd h2) ⟨q2, rfl, (ne_of_none hd5 h2).symm, ⟨.inl (.inr ⟨o, upd_same⟩), ⟨o, _, upd_same, ho⟩⟩⟩
        · intro D H5 ws hD s5 hDD hW
          have hd5 : H5 dd = some (.frz od (.dK kvs)) := s5 _ _ upd_same
          have nDd : D ≠ dd := fun z => by
            rw [z, hd5] at hDD
            cases hDD
          refine ⟨hd5, D, ws, rfl, .inl ⟨SqL.of (by rw [upd_ne nDd]; exact hDD), fun q H6 s6 B6 => ?_⟩⟩
          have sm5 : Same H4 (L2.upd H5 dd (.dK kvs)) := fun b o e => by
            by_cases z : b = dd
            · rw [z, hd4] at e
              rw [z, upd_same, e]
            · rw [upd_ne z]
              exact s5 _ _ (by rw [upd_ne z]; exact e)
          have kd5 : ∀ q xs, q ≠ dd → SqB K H5 q xs → SqB K (L2.upd H5 dd (.dK kvs)) q xs := fun q xs nq ⟨h1, o, u, h2, h3⟩ => by
            refine ⟨?_, ⟨o, u, by rw [upd_ne nq]; exact h2, h3⟩⟩
            exact h1.elim (fun r => .inl (r.elim (fun r => .inl (by rw [upd_ne nq]; exact r)) fun ⟨o, r⟩ => .inr ⟨o, by rw [upd_ne nq]; exact r⟩)) fun r => .inr r
          refine k q H6 ((sm.trans sm5).trans s6) ⟨ws, B6, ?_⟩
          have fin : All2 (fun v c => ∃ q, v = V.ref q ∧ SqB K H6 q (iv (nats c))) ws ((flr ab n).2.map (·.2)) := by
            have g : ∀ (xs : List V) (rs : List (Nat × List Nat)), All2 (fun v (r : Nat × List Nat) => ∃ q, v = V.ref q ∧ q ≠ dd ∧ SqB K H5 q (iv (nats r.2))) xs rs → All2 (fun v c => ∃ q, v = V.ref q ∧ SqB K H6 q (iv (nats c))) xs (rs.map (·.2)) := by
              intro xs rs h
              induction h with
              | nil => exact .nil
              | cons r _ ih =>
                obtain ⟨q, e, nq, h⟩ := r
                exact .cons ⟨q, e, SqB.same s6 (kd5 q _ nq h)⟩ ih
            exact g _ _ hW
          rw [ej] at fin
          exact fin
end
end W14
set_option Elab.async false
set_option linter.all false
set_option maxRecDepth 100000
set_option maxHeartbeats 1000000
namespace W14
open PySem L2 PySem.Spec PyProof.Rows WR WB WE
/-! ### pieces, and the class Sewing -/
abbrev sPieces : Stmt := top 57
abbrev sInitS : Stmt := inClass (top 58) 0
abbrev sEqS : Stmt := inClass (top 58) 1
theorem lcY {β : Type} {J : It} {n : Nat} {G : Hp → Prop} {Y : Nat → Hp → V → Hp → Prop} (w : Walk J n G Y) (hY : ∀ i H x H', Y i H x H' → Same H H') (ys : List β) (R : Addr → Hp → V → β → Prop) (hst : ∀ D H H' v b, R D H v b → Same H H' → R D H' v b) (hput : ∀ D H ws o v b, H D = some (.lst ws) → R D H v b → R D (L2.upd H D o) v b)
    (hz : n < 40000) (hl : n = ys.length) {g : TG} {te : TE} {vs : List Nat} {σ : L2.St} {H1 : Hp} {Q : VK} (hG : ∀ H, Same H1 H → G H)
    (hs : ∀ (i : Nat) (x : V) (b : β) (H H' : Hp), ys[i]? = some b → Same H1 H → Y i H x H' → ∀ D, H1 D = none → (∃ ws, H' D = some (.lst ws)) → ∀ (Qy : V → Hp → Prop), (∀ v H2, Same H' H2 → R D H2 v b → Qy v H2) →
      g x (wipe σ vs) H' fun σ2 H2 => wipe σ2 vs = wipe σ vs ∧ te σ2 H2 Qy)
    (hg : ∀ x σ1 H A B, (∀ σ2 H2, A σ2 H2 → B σ2 H2) → g x σ1 H A → g x σ1 H B)
    (hd : ∀ (D : Addr) H' ws, H1 D = none → Same H1 H' → H' D = some (.lst ws) → All2 (R D H') ws ys → Q (.ref D) H') : tLc (fun _ H R => R J H) g tYes te vs σ H1 Q := by
  intro D hD
  refine lc_it w (fun i H => Same H1 H ∧ ∃ ws, H D = some (.lst ws) ∧ All2 (R D H) ws (ys.take i)) ⟨fun b o e => by rw [upd_ne (ne_of_none e hD)]; exact e, [], upd_same, by simp only [List.take_zero]; exact .nil⟩ (fun i H _ q => hG H q.1) ?_ ?_
  · rintro i x H H' hi ⟨sm, ws, hw, h2⟩ y
    have hi2 : i < ys.length := by omega
    have sY := hY _ _ _ _ y
    refine hg _ _ _ _ _ (fun σ2 H2 q => ⟨q.1, yes_te q.2⟩) (hs i x ys[i] H H' (List.getElem?_eq_getElem hi2) sm y D hD ⟨ws, sY _ _ hw⟩ _ fun v H2 s2 r => ?_)
    have s3 := sY.trans s2
    have hw2 := s3 _ _ hw
    have hlen := h2.length
    rw [List.length_take] at hlen
    refine ⟨ws, hw2, Evl.sz_lt (by omega), fun b o e => ?_, ws ++ [v], upd_same, ?_⟩
    · rw [upd_ne (ne_of_none e hD)]
      exact s3 _ _ (sm _ _ e)
    · rw [List.take_succ_eq_append_getElem hi2]
      exact (h2.imp fun v b r => hput D H2 ws _ v b hw2 (hst D _ _ v b r s3)).app (.cons (hput D H2 ws _ v _ hw2 r) .nil)
  · rintro H ⟨sm, ws, hw, h2⟩
    rw [List.take_of_length_le (by omega)] at h2
    exact hd D H ws hD sm hw h2
theorem yp_same {f g : Nat → Option V} {i : Nat} {H H' : Hp} {x : V} (y : YPair f g i H x H') : Same H H' := by
  obtain ⟨T, _, _, _, hT, e, _⟩ := y
  rw [e]
  exact same_upd hT
theorem ar_lcA {wi : TI} {g : TG} {tt : TT} {te : TE} {vs : List Nat} {σ : L2.St} {H : Hp} {Q : List V → Hp → Prop}
    (h : wi σ H fun J H1 => tLc (fun _ H R => R J H) g tt te vs σ H1 fun y H2 => Q [y] H2) : tCons (tLc wi g tt te vs) tNil σ H Q := h
/-- the number of the word of a place -/
def home (ws : List (List Int)) (i : Nat) : Nat := ((hmF 0 ws).getD i 0).toNat
def pcP (ws : List (List Int)) (mt : List Int) : List (Nat × Nat) := (List.range mt.length).map fun i => (home ws i, home ws (mt.getD i 0).toNat)
def pcF (ws : List (List Int)) (mt : List Int) : List (List Nat) := joinF ws.length (pcP ws mt)
theorem hmF_rng : ∀ (ws : List (List Int)) (f : Nat), ∀ z ∈ hmF f ws, (f : Int) ≤ z ∧ z < ((f + ws.length : Nat) : Int)
  | [], _, z, h => nomatch h
  | w :: r, f, z, h => by
    unfold hmF at h
    rw [List.mem_append] at h
    rw [List.length_cons]
    rcases h with h | h
    · have := (List.mem_replicate.mp h).2
      omega
    · have := hmF_rng r (f + 1) z h
      omega
theorem home_at {ws : List (List Int)} {i : Nat} (h : i < ws.flatten.length) : (hmF 0 ws)[i]? = some ((home ws i : Nat) : Int) ∧ home ws i < ws.length := by
  have hl : i < (hmF 0 ws).length := by rw [hmF_len]; exact h
  have r := hmF_rng ws 0 _ (List.getElem_mem hl)
  have e : home ws i = ((hmF 0 ws)[i]).toNat := by
    unfold home
    rw [List.getD_eq_getElem?_getD, List.getElem?_eq_getElem hl]
    rfl
  rw [e, List.getElem?_eq_getElem hl]
  refine ⟨?_, by omega⟩
  congr 1
  omega
def spPieces (K : PySem.W.Frag) (C CR : Addr) : Sp := fun vs H Q _ => ∃ (p m : Addr) (xs : List Addr) (ws : List (List Int)) (mt : List Int), vs = [.ref p, .ref m] ∧ RimsAt K C CR H p xs ws ∧ RimOk ws ∧ SqE K H m (iv mt) ∧ MatesOk ws.flatten.length mt ∧
  ∀ q H', Same H H' → CornAt K H' q (pcF ws mt) → Q (.ref q) H'
abbrev nPieces : List Str := ["rims", "mates", "place", "mate"]
theorem PrN.put {K : PySem.W.Frag} {D : Addr} {H : Hp} {ws : List V} {o : HO} {v : V} {p : Nat × Nat} (hD : H D = some (.lst ws)) (h : PrN K H v p) : PrN K (L2.upd H D o) v p := by
  obtain ⟨q, e, t⟩ := h
  exact ⟨q, e, SqT.keptL hD Kept.upd t⟩
theorem pe_fldC {X : Cx} {K : PySem.W.Frag} {e : Expr} {f : Str} {pos : Pos} {ta : TE} (h : X.K = K) (he : PE X e ta) (hb : attributeBase e f X.env (eval e X.env) = eval e X.env) : PE X (.Attribute e f pos) (tFld K ta f) := pe_fldK h he hb
section
variable {P : Program} {w : World} {K : PySem.W.Frag} {mg : Str → Option Value} {base : Heap} {C CR CS : Addr}
theorem scPieces : FnScope nPieces ["rims", "mates"] (defScope sPieces) := ⟨rfl, rfl, rfl, by decide +kernel, rfl, by decide +kernel, by decide +kernel⟩
theorem ok_pieces {f : Addr} {fd : FuncData} (F : Fun K "pieces_of" "pieces_of" sPieces f fd) (TC : TxRC K mg CR) (TA : TxA mg) (R : TxR mg) (GJ : Cal P w K mg base "joined" 1 ["many", "pairs"] (spJoined K)) : FnOk P w K mg base CX0 2 f fd ["rims", "mates"] (spPieces K C CR) := by
  refine F.ok scPieces (fun vs H Q E h => ?_) (fun cdv A outer s H vs Q E hr h => ?_)
  · obtain ⟨p, m, xs, ws, mt, rfl, _⟩ := h
    rfl
  · obtain ⟨p, m, xs, ws, mt, rfl, R1, ⟨l1, l4, hne, l24, hl, hb⟩, hM, ⟨lm, hm⟩, k⟩ := h
    refine ⟨_, pss_one (ps_ret (pe_cal GJ hr (by decide) (by rfl) (pa_cons (pe_callB call_len_seq (by rfl) TA.len PySem.boot_len (pa_cons (pe_fld (pv 0) rfl) pa_nil)) (pa_cons (pe_lc (own := [("place", 2), ("mate", 3)]) (g := gTup K 2 (gCons (gName 2) (gCons (gName 3) gNil))) (tt := tYes) rfl scPieces.nd (pi_enumA (K := K) rfl (by rfl) R.enum (pa_cons (pv 1) pa_nil))
        (blkOk_by (N := nPieces) (sc := defScope sPieces) (by decide +kernel)) (fun _ _ _ _ _ => pg_tup (n := 2) rfl (pgs_cons (pg_name (i := 2) scPieces.nd rfl (Or.inl rfl)) (pgs_cons (pg_name (i := 3) scPieces.nd rfl (Or.inl rfl)) pgs_nil))) (fun _ _ _ _ _ => pts_nil)
        (fun _ _ _ _ _ => pe_tup (pa_cons (pe_ix (ixt (K := K) rfl) (pe_fldK (K := K) rfl (pv 0) rfl) (pv 2) (fun _ _ => rfl)) (pa_cons (pe_ix (ixt (K := K) rfl) (pe_fldK (K := K) rfl (pv 0) rfl) (pv 3) (fun _ _ => rfl)) pa_nil)))) pa_nil)))), ?_⟩
    have lxw : xs.length = ws.length := R1.choose_spec.choose_spec.choose_spec.choose_spec.choose_spec.2.2.1.length
    obtain ⟨dx, tw, tl, th, tn, h1, h2, h3, h4, h5, h6⟩ := id R1
    refine ⟨_, rfl, p, CR, dx, _, _, rfl, h1, TC.cl, TC.n1, rf_words, tw, _, rfl, .inr h2.sq, ?_⟩
    refine ar_lcA ?_
    refine ⟨_, rfl, m, _, rfl, hM, fun J G wk hG => ?_⟩
    refine lcY wk (fun _ _ _ _ => yp_same) (pcP ws mt) (fun _ H v b => PrN K H v b) (fun _ _ _ _ _ h s => h.same s) (fun _ _ _ _ _ _ hD h => h.put hD) (by rw [List.length_map]; omega) (by rw [List.length_map]; unfold pcP; rw [List.length_map, List.length_range]) hG ?_ (fun _ _ _ _ _ => gTup_mono) ?_
    · rintro i x b H2 H3 hb sm ⟨T, y1, y2, rfl, hT, rfl, e1, e2⟩ D hD _ Qy ky
      cases e1
      have hin : i < mt.length := by
        have := (List.getElem?_eq_some_iff.mp hb).1
        unfold pcP at this
        rwa [List.length_map, List.length_range] at this
      obtain rfl : y2 = V.int mt[i] := by
        have e2 : (iv mt)[i]? = some y2 := e2
        rw [List.getElem?_map, List.getElem?_eq_getElem hin] at e2
        exact (Option.some.inj e2).symm
      obtain ⟨z0, z1⟩ := hm _ (List.getElem_mem hin)
      have em : mt[i] = ((mt[i].toNat : Nat) : Int) := by omega
      obtain ⟨a1, b1⟩ := home_at (ws := ws) (i := i) (by omega)
      obtain ⟨a2, b2⟩ := home_at (ws := ws) (i := mt[i].toNat) (by omega)
      have eb : b = (home ws i, home ws mt[i].toNat) := by
        unfold pcP at hb
        rw [List.getElem?_map, List.getElem?_range hin] at hb
        have this : b = (home ws i, home ws (mt.getD i 0).toNat) := (Option.some.inj hb).symm
        rw [List.getD_eq_getElem?_getD, List.getElem?_eq_getElem hin] at this
        exact this
      have sT := sm.trans (same_upd (o := .tup [.int (i : Nat), .int mt[i]]) hT)
      refine ⟨T, _, rfl, SqT.of upd_same, rfl, _, _, rfl, _, _, rfl, rfl, rfl, ?_⟩
      refine ⟨_, rfl, p, CR, dx, _, _, rfl, sT _ _ h1, TC.cl, TC.n6, rf_homes, _, rfl, th, _, _, _, rfl, rfl, (SqB.same sT h5).sq, atI_nat (iv_get a1), ?_⟩
      refine ⟨_, rfl, p, CR, dx, _, _, rfl, sT _ _ h1, TC.cl, TC.n6, rf_homes, _, rfl, th, _, _, _, rfl, rfl, (SqB.same sT h5).sq, (by rw [em]; exact atI_nat (iv_get a2)), ?_⟩
      refine ⟨by show 2 ≤ sizeLine; decide, fun q hq => ?_⟩
      refine ky _ _ (same_upd hq) ⟨q, rfl, ?_⟩
      rw [eb]
      exact SqT.of upd_same
    · intro D H2 us hD s2 h2 hA
      have lu := hA.length
      refine ⟨ws.length, D, us, pcP ws mt, by rw [List.length_map, lxw]; rfl, h2, hA, by omega, ?_, ?_, fun q H3 s3 c3 => k q H3 (s2.trans s3) c3⟩
      · rw [lu]
        unfold pcP
        rw [List.length_map, List.length_range]
        omega
      · intro b hb
        unfold pcP at hb
        obtain ⟨i, hi, rfl⟩ := List.mem_map.mp hb
        rw [List.mem_range] at hi
        obtain ⟨z0, z1⟩ := hm _ (List.getElem_mem hi)
        have e : mt.getD i 0 = mt[i] := by
          rw [List.getD_eq_getElem?_getD, List.getElem?_eq_getElem hi]
          rfl
        rw [e]
        exact ⟨(home_at (by omega)).2, (home_at (by omega)).2⟩
end
end W14
set_option Elab.async false
set_option linter.all false
set_option maxRecDepth 100000
set_option maxHeartbeats 1000000
namespace W14
open PySem L2 PySem.Spec PyProof.Rows WR WB WE
theorem CornAt.same {K : PySem.W.Frag} {H H' : Hp} {a : Addr} {cs : List (List Nat)} (h : CornAt K H a cs) (s : Same H H') : CornAt K H' a cs := by
  obtain ⟨vs, h1, h2⟩ := h
  exact ⟨vs, SqB.same s h1, h2.imp fun _ _ ⟨q, e, r⟩ => ⟨q, e, SqB.same s r⟩⟩
theorem CornAt.put {K : PySem.W.Frag} {H : Hp} {a p C dx : Addr} {fs : List (Str × V)} {o : HO} {cs : List (List Nat)} (h : CornAt K H a cs) (hp : H p = some (.ins C dx fs)) : CornAt K (L2.upd H p o) a cs := by
  obtain ⟨vs, h1, h2⟩ := h
  exact ⟨vs, SqB.put h1 hp, h2.imp fun _ _ ⟨q, e, r⟩ => ⟨q, e, SqB.put r hp⟩⟩
def cornF (ws : List (List Int)) (mt : List Int) : List (List Nat) := (crn (nxF 0 ws) mt ws.flatten.length ws.flatten.length).2
def costF (ws : List (List Int)) (mt : List Int) : Int := ((ws.flatten.length / 2 : Nat) : Int) - ((cornF ws mt).length : Int)
def handF (ws : List (List Int)) (mt : List Int) : Int := (2 * ((pcF ws mt).length : Int) - (ws.length : Int) + costF ws mt) / 2
def sf (rp tm tc : Addr) (c : Int) (tp : Addr) (g : Int) : List (Str × V) := [("rims", .ref rp), ("mates", .ref tm), ("corners", .ref tc), ("cost", .int c), ("pieces", .ref tp), ("handles", .int g)]
theorem ps1 {rp : Addr} : putF "rims" (.ref rp) ([] : List (Str × V)) = ([("rims", .ref rp)] : List (Str × V)) := rfl
theorem ps2 {rp tm : Addr} : putF "mates" (.ref tm) ([("rims", .ref rp)] : List (Str × V)) = ([("rims", .ref rp), ("mates", .ref tm)] : List (Str × V)) := by
  rw [pf_ne (show ¬ (("rims" : Str) = "mates") by decide +kernel)]
  rfl
theorem ps3 {rp tm tc : Addr} : putF "corners" (.ref tc) ([("rims", .ref rp), ("mates", .ref tm)] : List (Str × V)) = ([("rims", .ref rp), ("mates", .ref tm), ("corners", .ref tc)] : List (Str × V)) := by
  rw [pf_ne (show ¬ (("rims" : Str) = "corners") by decide +kernel), pf_ne (show ¬ (("mates" : Str) = "corners") by decide +kernel)]
  rfl
theorem ps4 {rp tm tc : Addr} {c : Int} : putF "cost" (.int c) ([("rims", .ref rp), ("mates", .ref tm), ("corners", .ref tc)] : List (Str × V)) = ([("rims", .ref rp), ("mates", .ref tm), ("corners", .ref tc), ("cost", .int c)] : List (Str × V)) := by
  rw [pf_ne (show ¬ (("rims" : Str) = "cost") by decide +kernel), pf_ne (show ¬ (("mates" : Str) = "cost") by decide +kernel), pf_ne (show ¬ (("corners" : Str) = "cost") by decide +kernel)]
  rfl
theorem ps5 {rp tm tc tp : Addr} {c : Int} : putF "pieces" (.ref tp) ([("rims", .ref rp), ("mates", .ref tm), ("corners", .ref tc), ("cost", .int c)] : List (Str × V)) = ([("rims", .ref rp), ("mates", .ref tm), ("corners", .ref tc), ("cost", .int c), ("pieces", .ref tp)] : List (Str × V)) := by
  rw [pf_ne (show ¬ (("rims" : Str) = "pieces") by decide +kernel), pf_ne (show ¬ (("mates" : Str) = "pieces") by decide +kernel), pf_ne (show ¬ (("corners" : Str) = "pieces") by decide +kernel), pf_ne (show ¬ (("cost" : Str) = "pieces") by decide +kernel)]
  rfl
theorem ps6 {rp tm tc tp : Addr} {c g : Int} : putF "handles" (.int g) ([("rims", .ref rp), ("mates", .ref tm), ("corners", .ref tc), ("cost", .int c), ("pieces", .ref tp)] : List (Str × V)) = sf rp tm tc c tp g := by
  rw [pf_ne (show ¬ (("rims" : Str) = "handles") by decide +kernel), pf_ne (show ¬ (("mates" : Str) = "handles") by decide +kernel), pf_ne (show ¬ (("corners" : Str) = "handles") by decide +kernel), pf_ne (show ¬ (("cost" : Str) = "handles") by decide +kernel), pf_ne (show ¬ (("pieces" : Str) = "handles") by decide +kernel)]
  rfl
theorem sf_rims {rp tm tc tp : Addr} {c g : Int} : (sf rp tm tc c tp g).lookup ("rims" : Str) = some (.ref rp) := lk_eq
theorem sf_mates {rp tm tc tp : Addr} {c g : Int} : (sf rp tm tc c tp g).lookup ("mates" : Str) = some (.ref tm) := by
  unfold sf
  rw [lk_ne (by decide +kernel)]
  exact lk_eq
theorem sf_corners {rp tm tc tp : Addr} {c g : Int} : (sf rp tm tc c tp g).lookup ("corners" : Str) = some (.ref tc) := by
  unfold sf
  rw [lk_ne (by decide +kernel), lk_ne (by decide +kernel)]
  exact lk_eq
theorem sf_cost {rp tm tc tp : Addr} {c g : Int} : (sf rp tm tc c tp g).lookup ("cost" : Str) = some (.int c) := by
  unfold sf
  rw [lk_ne (by decide +kernel), lk_ne (by decide +kernel), lk_ne (by decide +kernel)]
  exact lk_eq
theorem sf_pieces {rp tm tc tp : Addr} {c g : Int} : (sf rp tm tc c tp g).lookup ("pieces" : Str) = some (.ref tp) := by
  unfold sf
  rw [lk_ne (by decide +kernel), lk_ne (by decide +kernel), lk_ne (by decide +kernel), lk_ne (by decide +kernel)]
  exact lk_eq
theorem sf_handles {rp tm tc tp : Addr} {c g : Int} : (sf rp tm tc c tp g).lookup ("handles" : Str) = some (.int g) := by
  unfold sf
  rw [lk_ne (by decide +kernel), lk_ne (by decide +kernel), lk_ne (by decide +kernel), lk_ne (by decide +kernel), lk_ne (by decide +kernel)]
  exact lk_eq
def SewAt (K : PySem.W.Frag) (C CR CS : Addr) (H : Hp) (p rp : Addr) (xs : List Addr) (ws : List (List Int)) (mt : List Int) : Prop :=
  ∃ dx tm tc tp, H p = some (.ins CS dx (sf rp tm tc (costF ws mt) tp (handF ws mt))) ∧ RimsAt K C CR H rp xs ws ∧ SqB K H tm (iv mt) ∧ CornAt K H tc (cornF ws mt) ∧ CornAt K H tp (pcF ws mt)
theorem SewAt.same {K : PySem.W.Frag} {C CR CS : Addr} {H H' : Hp} {p rp : Addr} {xs : List Addr} {ws : List (List Int)} {mt : List Int} (h : SewAt K C CR CS H p rp xs ws mt) (s : Same H H') : SewAt K C CR CS H' p rp xs ws mt := by
  obtain ⟨dx, tm, tc, tp, h1, h2, h3, h4, h5⟩ := h
  exact ⟨dx, tm, tc, tp, s _ _ h1, h2.same s, SqB.same s h3, h4.same s, h5.same s⟩
theorem tup_of {K : PySem.W.Frag} {H : Hp} {m : Addr} {xs : List V} {Q : VK} (h : SqW K H m xs) (k : NewB K H Q xs) : (SqL K H m xs ∧ NewB K H Q xs) ∨ (SqB K H m xs ∧ Q (.ref m) H) :=
  h.elim (fun a => .inl ⟨a, k⟩) fun b => .inr ⟨b, k.self b⟩
structure TxSC (K : PySem.W.Frag) (mg : Str → Option Value) (CS : Addr) : Prop where
  cl : Cls K CS
  n1 : NoAttr K CS "rims"
  n2 : NoAttr K CS "mates"
  n3 : NoAttr K CS "corners"
  n4 : NoAttr K CS "cost"
  n5 : NoAttr K CS "pieces"
  n6 : NoAttr K CS "handles"
  mgS : mg "Sewing" = some (.ref CS)
  ca : PySem.W.findIn K (.ref CS) "__class__" = some (some (.builtin "object.__class__"))
  cm : PySem.W.mroIn K CS (.type "object") = some true
def spInitS (K : PySem.W.Frag) (C CR CS : Addr) : Sp := fun vs H Q _ => ∃ (H0 : Hp) (p dx rp m : Addr) (xs : List Addr) (ws : List (List Int)) (mt : List Int), vs = [.ref p, .ref rp, .ref m] ∧ Same H0 H ∧ H0 p = none ∧ H p = some (.ins CS dx []) ∧ RimsAt K C CR H0 rp xs ws ∧ RimOk ws ∧ SqW K H0 m (iv mt) ∧ MatOk ws.flatten mt ∧
  ∀ H', Same H0 H' → SewAt K C CR CS H' p rp xs ws mt → Q .non H'
abbrev nInitS : List Str := ["self", "rims", "mates"]
section
variable {P : Program} {w : World} {K : PySem.W.Frag} {mg : Str → Option Value} {base : Heap} {C CR CS : Addr}
theorem scInitS : FnScope nInitS ["self", "rims", "mates"] (defScope sInitS) := ⟨rfl, rfl, rfl, by decide +kernel, rfl, by decide +kernel, by decide +kernel⟩
theorem ok_initS {f : Addr} {fd : FuncData} (F : Fun K "__init__" "Sewing.__init__" sInitS f fd) (TC : TxRC K mg CR) (TS : TxSC K mg CS) (TA : TxA mg) (GR : Cal P w K mg base "need_rims" 1 ["value", "part"] (spNeedR K C CR)) (GM : Cal P w K mg base "are_mates" 4 ["letters", "value"] (spAreM K))
    (GC : Cal P w K mg base "corners_of" 1 ["rims", "mates"] (spCorn K C CR)) (GP : Cal P w K mg base "pieces_of" 2 ["rims", "mates"] (spPieces K C CR)) : FnOk P w K mg base CX0 5 f fd ["self", "rims", "mates"] (spInitS K C CR CS) := by
  refine F.ok scInitS (fun vs H Q E h => ?_) (fun cdv A outer s H vs Q E hr h => ?_)
  · obtain ⟨H0, p, dx, rp, m, xs, ws, mt, rfl, _⟩ := h
    rfl
  · obtain ⟨H0, p, dx, rp, m, xs, ws, mt, rfl, s0, p0, hp, R0, ok, hM, mk, k⟩ := h
    refine ⟨_, pss_cons (ps_expr (pe_cal GR hr (by decide) (by rfl) (pa_cons (pv 1) (pa_cons pe_str pa_nil))))
      (pss_cons (ps_if (pt_not (pt_val (pe_cal GM hr (by decide) (by rfl) (pa_cons (pe_fld (pv 1) rfl) (pa_cons (pv 2) pa_nil))))) (pss_one ps_never) pss_nil)
      (pss_cons (ps_fld (pv 0) (pv 1) rfl)
      (pss_cons (ps_fld (pv 0) (pe_callTy call_tupB (by rfl) TA.tuple (by decide +kernel) (pa_cons (pv 2) pa_nil)) rfl)
      (pss_cons (ps_fld (pv 0) (pe_cal GC hr (by decide) (by rfl) (pa_cons (pv 1) (pa_cons (pv 2) pa_nil))) rfl)
      (pss_cons (ps_fld (pv 0) (pe_op op_sub (pe_fld (pv 1) rfl) (pe_callB call_len_seq (by rfl) TA.len PySem.boot_len (pa_cons (pe_fld (pv 0) rfl) pa_nil))) rfl)
      (pss_cons (ps_fld (pv 0) (pe_cal GP hr (by decide) (by rfl) (pa_cons (pv 1) (pa_cons (pv 2) pa_nil))) rfl)
      (pss_one (ps_fld (pv 0) (pe_op op_fdiv (pe_op op_add (pe_op op_sub (pe_op op_mul pe_int (pe_callB call_len_seq (by rfl) TA.len PySem.boot_len (pa_cons (pe_fld (pv 0) rfl) pa_nil))) (pe_callB call_len_seq (by rfl) TA.len PySem.boot_len (pa_cons (pe_fld (pv 1) rfl) pa_nil))) (pe_fld (pv 0) rfl)) pe_int) rfl)))))))), ?_⟩
    have l24 := ok.2.2.2.1
    obtain ⟨dr, tw, tl, th, tn, h1, h2, h3, h4, h5, h6⟩ := id R0
    have lxw : xs.length = ws.length := h3.length
    refine ⟨_, rfl, rp, _, xs, ws, rfl, R0.same s0, ?_⟩
    refine ⟨_, rfl, rp, CR, dr, _, _, rfl, s0 _ _ h1, TC.cl, TC.n2, rf_letters, _, rfl, tl, m, ws.flatten, mt, rfl, SqB.same s0 h4, hM.e.same s0, by omega, mk, fun H1 s1 => ⟨_, rfl, iteF ?_⟩⟩
    have s01 := s0.trans s1
    have hp1 := s1 _ _ hp
    -- its rims
    refine ⟨_, rfl, _, rfl, p, CS, dx, _, rfl, hp1, TS.cl, TS.n1, (by show 0 < 1000; decide), ?_⟩
    have s02 := same_put (o := (.ins CS dx (putF "rims" (.ref rp) []))) s01 p0
    have hp2 : L2.upd H1 p (.ins CS dx (putF "rims" (.ref rp) [])) p = some (.ins CS dx [("rims", .ref rp)]) := by rw [upd_same, ps1]
    obtain ⟨H2, e2⟩ : ∃ H', H' = L2.upd H1 p (.ins CS dx (putF "rims" (.ref rp) [])) := ⟨_, rfl⟩
    rw [← e2] at s02 hp2 ⊢
    clear e2
    -- its mates
    refine ⟨_, rfl, m, iv mt, rfl, tup_of (hM.same s02) fun tm H3 s3 B3 => ?_⟩
    have hp3 := s3 _ _ hp2
    have s03 := s02.trans s3
    refine ⟨_, rfl, p, CS, dx, _, rfl, hp3, TS.cl, TS.n2, (by show 1 < 1000; decide), ?_⟩
    have s04 := same_put (o := (.ins CS dx (putF "mates" (.ref tm) [("rims", .ref rp)]))) s03 p0
    have hp4 : L2.upd H3 p (.ins CS dx (putF "mates" (.ref tm) [("rims", .ref rp)])) p = some (.ins CS dx [("rims", .ref rp), ("mates", .ref tm)]) := by rw [upd_same, ps2]
    have B4 := SqB.put (o := (.ins CS dx (putF "mates" (.ref tm) [("rims", .ref rp)]))) B3 hp3
    obtain ⟨H4, e4⟩ : ∃ H', H' = L2.upd H3 p (.ins CS dx (putF "mates" (.ref tm) [("rims", .ref rp)])) := ⟨_, rfl⟩
    rw [← e4] at s04 hp4 B4 ⊢
    clear e4
    -- its corners
    refine ⟨_, rfl, _, rfl, rp, m, xs, ws, mt, rfl, R0.same s04, ok, hM.e.same s04, mk.1.1, fun tc H5 s5 C5 => ?_⟩
    have hp5 := s5 _ _ hp4
    have s05 := s04.trans s5
    have B5 := SqB.same s5 B4
    refine ⟨_, rfl, p, CS, dx, _, rfl, hp5, TS.cl, TS.n3, (by show 2 < 1000; decide), ?_⟩
    have s06 := same_put (o := (.ins CS dx (putF "corners" (.ref tc) [("rims", .ref rp), ("mates", .ref tm)]))) s05 p0
    have hp6 : L2.upd H5 p (.ins CS dx (putF "corners" (.ref tc) [("rims", .ref rp), ("mates", .ref tm)])) p = some (.ins CS dx [("rims", .ref rp), ("mates", .ref tm), ("corners", .ref tc)]) := by rw [upd_same, ps3]
    have B6 := SqB.put (o := (.ins CS dx (putF "corners" (.ref tc) [("rims", .ref rp), ("mates", .ref tm)]))) B5 hp5
    have C6 := CornAt.put (o := (.ins CS dx (putF "corners" (.ref tc) [("rims", .ref rp), ("mates", .ref tm)]))) C5 hp5
    obtain ⟨H6, e6⟩ : ∃ H', H' = L2.upd H5 p (.ins CS dx (putF "corners" (.ref tc) [("rims", .ref rp), ("mates", .ref tm)])) := ⟨_, rfl⟩
    rw [← e6] at s06 hp6 B6 C6 ⊢
    clear e6
    -- its cost
    have C6' : CornAt K H6 tc (cornF ws mt) := C6
    obtain ⟨vc, c1, c2⟩ := id C6'
    have lvc : vc.length = (cornF ws mt).length := c2.length
    refine ⟨_, rfl, rp, CR, dr, _, _, rfl, s06 _ _ h1, TC.cl, TC.n4, rf_bands, _, rfl, p, CS, dx, _, _, rfl, hp6, TS.cl, TS.n3, ?_, tc, _, rfl, .inr c1.sq, _, _, rfl, rfl, ?_⟩
    · rw [lk_ne (by decide +kernel), lk_ne (by decide +kernel)]
      exact lk_eq
    have ec : ((ws.flatten.length / 2 : Nat) : Int) - ((vc.length : Nat) : Int) = costF ws mt := by
      unfold costF
      rw [lvc]
    try dsimp only
    rw [ec]
    refine ⟨_, rfl, p, CS, dx, _, rfl, hp6, TS.cl, TS.n4, (by show 3 < 1000; decide), ?_⟩
    have s07 := same_put (o := (.ins CS dx (putF "cost" (.int (costF ws mt)) [("rims", .ref rp), ("mates", .ref tm), ("corners", .ref tc)]))) s06 p0
    have hp7 : L2.upd H6 p (.ins CS dx (putF "cost" (.int (costF ws mt)) [("rims", .ref rp), ("mates", .ref tm), ("corners", .ref tc)])) p = some (.ins CS dx [("rims", .ref rp), ("mates", .ref tm), ("corners", .ref tc), ("cost", .int (costF ws mt))]) := by rw [upd_same, ps4]
    have B7 := SqB.put (o := (.ins CS dx (putF "cost" (.int (costF ws mt)) [("rims", .ref rp), ("mates", .ref tm), ("corners", .ref tc)]))) B6 hp6
    have C7 := CornAt.put (o := (.ins CS dx (putF "cost" (.int (costF ws mt)) [("rims", .ref rp), ("mates", .ref tm), ("corners", .ref tc)]))) C6' hp6
    obtain ⟨H7, e7⟩ : ∃ H', H' = L2.upd H6 p (.ins CS dx (putF "cost" (.int (costF ws mt)) [("rims", .ref rp), ("mates", .ref tm), ("corners", .ref tc)])) := ⟨_, rfl⟩
    rw [← e7] at s07 hp7 B7 C7 ⊢
    clear e7
    -- its pieces
    refine ⟨_, rfl, _, rfl, rp, m, xs, ws, mt, rfl, R0.same s07, ok, hM.e.same s07, mk.1.1, fun tp H8 s8 P8 => ?_⟩
    have hp8 := s8 _ _ hp7
    have s08 := s07.trans s8
    have B8 := SqB.same s8 B7
    have C8 := C7.same s8
    refine ⟨_, rfl, p, CS, dx, _, rfl, hp8, TS.cl, TS.n5, (by show 4 < 1000; decide), ?_⟩
    have s09 := same_put (o := (.ins CS dx (putF "pieces" (.ref tp) [("rims", .ref rp), ("mates", .ref tm), ("corners", .ref tc), ("cost", .int (costF ws mt))]))) s08 p0
    have hp9 : L2.upd H8 p (.ins CS dx (putF "pieces" (.ref tp) [("rims", .ref rp), ("mates", .ref tm), ("corners", .ref tc), ("cost", .int (costF ws mt))])) p = some (.ins CS dx [("rims", .ref rp), ("mates", .ref tm), ("corners", .ref tc), ("cost", .int (costF ws mt)), ("pieces", .ref tp)]) := by rw [upd_same, ps5]
    have B9 := SqB.put (o := (.ins CS dx (putF "pieces" (.ref tp) [("rims", .ref rp), ("mates", .ref tm), ("corners", .ref tc), ("cost", .int (costF ws mt))]))) B8 hp8
    have C9 := CornAt.put (o := (.ins CS dx (putF "pieces" (.ref tp) [("rims", .ref rp), ("mates", .ref tm), ("corners", .ref tc), ("cost", .int (costF ws mt))]))) C8 hp8
    have P9 := CornAt.put (o := (.ins CS dx (putF "pieces" (.ref tp) [("rims", .ref rp), ("mates", .ref tm), ("corners", .ref tc), ("cost", .int (costF ws mt))]))) P8 hp8
    obtain ⟨H9, e9⟩ : ∃ H', H' = L2.upd H8 p (.ins CS dx (putF "pieces" (.ref tp) [("rims", .ref rp), ("mates", .ref tm), ("corners", .ref tc), ("cost", .int (costF ws mt))])) := ⟨_, rfl⟩
    rw [← e9] at s09 hp9 B9 C9 P9 ⊢
    clear e9
    -- its handles
    obtain ⟨vp, q1, q2⟩ := id P9
    have lvp : vp.length = (pcF ws mt).length := q2.length
    have k5 : List.lookup ("pieces" : Str) ([("rims", .ref rp), ("mates", .ref tm), ("corners", .ref tc), ("cost", .int (costF ws mt)), ("pieces", .ref tp)] : List (Str × V)) = some (.ref tp) := by
      rw [lk_ne (by decide +kernel), lk_ne (by decide +kernel), lk_ne (by decide +kernel), lk_ne (by decide +kernel)]
      exact lk_eq
    have k4 : List.lookup ("cost" : Str) ([("rims", .ref rp), ("mates", .ref tm), ("corners", .ref tc), ("cost", .int (costF ws mt)), ("pieces", .ref tp)] : List (Str × V)) = some (.int (costF ws mt)) := by
      rw [lk_ne (by decide +kernel), lk_ne (by decide +kernel), lk_ne (by decide +kernel)]
      exact lk_eq
    refine ⟨_, rfl, p, CS, dx, _, _, rfl, hp9, TS.cl, TS.n5, k5, tp, _, rfl, .inr q1.sq, _, _, rfl, rfl, .inl ⟨by decide, by decide⟩, ?_⟩
    refine ⟨_, rfl, rp, CR, dr, _, _, rfl, s09 _ _ h1, TC.cl, TC.n1, rf_words, tw, _, rfl, .inr (SqB.same s09 h2).sq, _, _, rfl, rfl, ?_⟩
    refine ⟨_, rfl, p, CS, dx, _, _, rfl, hp9, TS.cl, TS.n4, k4, _, _, rfl, rfl, ?_⟩
    refine ⟨_, _, rfl, rfl, ⟨by decide, by decide⟩, ?_⟩
    have eg : (2 * ((vp.length : Nat) : Int) - (((xs.map V.ref).length : Nat) : Int) + costF ws mt) / 2 = handF ws mt := by
      unfold handF
      rw [lvp, List.length_map, lxw]
    try dsimp only
    rw [eg]
    refine ⟨_, rfl, p, CS, dx, _, rfl, hp9, TS.cl, TS.n6, (by show 5 < 1000; decide), ?_⟩
    have s10 := same_put (o := (.ins CS dx (putF "handles" (.int (handF ws mt)) [("rims", .ref rp), ("mates", .ref tm), ("corners", .ref tc), ("cost", .int (costF ws mt)), ("pieces", .ref tp)]))) s09 p0
    refine k _ s10 ⟨dx, tm, tc, tp, by rw [upd_same, ps6], R0.same s10, SqB.put B9 hp9, C9.put hp9, P9.put hp9⟩
end
end W14
set_option Elab.async false
set_option linter.all false
set_option maxRecDepth 100000
set_option maxHeartbeats 2000000
/-! try with several except clauses, each with a name or without. -/
namespace TM
open PySem PySem.Spec PyProof.Rows L2
/-- a clause: its class, the slot of its name if it has one, what its suite says -/
structure Cla where
  of : Value
  slot : Option Nat
  say : Addr → Value → Option Addr → TS
def offS : Option Nat → L2.St → L2.St
  | none, σ => σ
  | some i, σ => σ.set i none
def onS : Option Nat → Addr → L2.St → L2.St
  | none, _, σ => σ
  | some i, a, σ => σ.set i (some (.ref a))
def endsS (o : Option Nat) (D : Ends) : Ends := { nx := fun σ H => D.nx (offS o σ) H, rt := D.rt, bk := fun σ H => D.bk (offS o σ) H, ct := fun σ H => D.ct (offS o σ) H }
/-- the first clause that fits takes it -/
def wish (K : PySem.W.Frag) (out : WX) (D : Ends) : List Cla → WX
  | [] => out
  | q :: r => fun cls d σ H => ∃ b, PySem.W.exmOne K cls q.of = some b ∧ (b = true → ∀ a, H a = none → q.say a cls d (endsS q.slot D) (onS q.slot a σ) H) ∧ (b = false → wish K out D r cls d σ H)
def Says (X : Cx) (bs : List Stmt) (say : Addr → Value → Option Addr → TS) : Prop :=
  ∀ (a : Addr) (o : Obj) (cls : Value) (d : Option Addr) (pn : List (Addr × Obj)), Zc cls d o → (∃ vs, o.data = .fields vs) → PSs (X.suite a ((a, o) :: pn)) bs (say a cls d)
inductive Fit (X : Cx) : ExceptHandler → Cla → Prop
  | bare {x : Str} {c : Value} {say : Addr → Value → Option Addr → TS} {b : Stmt} {bs : List Stmt} {p1 p2 : Pos} (hc : Names X x c) (hs : Says X (b :: bs) say) : Fit X (.ExceptHandler (some (.Name x p1)) none (b :: bs) p2) ⟨c, none, say⟩
  | named {x n : Str} {i : Nat} {c : Value} {say : Addr → Value → Option Addr → TS} {b : Stmt} {bs : List Stmt} {p1 p2 : Pos} (hN : X.N.Nodup) (hi : X.N[i]? = some n) (hl : X.env.kindOf n = some .local) (hc : Names X x c) (hs : Says X (b :: bs) say) :
      Fit X (.ExceptHandler (some (.Name x p1)) (some n) (b :: bs) p2) ⟨c, some i, say⟩
inductive Fits (X : Cx) : List ExceptHandler → List Cla → Prop
  | nil : Fits X [] []
  | cons {h : ExceptHandler} {q : Cla} {hs : List ExceptHandler} {l : List Cla} (f : Fit X h q) (r : Fits X hs l) : Fits X (h :: hs) (q :: l)
/-- an exception that flies over X's frame, with the state that it left -/
structure Held (X : Cx) (pins : List (Addr × Obj)) (σ : L2.St) (H : Hp) (cls : Value) (d : Option Addr) (a : Addr) (B : Heap) (s0 s : Shared) : Prop where
  inv : Inv X pins σ H s0
  old : ∀ b o, s0.heap.get? b = some o → b ∉ frs X.stack → B.get? b = some o
  up : s0.heap.UpToSlots s.heap
  fly : HandSPX.FlyingZ B (X.env :: X.outer) a (Zc cls d) s.heap
  os : s.os = s0.os
  bare : AllBare s.gens
  free : H a = none
section
variable {X : Cx} {pins : List (Addr × Obj)} {σ : L2.St} {H : Hp} {D : Ends} {out : WX} {cls : Value} {d : Option Addr} {a : Addr} {B : Heap} {s0 s : Shared}
theorem Held.now (h : Held X pins σ H cls d a B s0 s) : Inv X pins σ H s := h.inv.landed h.old h.fly.1 h.up h.os h.bare
theorem Held.pinned (h : Held X pins σ H cls d a B s0 s) (hf : X.env.frame = some X.env.locals) : ∃ o : Obj, s.heap.get? a = some o ∧ Zc cls d o ∧ (∃ vs, o.data = .fields vs) ∧ Inv (X.suite a ((a, o) :: (X.pn ++ pins))) [] σ H s := by
  obtain ⟨o, vs, ea, z, ed⟩ := h.fly.there
  have out_ : a ∉ frs (X.env :: X.outer) := fun hm => by
    obtain ⟨_, o', e', nf⟩ := h.fly.2.2.1.mem hm
    rw [ea] at e'
    cases e'
    exact nf _ ed
  have n1 : a ≠ X.env.locals := fun z => out_ (List.mem_filterMap.mpr ⟨X.env, List.mem_cons_self, by rw [hf, z]⟩)
  have n2 : a ∉ X.fs := fun hm => by
    obtain ⟨e, he, q⟩ := List.mem_filterMap.mp hm
    exact out_ (List.mem_filterMap.mpr ⟨e, List.mem_cons_of_mem _ he, q⟩)
  exact ⟨o, ea, z, ⟨vs, ed⟩, h.now.suite ea ed h.free n1 n2⟩
/-- the clause's class is named, and held against the exception's -/
theorem Held.asked (h : Held X pins σ H cls d a B s0 s) (hf : X.env.frame = some X.env.locals) {x : Str} {c : Value} {b : Bool} {p : Pos} {Q : Bool → Shared → Prop} {E : Value → Shared → Prop} (hc : Names X x c) (eb : PySem.W.exmOne X.K cls c = some b)
    {G : Value → Sem Bool} (hG : ∀ {Q' : Bool → Shared → Prop}, Q' b s → wpAny (model X.prog X.w) (X.A.mark (some (.ref a))) (G c) Q' E s) (k : Q b s) :
    wpAny (model X.prog X.w) (X.A.mark (some (.ref a))) (eval (.Name x p) X.env >>= G) Q E s := by
  obtain ⟨o, ea, z, ed, S⟩ := h.pinned hf
  refine wpAny_bind ?_
  obtain ⟨g1, g2, m | ⟨m, v, nn⟩⟩ := hc
  · exact ld_glob (X := X.suite a ((a, o) :: (X.pn ++ pins))) S g1 m (hG k) g2
  · exact ld_blt (X := X.suite a ((a, o) :: (X.pn ++ pins))) S g1 m v (hG k) nn g2
theorem Held.pass (h : Held X pins σ H cls d a B s0 s) (hs : X.stack = X.env :: X.outer) (hf : X.env.frame = some X.env.locals) (tk : Takes X out) (w : out cls d σ H) : wpAny (model X.prog X.w) X.A (handleBy (.ref a) X.env []) (SP X pins D) X.xe s := by
  obtain ⟨_, _, _, oe, vs, T, oT, ts', he, hz, hd, h1, _⟩ := id h.fly
  refine wpAny_handleBy_nil ?_
  unfold PySem.passOn
  refine wpAny_bind (wpAny_field he hd h1 ?_)
  rw [if_neg (show ¬ ((Value.ref T == Value.none) = true) from by simp)]
  have last : wpAny (model X.prog X.w) X.A (setFlight (.ref a) X.env.frame) (fun _ s4 => wpAny (model X.prog X.w) X.A (throw (.ref a) : Sem Flow) (SP X pins D) X.xe s4) X.xe s := by
    rw [hf]
    exact HandSPX.setFlight_upZ h.fly fun h4 hh4 up4 => wpAny_throw (tk _ _ ⟨a, B, s0, pins, σ, H, cls, d, rfl, h.inv, h.old, h.up.trans up4, .inr (.inr (by rw [hs]; exact hh4)), h.free, h.os, h.bare, w⟩)
  first
    | exact wpAny_bind (wpAny_pure (wpAny_bind last))
    | exact wpAny_bind last
theorem Held.goes (h : Held X pins σ H cls d a B s0 s) (hs : X.stack = X.env :: X.outer) (hf : X.env.frame = some X.env.locals) (tk : Takes X out) {hds : List ExceptHandler} {l : List Cla} (fs : Fits X hds l) (w : wish X.K out D l cls d σ H) :
    wpAny (model X.prog X.w) X.A (handleBy (.ref a) X.env hds) (SP X pins D) X.xe s := by
  induction fs with
  | nil => exact h.pass hs hf tk w
  | @cons hd q hds l f r ih =>
    obtain ⟨b, eb, yes, no⟩ := w
    obtain ⟨o, ea, z, ed, S⟩ := h.pinned hf
    have look : PySem.W.Looks (model X.prog X.w) s.heap (typeOf (.ref a)) cls := fun A Q E s' k q => wpAny_typeOf_ref (k _ _ ea) (by rw [z.1]; exact q)
    have lm := PySem.W.exm_one (M := model X.prog X.w) h.now.kIn look eb
    have named : ∀ {x : Str} {c : Value} {p : Pos} {Q : Value → Shared → Prop} {E : Value → Shared → Prop}, Names X x c → Q c s → wpAny (model X.prog X.w) (X.A.mark (some (.ref a))) (eval (.Name x p) X.env) Q E s := fun {x c p Q E} hc k => by
      obtain ⟨g1, g2, m | ⟨m, v, nn⟩⟩ := hc
      · exact ld_glob (X := X.suite a ((a, o) :: (X.pn ++ pins))) S g1 m k g2
      · exact ld_blt (X := X.suite a ((a, o) :: (X.pn ++ pins))) S g1 m v k nn g2
    cases f with
    | bare hc say =>
      refine wpAny_handleBy_cons (codeAny_handlers_test (named hc (lm.here ?_))) (by intro q; cases q)
      cases b with
      | false => exact ih (no rfl)
      | true =>
        refine codeAny_handlers_suite (HandSPX.lands_againZ h.fly fun h4 fl4 up4 => ?_)
        have h' : Held X pins σ H cls d a B s0 { s with heap := h4 } := ⟨h.inv, h.old, h.up.trans up4, fl4, h.os, h.bare, h.free⟩
        obtain ⟨o4, _, z4, ed4, S4⟩ := h'.pinned hf
        refine wpAny_mono ((say a o4 cls d (X.pn ++ pins) z4 ed4).run [] _ _ H _ S4 (yes rfl a h.free)) (fun f s6 hsp => ?_) (fun _ _ z => False.elim z)
        have ok := h.inv.ok
        cases f with
        | next => obtain ⟨σ6, H6, S6, q6⟩ := hsp; exact ⟨_, _, S6.unsuite ok, q6⟩
        | brk => obtain ⟨σ6, H6, S6, q6⟩ := hsp; exact ⟨_, _, S6.unsuite ok, q6⟩
        | cont => obtain ⟨σ6, H6, S6, q6⟩ := hsp; exact ⟨_, _, S6.unsuite ok, q6⟩
        | ret u => obtain ⟨v6, σ6, H6, S6, r6, q6⟩ := hsp; exact ⟨_, _, _, S6.unsuite ok, r6, q6⟩
    | @named x n i c say0 b0 bs p1 p2 hN hi hl hc say =>
      refine wpAny_handleBy_cons (codeAny_handlers_test (named hc (lm.here ?_))) (by intro q; cases q)
      cases b with
      | false => exact ih (no rfl)
      | true =>
        refine codeAny_handlers_suite_as (HandSPX.lands_againZ h.fly fun h4 fl4 up4 => ?_)
        have h' : Held X pins σ H cls d a B s0 { s with heap := h4 } := ⟨h.inv, h.old, h.up.trans up4, fl4, h.os, h.bare, h.free⟩
        obtain ⟨o4, _, z4, ed4, S4⟩ := h'.pinned hf
        refine store_ok (X := X.suite a ((a, o4) :: (X.pn ++ pins))) (v := .ref a) S4 hN hi (.inl hl) rfl (fun s5 S5 => ?_) (.inr hl)
        refine wpAny_mono ((say a o4 cls d (X.pn ++ pins) z4 ed4).run [] s5 _ H _ S5 (yes rfl a h.free)) (fun f s6 hsp => ?_) (fun _ _ z => False.elim z)
        have ok := h.inv.ok
        have end_ : ∀ {σ6 : L2.St} {H6 : Hp} {Q : Shared → Prop}, Inv (X.suite a ((a, o4) :: (X.pn ++ pins))) [] σ6 H6 s6 → (∀ s7, Inv X pins (σ6.set i none) H6 s7 → Q s7) →
            wpAny (model X.prog X.w) X.A (do bindName X.env n .none; unbindBehindTheSuite X.env n p2) (fun _ s7 => Q s7) X.xe s6 := fun {σ6 H6 Q} S6 hq => gone_ok (S6.unsuite ok) hN hi hl hq
        cases f with
        | next => obtain ⟨σ6, H6, S6, q6⟩ := hsp; exact end_ S6 fun s7 J7 => ⟨_, _, J7, q6⟩
        | brk => obtain ⟨σ6, H6, S6, q6⟩ := hsp; exact end_ S6 fun s7 J7 => ⟨_, _, J7, q6⟩
        | cont => obtain ⟨σ6, H6, S6, q6⟩ := hsp; exact end_ S6 fun s7 J7 => ⟨_, _, J7, q6⟩
        | ret u => obtain ⟨v6, σ6, H6, S6, r6, q6⟩ := hsp; exact end_ S6 fun s7 J7 => ⟨_, _, _, J7, r6, q6⟩
end
section
variable {X : Cx} {body : List Stmt} {h0 : ExceptHandler} {hds : List ExceptHandler} {l : List Cla} {pos : Pos} {tb : WX → TS} {out : WX}
theorem ps_try_ms (hs : X.stack = X.env :: X.outer) (hf : X.env.frame = some X.env.locals) (tk : Takes X out)
    (hb : ∀ (W : WX) (pn : List (Addr × Obj)) (xe : Value → Shared → Prop), Takes (X.tr pn xe) W → PassesOwn (model X.prog X.w) X.A X.env xe → PSs (X.tr pn xe) body (tb W))
    (fs : Fits X (h0 :: hds) l) : PS X (.Try body (h0 :: hds) [] [] pos) (fun D σ H => tb (wish X.K out D l) D σ H) := by
  refine ⟨fun pins s σ H D I h => ?_⟩
  have ok := I.ok
  have hfr : X.A.frames = some (X.env :: X.outer) := by rw [ok.frames, hs]
  refine wpAny_Try_except (wpAny_mono ((hb (wish X.K out D l) (X.pn ++ pins) (fun e s₁ => wpAny (model X.prog X.w) X.A (noteFrame e X.env) (fun _ s₂ => wpAny (model X.prog X.w) X.A (setFlight e none) (fun _ s₃ =>
    wpAny (model X.prog X.w) X.A (handleBy e X.env (h0 :: hds)) (SP X pins D) X.xe s₃) X.xe s₂) X.xe s₁) (fun u s' xx => ?_) PassesOwn.looking).run [] s σ H D (I.toTry _) h) (fun f s1 hsp => ?_) (fun e s1 he => he))
  · obtain ⟨a, B, s0, pins', σ', H', cls, d, rfl, J', old, up, sky, free, os, bare, w⟩ := xx
    have sky' : Sky B (X.env :: X.outer) a (Zc cls d) X.env.locals s'.heap := by rw [← hs]; exact sky
    exact Sky.land Zc.steady hfr hf sky' fun h3 fl3 up3 => Held.goes (s := { s' with heap := h3 }) ⟨J'.ofTry ok, old, up.trans up3, fl3, os, bare, free⟩ hs hf tk fs w
  · cases f with
    | next => obtain ⟨σ', H', J', q⟩ := hsp; exact wpAny_execs_nil ⟨σ', H', J'.ofTry ok, q⟩
    | brk => obtain ⟨σ', H', J', q⟩ := hsp; exact ⟨σ', H', J'.ofTry ok, q⟩
    | cont => obtain ⟨σ', H', J', q⟩ := hsp; exact ⟨σ', H', J'.ofTry ok, q⟩
    | ret u => obtain ⟨v, σ', H', J', r, q⟩ := hsp; exact ⟨v, σ', H', J'.ofTry ok, r, q⟩
end
end TM
set_option Elab.async false
set_option linter.all false
set_option maxRecDepth 100000
set_option maxHeartbeats 600000
/-! Rounds of a permutation of 0 to n - 1: how many there are, and what an exchange of two places does to that. -/
namespace Cy
/-- f goes from below n to below n, no two to one -/
structure Bij (n : Nat) (f : Nat → Nat) : Prop where
  lt : ∀ i, i < n → f i < n
  inj : ∀ i j, i < n → j < n → f i = f j → i = j
/-- the greatest place passed over -/
def byp (n : Nat) (f : Nat → Nat) : Nat → Nat := fun x => if f x = n then f n else f x
def cyc : Nat → (Nat → Nat) → Nat
  | 0, _ => 0
  | n + 1, f => (if f n = n then 1 else 0) + cyc n (byp n f)
def swp (a b x : Nat) : Nat := if x = a then b else if x = b then a else x
theorem swp_l (a b : Nat) : swp a b a = b := if_pos rfl
theorem swp_r (a b : Nat) : swp a b b = a := by
  unfold swp
  split
  · rename_i h; exact h
  · rw [if_pos rfl]
theorem swp_o {a b x : Nat} (h1 : x ≠ a) (h2 : x ≠ b) : swp a b x = x := by
  unfold swp
  rw [if_neg h1, if_neg h2]
theorem swp_comm (a b x : Nat) : swp a b x = swp b a x := by
  by_cases h1 : x = a
  · subst h1
    rw [swp_l, swp_r]
  · by_cases h2 : x = b
    · subst h2
      rw [swp_l, swp_r]
    · rw [swp_o h1 h2, swp_o h2 h1]
theorem swp_swp (a b x : Nat) : swp a b (swp a b x) = x := by
  by_cases h1 : x = a
  · subst h1
    rw [swp_l, swp_r]
  · by_cases h2 : x = b
    · subst h2
      rw [swp_r, swp_l]
    · rw [swp_o h1 h2, swp_o h1 h2]
theorem swp_lt {n a b x : Nat} (ha : a < n) (hb : b < n) (hx : x < n) : swp a b x < n := by
  unfold swp
  split
  · exact hb
  · split
    · exact ha
    · exact hx
theorem Bij.swp {n : Nat} {f : Nat → Nat} (h : Bij n f) {a b : Nat} (ha : a < n) (hb : b < n) : Bij n fun x => f (Cy.swp a b x) :=
  ⟨fun i hi => h.lt _ (swp_lt ha hb hi), fun i j hi hj e => by
    have := h.inj _ _ (swp_lt ha hb hi) (swp_lt ha hb hj) e
    rw [← swp_swp a b i, this, swp_swp]⟩
theorem Bij.byp {n : Nat} {f : Nat → Nat} (h : Bij (n + 1) f) : Bij n (Cy.byp n f) := by
  refine ⟨fun i hi => ?_, fun i j hi hj e => ?_⟩
  · unfold Cy.byp
    split
    · rename_i hf
      have h1 := h.lt n (by omega)
      have : f n ≠ n := fun q => by
        have := h.inj i n (by omega) (by omega) (hf.trans q.symm)
        omega
      omega
    · have h1 := h.lt i (by omega)
      omega
  · unfold Cy.byp at e
    split at e
    · rename_i hf
      split at e
      · rename_i hg
        exact h.inj i j (by omega) (by omega) (hf.trans hg.symm)
      · have := h.inj n j (by omega) (by omega) e
        omega
    · split at e
      · have := h.inj i n (by omega) (by omega) e
        omega
      · exact h.inj i j (by omega) (by omega) e
theorem cyc_congr : ∀ (n : Nat) (f g : Nat → Nat), (∀ i, i < n → f i = g i) → Bij n f → cyc n f = cyc n g
  | 0, _, _, _, _ => rfl
  | n + 1, f, g, h, hb => by
    unfold cyc
    rw [h n (by omega)]
    congr 1
    refine cyc_congr n _ _ (fun i hi => ?_) hb.byp
    unfold byp
    rw [h n (by omega), h i (by omega)]
/-- a place that is hit -/
theorem Bij.hit {n : Nat} {f : Nat → Nat} (h : Bij n f) {y : Nat} (hy : y < n) : ∃ x, x < n ∧ f x = y := by
  refine Decidable.byContradiction fun no => ?_
  have nd : (y :: (List.range n).map f).Nodup := by
    refine List.nodup_cons.mpr ⟨fun hm => ?_, ?_⟩
    · obtain ⟨x, hx, e⟩ := List.mem_map.mp hm
      exact no ⟨x, List.mem_range.mp hx, e⟩
    · refine List.pairwise_map.mpr ((List.nodup_range (n := n)).imp_of_mem fun {a b} ha hb ne e => ?_)
      exact ne (h.inj a b (List.mem_range.mp ha) (List.mem_range.mp hb) e)
  have := L2.nat_nodup_len _ (List.range n) nd fun x hx => by
    rcases List.mem_cons.mp hx with rfl | hx
    · exact List.mem_range.mpr hy
    · obtain ⟨z, hz, rfl⟩ := List.mem_map.mp hx
      exact List.mem_range.mpr (h.lt z (List.mem_range.mp hz))
  rw [List.length_cons, List.length_map, List.length_range] at this
  omega
/-- two places exchanged: one round more or one less -/
theorem cyc_swp : ∀ (n : Nat) (f : Nat → Nat) (a b : Nat), Bij n f → a < n → b < n → a ≠ b → cyc n (fun x => f (swp a b x)) = cyc n f + 1 ∨ cyc n f = cyc n (fun x => f (swp a b x)) + 1
  | 0, _, _, _, _, h, _, _ => absurd h (Nat.not_lt_zero _)
  | n + 1, f, a, b, hB, ha, hb, ne => by
    have main : ∀ a, a < n → cyc (n + 1) (fun x => f (swp a n x)) = cyc (n + 1) f + 1 ∨ cyc (n + 1) f = cyc (n + 1) (fun x => f (swp a n x)) + 1 := by
      intro a ha
      have hf' : Bij (n + 1) (fun x => f (swp a n x)) := hB.swp (by omega) (by omega)
      have ean : (fun x => f (swp a n x)) n = f a := by show f (swp a n n) = f a; rw [swp_r]
      have eaa : f (swp a n a) = f n := by rw [swp_l]
      have eo : ∀ x, x ≠ a → x < n → f (swp a n x) = f x := fun x h1 h2 => by rw [swp_o h1 (by omega)]
      by_cases h1 : f n = n
      · right
        have hfa : f a ≠ n := fun q => by
          have := hB.inj a n (by omega) (by omega) (q.trans h1.symm)
          omega
        unfold cyc
        rw [if_pos h1, if_neg (by rw [ean]; exact hfa)]
        have : cyc n (byp n fun x => f (swp a n x)) = cyc n (byp n f) := by
          refine cyc_congr n _ _ (fun i hi => ?_) hf'.byp
          unfold byp
          show (if f (swp a n i) = n then f (swp a n n) else f (swp a n i)) = _
          rw [swp_r]
          by_cases hi' : i = a
          · subst hi'
            rw [swp_l, if_pos h1, if_neg hfa]
          · rw [eo i hi' hi]
            have : f i ≠ n := fun q => by
              have := hB.inj i n (by omega) (by omega) (q.trans h1.symm)
              omega
            rw [if_neg this, if_neg this]
        omega
      · by_cases h2 : f a = n
        · left
          unfold cyc
          rw [if_neg h1, if_pos (by rw [ean]; exact h2)]
          have : cyc n (byp n fun x => f (swp a n x)) = cyc n (byp n f) := by
            refine cyc_congr n _ _ (fun i hi => ?_) hf'.byp
            unfold byp
            show (if f (swp a n i) = n then f (swp a n n) else f (swp a n i)) = _
            rw [swp_r]
            by_cases hi' : i = a
            · subst hi'
              rw [swp_l, if_neg h1, if_pos h2]
            · rw [eo i hi' hi]
              have : f i ≠ n := fun q => by
                have := hB.inj i a (by omega) (by omega) (q.trans h2.symm)
                omega
              rw [if_neg this, if_neg this]
          omega
        · obtain ⟨c, hc, ec⟩ := hB.hit (y := n) (by omega)
          have hcn : c ≠ n := fun q => h1 (by rw [q] at ec; exact ec)
          have hca : c ≠ a := fun q => h2 (by rw [q] at ec; exact ec)
          have hc' : c < n := by omega
          unfold cyc
          rw [if_neg h1, if_neg (by rw [ean]; exact h2)]
          have : cyc n (byp n fun x => f (swp a n x)) = cyc n (fun x => byp n f (swp a c x)) := by
            refine cyc_congr n _ _ (fun i hi => ?_) hf'.byp
            unfold byp
            show (if f (swp a n i) = n then f (swp a n n) else f (swp a n i)) = (if f (swp a c i) = n then f n else f (swp a c i))
            rw [swp_r]
            by_cases hi' : i = a
            · subst hi'
              rw [swp_l, swp_l, if_neg h1, if_pos ec]
            · rw [eo i hi' hi]
              by_cases hic : i = c
              · subst hic
                rw [swp_r, if_pos ec, if_neg h2]
              · rw [swp_o hi' hic]
                have : f i ≠ n := fun q => hic (hB.inj i c (by omega) hc (q.trans ec.symm))
                rw [if_neg this, if_neg this]
          rw [this]
          have ih := cyc_swp n (byp n f) a c hB.byp ha hc' (Ne.symm hca)
          omega
    by_cases hbn : b = n
    · subst hbn
      exact main a (by omega)
    · by_cases han : a = n
      · subst han
        have e : (fun x => f (swp a b x)) = fun x => f (swp b a x) := by
          funext x
          rw [swp_comm]
        rw [e]
        exact main b (by omega)
      · have hf' : Bij (n + 1) (fun x => f (swp a b x)) := hB.swp ha hb
        have e1 : f (swp a b n) = f n := by rw [swp_o (by omega) (by omega)]
        unfold cyc
        show ((if f (swp a b n) = n then 1 else 0) + _ = _ + 1) ∨ (_ = (if f (swp a b n) = n then 1 else 0) + _ + 1)
        rw [e1]
        have : cyc n (byp n fun x => f (swp a b x)) = cyc n (fun x => byp n f (swp a b x)) := by
          refine cyc_congr n _ _ (fun i hi => ?_) hf'.byp
          unfold byp
          show (if f (swp a b i) = n then f (swp a b n) else f (swp a b i)) = _
          rw [e1]
        rw [this]
        have ih := cyc_swp n (byp n f) a b hB.byp (by omega) (by omega) ne
        omega
/-! ### the rounds, by what one place leads to -/
def it (f : Nat → Nat) : Nat → Nat → Nat
  | 0, x => x
  | k + 1, x => it f k (f x)
def Rch (f : Nat → Nat) (i j : Nat) : Prop := ∃ k, it f k i = j
/-- no place ahead leads to i -/
def New (f : Nat → Nat) (i : Nat) : Prop := ∀ i', i' < i → ¬ Rch f i' i
open Classical in
noncomputable def cnt (f : Nat → Nat) : Nat → Nat
  | 0 => 0
  | n + 1 => cnt f n + if New f n then 1 else 0
theorem it_lt {n : Nat} {f : Nat → Nat} (h : ∀ i, i < n → f i < n) : ∀ (k x : Nat), x < n → it f k x < n
  | 0, _, hx => hx
  | k + 1, x, hx => it_lt h k (f x) (h x hx)
theorem it_add (f : Nat → Nat) : ∀ (j k x : Nat), it f (j + k) x = it f k (it f j x)
  | 0, k, x => by rw [Nat.zero_add]; rfl
  | j + 1, k, x => by
    rw [show j + 1 + k = (j + k) + 1 by omega]
    exact it_add f j k (f x)
theorem Rch.refl (f : Nat → Nat) (i : Nat) : Rch f i i := ⟨0, rfl⟩
theorem Rch.trans {f : Nat → Nat} {i j k : Nat} (h : Rch f i j) (h2 : Rch f j k) : Rch f i k := by
  obtain ⟨a, rfl⟩ := h
  obtain ⟨b, rfl⟩ := h2
  exact ⟨a + b, it_add f a b i⟩
theorem Rch.step (f : Nat → Nat) (i : Nat) : Rch f i (f i) := ⟨1, rfl⟩
theorem byp_to {n : Nat} {f : Nat → Nat} (h : Bij (n + 1) f) : ∀ (k x : Nat), x < n → ∀ y, y < n → it f k x = y → Rch (byp n f) x y
  | 0, x, _, y, _, e => ⟨0, e⟩
  | k + 1, x, hx, y, hy, e => by
    by_cases hn : f x = n
    · cases k with
      | zero =>
        have : f x = y := e
        omega
      | succ k =>
        have e2 : it f k (f n) = y := by
          have : it f k (f (f x)) = y := e
          rw [hn] at this
          exact this
        have hfn : f n < n := by
          have h1 := h.lt n (by omega)
          have : f n ≠ n := fun q => by
            have := h.inj x n (by omega) (by omega) (hn.trans q.symm)
            omega
          omega
        have := byp_to h k (f n) hfn y hy e2
        refine Rch.trans ?_ this
        have e3 : byp n f x = f n := if_pos hn
        rw [← e3]
        exact Rch.step _ _
    · have hfx : f x < n := by
        have := h.lt x (by omega)
        omega
      have := byp_to h k (f x) hfx y hy e
      refine Rch.trans ?_ this
      have e3 : byp n f x = f x := if_neg hn
      rw [← e3]
      exact Rch.step _ _
theorem byp_of {n : Nat} {f : Nat → Nat} : ∀ (k x y : Nat), it (byp n f) k x = y → Rch f x y
  | 0, x, y, e => ⟨0, e⟩
  | k + 1, x, y, e => by
    refine Rch.trans ?_ (byp_of k _ y e)
    unfold byp
    split
    · rename_i h
      refine Rch.trans (Rch.step f x) ?_
      rw [h]
      exact Rch.step f n
    · exact Rch.step f x
theorem New.byp {n : Nat} {f : Nat → Nat} (h : Bij (n + 1) f) {i : Nat} (hi : i < n) : New f i ↔ New (Cy.byp n f) i := by
  refine ⟨fun hn i' h' ⟨k, e⟩ => hn i' h' (byp_of k i' i e), fun hn i' h' ⟨k, e⟩ => hn i' h' (byp_to h k i' (by omega) i hi e)⟩
theorem New.last {n : Nat} {f : Nat → Nat} (h : Bij (n + 1) f) : New f n ↔ f n = n := by
  refine ⟨fun hn => ?_, fun e i' h' ⟨k, ek⟩ => ?_⟩
  · refine Decidable.byContradiction fun q => ?_
    obtain ⟨x, hx, ex⟩ := h.hit (y := n) (by omega)
    have : x ≠ n := fun z => q (by rw [z] at ex; exact ex)
    exact hn x (by omega) ⟨1, ex⟩
  · have : ∀ (k x : Nat), x < n → it f k x < n := by
      intro k
      induction k with
      | zero => exact fun x hx => hx
      | succ k ih =>
        intro x hx
        refine ih (f x) ?_
        have h1 := h.lt x (by omega)
        have : f x ≠ n := fun q => by
          have := h.inj x n (by omega) (by omega) (q.trans e.symm)
          omega
        omega
    have := this k i' h'
    omega
theorem cnt_byp {n : Nat} {f : Nat → Nat} (h : Bij (n + 1) f) : ∀ m, m ≤ n → cnt f m = cnt (byp n f) m
  | 0, _ => rfl
  | m + 1, hm => by
    unfold cnt
    rw [cnt_byp h m (by omega)]
    congr 1
    have := New.byp h (i := m) (by omega)
    by_cases hn : New f m
    · rw [if_pos hn, if_pos (this.mp hn)]
    · rw [if_neg hn, if_neg fun q => hn (this.mpr q)]
theorem cnt_cyc : ∀ (n : Nat) (f : Nat → Nat), Bij n f → cnt f n = cyc n f
  | 0, _, _ => rfl
  | n + 1, f, h => by
    unfold cnt cyc
    rw [cnt_byp h n (Nat.le_refl _), cnt_cyc n _ h.byp, Nat.add_comm]
    congr 1
    have := New.last h
    by_cases hn : New f n
    · rw [if_pos hn, if_pos (this.mp hn)]
    · rw [if_neg hn, if_neg fun q => hn (this.mpr q)]
end Cy
set_option Elab.async false
set_option linter.all false
set_option maxRecDepth 100000
set_option maxHeartbeats 600000
namespace W14
open PySem L2 PySem.Spec PyProof.Rows WR WB WE
/-! ### how many corners there are -/
theorem orb_all {nx mt : List Int} {n : Nat} (hlt : ∀ x, x < n → nxt nx mt x < n) : ∀ (k p : Nat) (s c : List Nat), SeenOk n s → p < n → n - s.length < k → (∀ x ∈ s, nxt nx mt x ∈ s ∨ nxt nx mt x = p) →
    SeenOk n (orb nx mt k s p c).1 ∧ (∀ x ∈ (orb nx mt k s p c).1, nxt nx mt x ∈ (orb nx mt k s p c).1) ∧ p ∈ (orb nx mt k s p c).1 ∧ (∀ x ∈ s, x ∈ (orb nx mt k s p c).1) ∧ (∀ j ∈ (orb nx mt k s p c).1, j ∈ s ∨ Cy.Rch (nxt nx mt) p j) ∧ ∃ t, (orb nx mt k s p c).2 = c ++ t ∧ (t = [] ↔ p ∈ s)
  | 0, _, s, _, _, _, hk, _ => absurd hk (Nat.not_lt_zero _)
  | k + 1, p, s, c, ok, hp, hk, hc => by
    by_cases h : p ∈ s
    · rw [orb_in (by omega) h]
      exact ⟨ok, fun x hx => (hc x hx).elim id fun e => e ▸ h, h, fun _ h => h, fun _ h => .inl h, [], (List.append_nil _).symm, by simp [h]⟩
    · rw [orb_out h]
      have hl := ok.lt hp h
      have ok2 : SeenOk n (p :: s) := ⟨List.nodup_cons.mpr ⟨h, ok.1⟩, fun x hx => by
        rcases List.mem_cons.mp hx with rfl | hx
        · exact hp
        · exact ok.2 x hx⟩
      obtain ⟨i1, i2, i3, i4, i5, t, i6, _⟩ := orb_all hlt k (nxt nx mt p) (p :: s) (c ++ [p]) ok2 (hlt p hp) (by rw [List.length_cons]; omega) fun x hx => by
        rcases List.mem_cons.mp hx with rfl | hx
        · exact .inr rfl
        · rcases hc x hx with e | e
          · exact .inl (List.mem_cons_of_mem _ e)
          · exact .inl (e ▸ List.mem_cons_self)
      refine ⟨i1, i2, i4 p List.mem_cons_self, fun x hx => i4 x (List.mem_cons_of_mem _ hx), fun j hj => ?_, p :: t, by rw [i6, List.append_assoc]; rfl, by simp [h]⟩
      rcases i5 j hj with hj | hj
      · rcases List.mem_cons.mp hj with rfl | hj
        · exact .inr (Cy.Rch.refl _ _)
        · exact .inl hj
      · exact .inr ((Cy.Rch.step _ p).trans hj)
theorem crn_all {nx mt : List Int} {n : Nat} (hlt : ∀ x, x < n → nxt nx mt x < n) : ∀ m, m ≤ n → SeenOk n (crn nx mt n m).1 ∧ (∀ x ∈ (crn nx mt n m).1, nxt nx mt x ∈ (crn nx mt n m).1) ∧ (∀ j, j ∈ (crn nx mt n m).1 ↔ ∃ i, i < m ∧ Cy.Rch (nxt nx mt) i j) ∧ (crn nx mt n m).2.length = Cy.cnt (nxt nx mt) m
  | 0, _ => ⟨⟨List.nodup_nil, fun _ h => nomatch h⟩, (fun _ h => nomatch h), fun j => ⟨(fun h => nomatch h), fun ⟨i, h, _⟩ => absurd h (Nat.not_lt_zero _)⟩, rfl⟩
  | m + 1, hm => by
    obtain ⟨h1, h2, h3, h4⟩ := crn_all hlt m (by omega)
    obtain ⟨i1, i2, i3, i4, i5, t, i6, i7⟩ := orb_all (mt := mt) hlt (n + 1) m (crn nx mt n m).1 [] h1 (by omega) (by omega) fun x hx => .inl (h2 x hx)
    refine ⟨i1, i2, fun j => ⟨fun hj => ?_, fun ⟨i, hi, hr⟩ => ?_⟩, ?_⟩
    · rcases i5 j hj with hj | hj
      · obtain ⟨i, hi, hr⟩ := (h3 j).mp hj
        exact ⟨i, by omega, hr⟩
      · exact ⟨m, by omega, hj⟩
    · have cl : ∀ (k x : Nat), x ∈ (crn nx mt n (m + 1)).1 → Cy.it (nxt nx mt) k x ∈ (crn nx mt n (m + 1)).1 := by
        intro k
        induction k with
        | zero => exact fun x hx => hx
        | succ k ih => exact fun x hx => ih _ (i2 x hx)
      obtain ⟨k, rfl⟩ := hr
      refine cl k i ?_
      by_cases he : i = m
      · subst he
        exact i3
      · exact i4 i ((h3 i).mpr ⟨i, by omega, Cy.Rch.refl _ _⟩)
    · have e : (crn nx mt n (m + 1)).2 = if (orb nx mt (n + 1) (crn nx mt n m).1 m []).2 = [] then (crn nx mt n m).2 else (crn nx mt n m).2 ++ [(orb nx mt (n + 1) (crn nx mt n m).1 m []).2] := rfl
      have hn : Cy.New (nxt nx mt) m ↔ ¬ m ∈ (crn nx mt n m).1 := by
        rw [h3]
        exact ⟨fun h ⟨i, hi, hr⟩ => h i hi hr, fun h i hi hr => h ⟨i, hi, hr⟩⟩
      rw [e, i6, List.nil_append]
      unfold Cy.cnt
      by_cases hs : m ∈ (crn nx mt n m).1
      · rw [if_pos (i7.mpr hs), if_neg (fun q => hn.mp q hs), h4]
        rfl
      · rw [if_neg (fun q => hs (i7.mp q)), if_pos (hn.mpr hs), List.length_append, h4]
        rfl
theorem nxF_nodup : ∀ (ws : List (List Int)) (f : Nat), (∀ w ∈ ws, w ≠ []) → (nxF f ws).Nodup
  | [], _, _ => List.nodup_nil
  | w :: r, f, hne => by
    unfold nxF
    have hl : 0 < w.length := List.length_pos_iff.mpr (hne w List.mem_cons_self)
    refine List.nodup_append.mpr ⟨?_, nxF_nodup r _ fun u hu => hne u (List.mem_cons_of_mem _ hu), fun a ha b hb e => ?_⟩
    · refine List.pairwise_map.mpr ((List.nodup_range (n := w.length)).imp_of_mem fun {a b} ha hb ne e => ne ?_)
      have ha := List.mem_range.mp ha
      have hb := List.mem_range.mp hb
      have e2 : (a + 1) % w.length = (b + 1) % w.length := by omega
      by_cases h1 : a + 1 = w.length
      · by_cases h2 : b + 1 = w.length
        · omega
        · rw [h1, Nat.mod_self, Nat.mod_eq_of_lt (by omega)] at e2
          omega
      · by_cases h2 : b + 1 = w.length
        · rw [h2, Nat.mod_self, Nat.mod_eq_of_lt (by omega)] at e2
          omega
        · rw [Nat.mod_eq_of_lt (by omega), Nat.mod_eq_of_lt (by omega)] at e2
          omega
    · obtain ⟨t, ht, rfl⟩ := List.mem_map.mp ha
      have h1 := Nat.mod_lt (t + 1) hl
      have h2 := nxF_lo r (f + w.length) b hb
      omega
where
  nxF_lo : ∀ (ws : List (List Int)) (f : Nat), ∀ z ∈ nxF f ws, (f : Int) ≤ z
    | [], _, z, h => nomatch h
    | w :: r, f, z, h => by
      unfold nxF at h
      rcases List.mem_append.mp h with h | h
      · obtain ⟨t, ht, rfl⟩ := List.mem_map.mp h
        omega
      · have := nxF_lo r (f + w.length) z h
        omega
theorem getD_lt {xs : List Int} {i : Nat} (h : i < xs.length) : xs.getD i 0 = xs[i] := by
  rw [List.getD_eq_getElem?_getD, List.getElem?_eq_getElem h]
  rfl
theorem nodup_inj {xs : List Int} (h : xs.Nodup) {i j : Nat} (hi : i < xs.length) (hj : j < xs.length) (e : xs[i] = xs[j]) : i = j := by
  have hp := List.pairwise_iff_getElem.mp h
  rcases Nat.lt_trichotomy i j with l | l | l
  · exact absurd e (hp i j hi hj l)
  · exact l
  · exact absurd e.symm (hp j i hj hi l)
/-- a mate is a place -/
def mtn (mt : List Int) (i : Nat) : Nat := (mt.getD i 0).toNat
theorem mtn_at {n : Nat} {mt : List Int} (h : MatesOk n mt) {i : Nat} (hi : i < n) : mtn mt i < n ∧ mt[i]? = some ((mtn mt i : Nat) : Int) ∧ mt.getD i 0 = ((mtn mt i : Nat) : Int) := by
  have hl : i < mt.length := by rw [h.1]; exact hi
  have hz := h.2 _ (List.getElem_mem hl)
  have e : mt.getD i 0 = ((mtn mt i : Nat) : Int) := by
    unfold mtn
    rw [getD_lt hl]
    omega
  refine ⟨?_, ?_, e⟩
  · unfold mtn
    rw [getD_lt hl]
    omega
  · rw [List.getElem?_eq_getElem hl, ← e, getD_lt hl]
theorem pair_inv {n : Nat} {mt : List Int} (h : PairOk n mt) {i : Nat} (hi : i < n) : mtn mt (mtn mt i) = i ∧ mtn mt i ≠ i := by
  have hl : i < mt.length := by rw [h.1.1]; exact hi
  obtain ⟨a1, a2, a3⟩ := mtn_at h.1 hi
  obtain ⟨p1, p2⟩ := h.2 i hl
  have e : mt[i] = ((mtn mt i : Nat) : Int) := by rw [← getD_lt hl]; exact a3
  rw [e] at p1 p2
  rw [Int.toNat_natCast] at p2
  refine ⟨?_, fun q => p1 (by rw [q])⟩
  have := (mtn_at h.1 a1).2.1
  rw [p2] at this
  have := Option.some.inj this
  omega
theorem bij_nxt {ws : List (List Int)} (hne : ∀ w ∈ ws, w ≠ []) {mt : List Int} (h : PairOk ws.flatten.length mt) : Cy.Bij ws.flatten.length (nxt (nxF 0 ws) mt) := by
  have hx : (nxF 0 ws).length = ws.flatten.length := nxF_len ws 0
  have rng : ∀ i (hi : i < (nxF 0 ws).length), 0 ≤ (nxF 0 ws)[i] ∧ (nxF 0 ws)[i] < (ws.flatten.length : Int) := fun i hi => by
    have := nxF_rng ws 0 hne _ (List.getElem_mem hi)
    omega
  have val : ∀ i (hi : i < ws.flatten.length), ((nxt (nxF 0 ws) mt i : Nat) : Int) = (nxF 0 ws)[mtn mt i]'(by rw [hx]; exact (mtn_at h.1 hi).1) := fun i hi => by
    have h1 := (mtn_at h.1 hi).1
    have hl : mtn mt i < (nxF 0 ws).length := by rw [hx]; exact h1
    show (((nxF 0 ws).getD (mtn mt i) 0).toNat : Int) = _
    rw [getD_lt hl]
    have := rng _ hl
    omega
  refine ⟨fun i hi => ?_, fun i j hi hj e => ?_⟩
  · have := val i hi
    have := rng (mtn mt i) (by rw [hx]; exact (mtn_at h.1 hi).1)
    omega
  · have e2 : ((nxt (nxF 0 ws) mt i : Nat) : Int) = ((nxt (nxF 0 ws) mt j : Nat) : Int) := by rw [e]
    rw [val i hi, val j hj] at e2
    have := nodup_inj (nxF_nodup ws 0 hne) _ _ e2
    have h1 := (pair_inv h hi).1
    rw [this, (pair_inv h hj).1] at h1
    exact h1.symm
theorem corn_cyc {ws : List (List Int)} (hne : ∀ w ∈ ws, w ≠ []) {mt : List Int} (h : PairOk ws.flatten.length mt) : (cornF ws mt).length = Cy.cyc ws.flatten.length (nxt (nxF 0 ws) mt) := by
  have hb := bij_nxt hne h
  rw [← Cy.cnt_cyc _ _ hb]
  exact (crn_all hb.lt ws.flatten.length (Nat.le_refl _)).2.2.2
/-! ### two places exchange mates -/
/-- the mates when p and q give each other theirs -/
def swpF (mt : List Int) (p q : Nat) : List Int := (List.range mt.length).map fun i => ((Cy.swp p q (mtn mt (Cy.swp p q i)) : Nat) : Int)
theorem swpF_len (mt : List Int) (p q : Nat) : (swpF mt p q).length = mt.length := by
  unfold swpF
  rw [List.length_map, List.length_range]
theorem swpF_get {mt : List Int} {p q i : Nat} (hi : i < (swpF mt p q).length) : (swpF mt p q)[i] = ((Cy.swp p q (mtn mt (Cy.swp p q i)) : Nat) : Int) := by
  simp [swpF]
theorem swpF_mtn {mt : List Int} {p q i : Nat} (hi : i < mt.length) : mtn (swpF mt p q) i = Cy.swp p q (mtn mt (Cy.swp p q i)) := by
  have hl : i < (swpF mt p q).length := by rw [swpF_len]; exact hi
  show ((swpF mt p q).getD i 0).toNat = _
  rw [getD_lt hl, swpF_get hl, Int.toNat_natCast]
theorem mates_ok_of {n : Nat} {mt : List Int} (hl : mt.length = n) (g : Nat → Nat) (hg : ∀ i (hi : i < mt.length), mt[i] = ((g i : Nat) : Int) ∧ g i < n ∧ g i ≠ i ∧ g (g i) = i) : PairOk n mt := by
  refine ⟨⟨hl, fun z hz => ?_⟩, fun i hi => ?_⟩
  · obtain ⟨i, hi, rfl⟩ := List.getElem_of_mem hz
    have := hg i hi
    omega
  · obtain ⟨e, l, ne, inv⟩ := hg i hi
    have hl2 : g i < mt.length := by omega
    refine ⟨fun q => ne (by omega), ?_⟩
    rw [e, Int.toNat_natCast, List.getElem?_eq_getElem hl2, (hg _ hl2).1, inv]
theorem swpF_pair {n : Nat} {mt : List Int} (h : PairOk n mt) {p q : Nat} (hp : p < n) (hq : q < n) : PairOk n (swpF mt p q) := by
  have hl := h.1.1
  refine mates_ok_of (by rw [swpF_len]; exact hl) (fun i => Cy.swp p q (mtn mt (Cy.swp p q i))) fun i hi => ?_
  rw [swpF_len] at hi
  have hi' : i < n := by omega
  have s1 := Cy.swp_lt hp hq hi'
  refine ⟨?_, Cy.swp_lt hp hq (mtn_at h.1 s1).1, fun e => ?_, ?_⟩
  · exact swpF_get _
  · have : mtn mt (Cy.swp p q i) = Cy.swp p q i := by rw [← Cy.swp_swp p q (mtn mt (Cy.swp p q i)), e]
    exact (pair_inv h s1).2 this
  · rw [Cy.swp_swp, (pair_inv h s1).1, Cy.swp_swp]
theorem swpF_mat {ls mt : List Int} (h : MatOk ls mt) {p q : Nat} (hp : p < ls.length) (hq : q < ls.length) (he : ls.getD p 0 = ls.getD q 0) : MatOk ls (swpF mt p q) := by
  have hl := h.1.1.1
  refine ⟨swpF_pair h.1 hp hq, fun i hi => ?_⟩
  rw [swpF_len] at hi
  have hs : ∀ x, ls.getD (Cy.swp p q x) 0 = ls.getD x 0 := fun x => by
    by_cases h1 : x = p
    · subst h1
      rw [Cy.swp_l, he]
    · by_cases h2 : x = q
      · subst h2
        rw [Cy.swp_r, he]
      · rw [Cy.swp_o h1 h2]
  have hi2 : i < (swpF mt p q).length := by rw [swpF_len]; exact hi
  have e : (swpF mt p q)[i] = ((Cy.swp p q (mtn mt (Cy.swp p q i)) : Nat) : Int) := swpF_get hi2
  rw [e, Int.toNat_natCast, hs]
  have s1 : Cy.swp p q i < mt.length := by rw [hl]; exact Cy.swp_lt hp hq (by omega)
  have := h.2 _ s1
  have e2 : mt[Cy.swp p q i].toNat = mtn mt (Cy.swp p q i) := by
    unfold mtn
    rw [getD_lt s1]
  rw [e2, hs] at this
  exact this
/-- exchanged: as many corners, two more, or two less -/
theorem swp_corn {ws : List (List Int)} (hne : ∀ w ∈ ws, w ≠ []) {mt : List Int} (h : MatOk ws.flatten mt) {p q : Nat} (hp : p < ws.flatten.length) (hq : q < ws.flatten.length) (npq : p ≠ q) (he : ws.flatten.getD p 0 = ws.flatten.getD q 0) (hl : Lts ws.flatten) :
    costF ws (swpF mt p q) = costF ws mt - 2 ∨ costF ws (swpF mt p q) = costF ws mt ∨ costF ws (swpF mt p q) = costF ws mt + 2 := by
  have P := h.1
  have a1 := (mtn_at P.1 hp).1
  have b1 := (mtn_at P.1 hq).1
  have lm : ∀ i (hi : i < ws.flatten.length), ws.flatten.getD (mtn mt i) 0 = -ws.flatten.getD i 0 := fun i hi => by
    have := h.2 i (by rw [P.1.1]; exact hi)
    show ws.flatten.getD (mt.getD i 0).toNat 0 = _
    rw [show mt.getD i 0 = mt[i]'(by rw [P.1.1]; exact hi) from getD_lt _]
    exact this
  have nz : ws.flatten.getD p 0 ≠ 0 := by
    rw [getD_lt hp]
    intro q
    have := hl _ (List.getElem_mem hp)
    rw [q] at this
    simp at this
  have n1 : mtn mt p ≠ q := fun e => by
    have := lm p hp
    rw [e, ← he] at this
    omega
  have n2 : mtn mt q ≠ p := fun e => by
    have := lm q hq
    rw [e, he] at this
    omega
  have n3 := (pair_inv P hp).2
  have n4 := (pair_inv P hq).2
  have nab : mtn mt p ≠ mtn mt q := fun e => npq (by rw [← (pair_inv P hp).1, e, (pair_inv P hq).1])
  have B := bij_nxt hne P
  have B1 := B.swp a1 b1
  have cyc1 := Cy.cyc_swp _ _ _ _ B a1 b1 nab
  have cyc2 := Cy.cyc_swp _ _ _ _ B1 hp hq npq
  have ef : Cy.cyc ws.flatten.length (nxt (nxF 0 ws) (swpF mt p q)) = Cy.cyc ws.flatten.length (fun x => (fun x => nxt (nxF 0 ws) mt (Cy.swp (mtn mt p) (mtn mt q) x)) (Cy.swp p q x)) := by
    refine Cy.cyc_congr _ _ _ (fun i hi => ?_) (bij_nxt hne (swpF_pair P hp hq))
    show ((nxF 0 ws).getD (mtn (swpF mt p q) i) 0).toNat = ((nxF 0 ws).getD (mtn mt (Cy.swp (mtn mt p) (mtn mt q) (Cy.swp p q i))) 0).toNat
    rw [swpF_mtn (by rw [P.1.1]; exact hi)]
    congr 2
    have key : ∀ x, x < ws.flatten.length → Cy.swp p q (mtn mt x) = mtn mt (Cy.swp (mtn mt p) (mtn mt q) x) := fun x hx => by
      by_cases h1 : x = mtn mt p
      · subst h1
        rw [Cy.swp_l, (pair_inv P hp).1, (pair_inv P hq).1, Cy.swp_l]
      · by_cases h2 : x = mtn mt q
        · subst h2
          rw [Cy.swp_r, (pair_inv P hp).1, (pair_inv P hq).1, Cy.swp_r]
        · rw [Cy.swp_o h1 h2, Cy.swp_o]
          · intro e
            exact h1 (by rw [← e, (pair_inv P hx).1])
          · intro e
            exact h2 (by rw [← e, (pair_inv P hx).1])
    exact key _ (Cy.swp_lt hp hq hi)
  have c0 := corn_cyc hne P
  have c1 := corn_cyc hne (swpF_pair P hp hq)
  rw [ef] at c1
  unfold costF
  rw [c0, c1]
  dsimp only at cyc1 cyc2 ⊢
  omega
end W14
set_option Elab.async false
set_option linter.all false
set_option maxRecDepth 100000
set_option maxHeartbeats 1000000
namespace W14
open PySem L2 PySem.Spec PyProof.Rows WR WB WE
/-! ### what stands for a balance -/
/-! ### expressions that make something, wherever they stand -/
/-- from H0 on the expression gives some v of which P holds, and changes nothing that stood -/
def Mks (te : TE) (σ : L2.St) (H0 : Hp) (P : Hp → V → Prop) : Prop := ∀ H, Same H0 H → ∀ Q : VK, (∀ v H', Same H H' → P H' v → Q v H') → te σ H Q
def MksA (ta : TA) (σ : L2.St) (H0 : Hp) (P : Hp → List V → Prop) : Prop := ∀ H, Same H0 H → ∀ Q : List V → Hp → Prop, (∀ vs H', Same H H' → P H' vs → Q vs H') → ta σ H Q
def LI (ns : List Int) (H : Hp) (v : V) : Prop := ∃ q, v = V.ref q ∧ H q = some (.lst (iv ns))
theorem LI.same {ns : List Int} {H H' : Hp} {v : V} (h : LI ns H v) (s : Same H H') : LI ns H' v := by
  obtain ⟨q, e, r⟩ := h
  exact ⟨q, e, s _ _ r⟩
section
variable {σ : L2.St} {H0 : Hp} {te ta tb : TE} {tr : TA} {K : PySem.W.Frag} {C CR : Addr}
theorem mks_var {i : Nat} {v : V} (h : σ[i]? = some (some v)) : Mks (tVar i) σ H0 (fun _ x => x = v) := fun H _ Q k => ⟨v, h, k v H (Same.refl _) rfl⟩
theorem mks_c {v : V} : Mks (tC v) σ H0 (fun _ x => x = v) := fun H _ Q k => k v H (Same.refl _) rfl
theorem mks_neg {i : Int} (h : Mks te σ H0 (fun _ x => x = .int i)) : Mks (tUn (fun x H Q => ∃ i, x = .int i ∧ Q (.int (-i)) H) te) σ H0 (fun _ x => x = .int (-i)) := by
  intro H s Q k
  refine h H s _ fun v H1 s1 e => ?_
  exact ⟨i, e, k _ H1 s1 rfl⟩
theorem mksA_nil : MksA tNil σ H0 (fun _ vs => vs = iv []) := fun H _ Q k => k [] H (Same.refl _) rfl
theorem mksA_int {i : Int} {ns : List Int} (h : Mks te σ H0 (fun _ x => x = .int i)) (r : MksA tr σ H0 (fun _ vs => vs = iv ns)) : MksA (tCons te tr) σ H0 (fun _ vs => vs = iv (i :: ns)) := by
  intro H s Q k
  refine h H s _ fun v H1 s1 e => ?_
  refine r H1 (s.trans s1) _ fun vs H2 s2 e2 => ?_
  exact k _ H2 (s1.trans s2) (by rw [e, e2]; rfl)
theorem mks_ints {ns : List Int} (h : MksA tr σ H0 (fun _ vs => vs = iv ns)) (l : ns.length ≤ 1000) : Mks (tLst tr) σ H0 (LI ns) := by
  intro H s Q k
  refine h H s _ fun vs H1 s1 e => ?_
  rw [e]
  refine ⟨by rw [List.length_map]; exact Nat.le_trans l (by decide), fun p hp => k _ _ (s1.trans (same_upd hp)) ⟨p, rfl, upd_same⟩⟩
theorem mks_rep {ns : List Int} {n : Nat} (h : Mks ta σ H0 (LI ns)) (r : Mks tb σ H0 (fun _ x => x = .int (n : Int))) (l : ns.length * n ≤ 1000) (ln : n ≤ 1000) : Mks (tOp rRep ta tb) σ H0 (LI (List.replicate n ns).flatten) := by
  intro H s Q k
  refine h H s _ fun v H1 s1 ⟨q, e, hq⟩ => ?_
  refine r H1 (s.trans s1) _ fun w H2 s2 e2 => ?_
  refine ⟨q, _, _, e, e2, s2 _ _ hq, by omega, by omega, ?_, fun p hp => ?_⟩
  · rw [List.length_map, Int.toNat_natCast]
    exact Nat.le_trans l (by decide)
  · refine k _ _ ((s1.trans s2).trans (same_upd hp)) ⟨p, rfl, ?_⟩
    rw [upd_same, Int.toNat_natCast]
    unfold iv
    rw [List.map_flatten, List.map_replicate]
theorem mks_cat {ns ms : List Int} (h : Mks ta σ H0 (LI ns)) (r : Mks tb σ H0 (LI ms)) (l : ns.length + ms.length ≤ 1000) : Mks (tOp rCat ta tb) σ H0 (LI (ns ++ ms)) := by
  intro H s Q k
  refine h H s _ fun v H1 s1 ⟨q, e, hq⟩ => ?_
  refine r H1 (s.trans s1) _ fun w H2 s2 ⟨z, e2, hz⟩ => ?_
  refine ⟨q, z, _, _, e, e2, s2 _ _ hq, hz, ?_, fun p hp => ?_⟩
  · rw [List.length_map, List.length_map]
    exact Nat.le_trans l (by decide)
  · refine k _ _ ((s1.trans s2).trans (same_upd hp)) ⟨p, rfl, ?_⟩
    rw [upd_same]
    unfold iv
    rw [List.map_append]
def WordP (K : PySem.W.Frag) (C : Addr) (ns : List Int) (H : Hp) (v : V) : Prop := ∃ p, v = V.ref p ∧ WordAt K C H p ns
theorem mks_word {ns : List Int} (h : Mks te σ H0 (LI ns)) (l : ns.length ≤ 500) (lt : Lts ns) : Mks (tMake C (spInit K C) [] E0 (tCons te tNil)) σ H0 (WordP K C ns) := by
  intro H s Q k
  refine h H s _ fun v H1 s1 ⟨q, e, hq⟩ => ?_
  subst e
  refine fun x dx nx ndx _ => ?_
  exact make_at nx ndx (.inl (SqL.of hq)) l lt fun H2 s2 W2 => k _ H2 (s1.trans s2) ⟨x, rfl, W2⟩
def WdsP (K : PySem.W.Frag) (C : Addr) (ws : List (List Int)) (H : Hp) (vs : List V) : Prop := ∃ xs : List Addr, vs = xs.map V.ref ∧ Wds K C H xs ws
theorem mksA_wnil : MksA tNil σ H0 (WdsP K C []) := fun H _ Q k => k [] H (Same.refl _) ⟨[], rfl, .nil⟩
theorem mksA_word {ns : List Int} {ws : List (List Int)} (h : Mks te σ H0 (WordP K C ns)) (r : MksA tr σ H0 (WdsP K C ws)) : MksA (tCons te tr) σ H0 (WdsP K C (ns :: ws)) := by
  intro H s Q k
  refine h H s _ fun v H1 s1 ⟨p, e, W⟩ => ?_
  refine r H1 (s.trans s1) _ fun vs H2 s2 ⟨xs, e2, Ws⟩ => ?_
  exact k _ H2 (s1.trans s2) ⟨p :: xs, by rw [e, e2]; rfl, .cons (W.same s2) Ws⟩
def RimsP (K : PySem.W.Frag) (C CR : Addr) (ws : List (List Int)) (H : Hp) (v : V) : Prop := ∃ p xs, v = V.ref p ∧ RimsAt K C CR H p xs ws
theorem mks_rims {ws : List (List Int)} (h : MksA tr σ H0 (WdsP K C ws)) (ok : RimOk ws) : Mks (tMake CR (spInitR K C CR) [] E0 (tCons (tLst tr) tNil)) σ H0 (RimsP K C CR ws) := by
  intro H s Q k
  refine h H s _ fun vs H1 s1 ⟨xs, e, Ws⟩ => ?_
  subst e
  have lx : xs.length = ws.length := Ws.length
  refine ⟨?_, fun q hq => ?_⟩
  · rw [List.length_map, lx]
    exact Nat.le_trans ok.2.1 (by decide)
  have s2 := same_upd (o := .lst (xs.map V.ref)) hq
  refine fun x dx nx ndx _ => ?_
  exact rims_at nx ndx (SqL.of upd_same) (Ws.same s2) ok fun H3 s3 R3 => k _ H3 ((s1.trans s2).trans s3) ⟨x, xs, rfl, R3⟩
end
end W14
set_option Elab.async false
set_option linter.all false
set_option maxRecDepth 100000
set_option maxHeartbeats 600000
namespace W14
open PySem L2 PySem.Spec PyProof.Rows WR WB WE

structure TN (mg : Str → Option Value) : Prop where
  len : mg "len" = none
  range : mg "range" = none
  list : mg "list" = none
  tuple : mg "tuple" = none
  int : mg "int" = none
  abs : mg "abs" = none
  min : mg "min" = none
  sorted : mg "sorted" = none
  set : mg "set" = none
  enumerate : mg "enumerate" = none
  zip : mg "zip" = none
  isinstance : mg "isinstance" = none
  repr : mg "repr" = none
theorem perm_erase : ∀ (us : List V) (j : Nat) (h : j < us.length), (us[j] :: us.eraseIdx j).Perm us
  | a :: t, 0, _ => List.Perm.refl _
  | a :: t, j + 1, h => by
    have ih := perm_erase t j (by simpa using h)
    exact (List.Perm.swap _ _ _).trans (ih.cons a)
def spMixed : Sp := fun vs H Q _ => ∃ (a c p : Addr) (xs : List V) (n : Nat), vs = [.ref a, .ref p] ∧ HandAt H a c n ∧ H p = some (.lst xs) ∧ xs.length ≤ 100 ∧ n ≤ 8000 ∧ ∀ l H' ys, H l = none → Drew a c (n + xs.length) H H' → H' l = some (.lst ys) → ys.Perm xs → Q (.ref l) H'
abbrev sMixed : Stmt := top 66
abbrev nMixed : List Str := ["_law_pen_here", "_law_some", "_law_left", "_law_found", "_law_turn"]
theorem scMixed : FnScope nMixed ["_law_pen_here", "_law_some"] (defScope sMixed) := ⟨rfl, rfl, rfl, by decide +kernel, rfl, by decide +kernel, by decide +kernel⟩
section
variable {P : Program} {w : World} {K : PySem.W.Frag} {mg : Str → Option Value} {base : Heap}
theorem ok_Mixed {f : Addr} {fd : FuncData} (F : Fun K "_law_mixed" "_law_mixed" sMixed f fd) (N : TN mg)  (G_draw : Cal P w K mg base "_law_draw" 1 ["_law_pen_here", "_law_many"] (spTake)) : FnOk P w K mg base CX0 2 f fd ["_law_pen_here", "_law_some"] (spMixed) := by
  refine F.ok scMixed (fun vs H Q E h => ?_) (fun cdv A outer s H vs Q E hr h => ?_)
  · obtain ⟨a, c, p, xs, n, rfl, _⟩ := h
    rfl
  · obtain ⟨a, c, p, xs, n, rfl, hH, hp, hx, hn, k⟩ := h
    refine ⟨_, pss_cons (ps_par (i := 2) (j := 3) (by rfl) scMixed.nd rfl rfl (by decide) rfl rfl (pa_cons (pe_callTy call_list_of (by rfl) N.list (by decide +kernel) (pa_cons (pv 1) pa_nil)) (pa_cons (pe_lst pa_nil) pa_nil)) (by rfl))
      (pss_cons (ps_for PassesOwn.never rfl (pi_range1 (by rfl) N.range (pa_cons (pe_callB call_len_seq (by rfl) N.len PySem.boot_len (pa_cons (pv 2) pa_nil)) pa_nil)) (pg_name (i := 4) scMixed.nd rfl (Or.inl rfl))
      (pss_one (ps_expr (pe_bm PySem.F.plainAttrs_list PySem.F.slot_list_append PySem.F.type_list_append mt_append (pv 3) (pa_cons (pe_bm PySem.F.plainAttrs_list PySem.F.slot_list_pop PySem.F.type_list_pop mt_popAt (pv 2) (pa_cons (pe_cal G_draw hr (by decide) (by rfl) (pa_cons (pv 0) (pa_cons (pe_callB call_len_seq (by rfl) N.len PySem.boot_len (pa_cons (pv 2) pa_nil)) pa_nil))) pa_nil)) pa_nil)))))
      (pss_one (ps_ret (pv 3)))), ?_⟩
    refine ⟨_, rfl, p, xs, rfl, .inl (SqL.of hp), fun lf hlf => ?_⟩
    have s1 := same_upd (o := .lst xs) hlf
    have g1 : L2.upd H lf (.lst xs) lf = some (.lst xs) := upd_same
    obtain ⟨H1, e1⟩ : ∃ H1, H1 = L2.upd H lf (.lst xs) := ⟨_, rfl⟩
    rw [← e1] at s1 g1 ⊢
    refine ⟨Nat.zero_le _, fun fo hfo => ⟨_, _, rfl, ?_⟩⟩
    have s2 := same_upd (o := .lst []) hfo
    have g2 : L2.upd H1 fo (.lst []) fo = some (.lst []) := upd_same
    have lfo : lf ≠ fo := ne_of_none g1 hfo
    have fo0 : H fo = none := s1.free hfo
    have hla := hH.ne hlf
    have hlc := hH.neC hlf
    have hfa := hH.ne fo0
    have hfc := hH.neC fo0
    have D2 : Drew a c n H (L2.upd H1 fo (.lst [])) := (Drew.refl hH).same (s1.trans s2)
    refine ⟨_, rfl, lf, _, rfl, .inl (SqL.of (s2 _ _ g1)), ((xs.length : Nat) : Int), rfl, by omega, by omega, ?_⟩
    refine for_range (lo := 0) (n := ((xs.length : Nat) : Int).toNat) (fun i σ H' => ∃ (v : Option V) (us ys : List V), σ = [some (.ref a), some (.ref p), some (.ref lf), some (.ref fo), v] ∧ Drew a c (n + i) H H' ∧ H' lf = some (.lst us) ∧ H' fo = some (.lst ys) ∧ us.length + i = xs.length ∧ (us ++ ys).Perm xs)
      ⟨none, xs, [], rfl, D2, s2 _ _ g1, g2, rfl, by rw [List.append_nil]⟩ ?_ ?_
    · rintro i σ H3 hi ⟨v, us, ys, rfl, d3, hl3, hf3, hlen, hperm⟩
      rw [Int.toNat_natCast] at hi
      have hys : ys.length = i := by
        have := hperm.length_eq
        rw [List.length_append] at this
        omega
      refine ⟨_, rfl, .inl ⟨rfl, _, SqL.of hf3⟩, _, rfl, .inl ⟨rfl, _, SqL.of hl3⟩, _, rfl, _, rfl, lf, _, rfl, .inl (SqL.of hl3), a, c, ((us.length : Nat) : Int), n + i, rfl, d3.1, by omega, by omega, ?_, fun H4 j j0 j1 hH4 hK4 => ?_⟩
      · have : (((us.length : Nat) : Int)).natAbs ≤ 100 := by omega
        exact Nat.lt_of_le_of_lt this (by decide)
      have hl4 := hK4 _ _ hla hl3
      have hf4 := hK4 _ _ hfa hf3
      have d4 : Drew a c (n + i + 1) H H4 := ⟨hH4, d3.2.trans hK4⟩
      obtain ⟨j, rfl⟩ : ∃ j' : Nat, j = (j' : Int) := ⟨j.toNat, by omega⟩
      have hjl : j < us.length := by omega
      refine ⟨lf, us, (j : Int), j, us[j], rfl, rfl, hl4, by omega, by omega, ?_, List.getElem?_eq_getElem hjl, ?_⟩
      · exact seq_at hjl
      have hf5 : L2.upd H4 lf (.lst (us.eraseIdx j)) fo = some (.lst ys) := by rw [upd_ne lfo.symm]; exact hf4
      refine ⟨fo, ys, _, rfl, rfl, hf5, Evl.sz_lt (by omega), ?_⟩
      refine ⟨_, us.eraseIdx j, ys ++ [us[j]], rfl, ?_, ?_, upd_same, ?_, ?_⟩
      · exact ((d4.put hlf hla hlc).put fo0 hfa hfc)
      · rw [upd_ne lfo, upd_same]
      · rw [List.length_eraseIdx_of_lt hjl]
        omega
      · have q1 : (us[j] :: us.eraseIdx j).Perm us := perm_erase us j hjl
        have q2 : (us.eraseIdx j ++ (ys ++ [us[j]])).Perm ((us[j] :: us.eraseIdx j) ++ ys) := by
          rw [← List.append_assoc]
          exact List.perm_append_comm
        exact (q2.trans (q1.append_right ys)).trans hperm
    · rintro σ H3 ⟨v, us, ys, rfl, d3, hl3, hf3, hlen, hperm⟩
      rw [Int.toNat_natCast] at d3 hlen
      have : us = [] := List.eq_nil_of_length_eq_zero (by omega)
      subst this
      exact ⟨_, rfl, k fo H3 ys fo0 d3 hf3 hperm⟩
end
end W14
set_option Elab.async false
set_option linter.all false
set_option maxRecDepth 100000
set_option maxHeartbeats 600000
namespace W14
open PySem L2 PySem.Spec PyProof.Rows WR WB WE
/-! ### letters cut into words -/
theorem perm_map {α β : Type} {f : α → β} : ∀ {ys zs : List β}, ys.Perm zs → ∀ xs : List α, zs = xs.map f → ∃ ws : List α, ws.Perm xs ∧ ys = ws.map f := by
  intro ys zs h
  induction h with
  | nil => intro xs e; exact ⟨xs, List.Perm.refl _, e⟩
  | cons x _ ih =>
    intro xs e
    cases xs with
    | nil => cases e
    | cons y r =>
      rw [List.map_cons] at e
      injection e with e1 e2
      obtain ⟨ws, p, rfl⟩ := ih r e2
      exact ⟨y :: ws, p.cons y, by rw [e1]; rfl⟩
  | swap x y l =>
    intro xs e
    match xs, e with
    | a :: b :: r, e =>
      rw [List.map_cons, List.map_cons] at e
      injection e with e1 e2
      injection e2 with e2 e3
      exact ⟨b :: a :: r, List.Perm.swap _ _ _, by rw [e1, e2, e3]; rfl⟩
  | trans _ _ ih1 ih2 =>
    intro xs e
    obtain ⟨ws, p, rfl⟩ := ih2 xs e
    obtain ⟨us, p2, rfl⟩ := ih1 ws rfl
    exact ⟨us, p2.trans p, rfl⟩
def rgI (a b : Nat) : List Int := (List.range (b - a)).map fun (i : Nat) => ((a + i : Nat) : Int)
theorem rgV_I (a b : Nat) : rgV (a : Int) (b : Int) = iv (rgI a b) := by
  unfold rgV rgI
  rw [show ((b : Int) - (a : Int)).toNat = b - a by omega]
  show _ = List.map V.int (List.map _ _)
  rw [List.map_map]
  refine List.map_congr_left fun i _ => ?_
  show V.int ((a : Int) + (i : Nat)) = V.int ((a + i : Nat) : Int)
  rw [show ((a : Int) + (i : Nat)) = ((a + i : Nat) : Int) by omega]
theorem rgI_mem {a b : Nat} {z : Int} (h : z ∈ rgI a b) : (a : Int) ≤ z ∧ z < (b : Int) := by
  obtain ⟨i, hi, rfl⟩ := List.mem_map.mp h
  have := List.mem_range.mp hi
  omega
theorem rgI_nodup (a b : Nat) : (rgI a b).Nodup := by
  refine List.pairwise_map.mpr ((List.nodup_range (n := b - a)).imp fun {x y} ne e => ne ?_)
  omega
theorem rgI_len (a b : Nat) : (rgI a b).length = b - a := by
  unfold rgI
  rw [List.length_map, List.length_range]
theorem cut_mid {xs : List V} {b c : Nat} (h1 : b ≤ c) (h2 : c ≤ xs.length) : cutV xs (some ((b : Nat) : Int)) (some ((c : Nat) : Int)) = (xs.drop b).take (c - b) := by
  unfold cutV
  rw [HT.sIx_nat, HT.sIx_nat, Nat.min_eq_left h2, Nat.min_eq_left (by omega)]
theorem cut_till {xs : List V} {c : Nat} : cutV xs none (some ((c : Nat) : Int)) = xs.take (min c xs.length) := by
  unfold cutV
  rw [HT.sIx_none, HT.sIx_nat, List.drop_zero, Nat.sub_zero]
/-- lists of letters, none at the place fo -/
def LX (fo : Addr) (ns : List Int) (H : Hp) (v : V) : Prop := ∃ q, v = V.ref q ∧ q ≠ fo ∧ H q = some (.lst (iv ns))
/-- words: a list of lists of letters -/
def LLs (H : Hp) (us : List V) (ws : List (List Int)) : Prop := All2 (fun v w => LI w H v) us ws
theorem LLs.same {H H' : Hp} {us : List V} {ws : List (List Int)} (h : LLs H us ws) (s : Same H H') : LLs H' us ws := h.imp fun _ _ r => r.same s
def WordsOk (ls : List Int) (ws : List (List Int)) : Prop := ws.flatten = ls ∧ (∀ w ∈ ws, w ≠ []) ∧ 1 ≤ ws.length ∧ ws.length ≤ 4
def spCut : Sp := fun vs H Q _ => ∃ (a c p : Addr) (ls : List Int) (n : Nat), vs = [.ref a, .ref p] ∧ HandAt H a c n ∧ p ≠ a ∧ H p = some (.lst (iv ls)) ∧ 1 ≤ ls.length ∧ ls.length ≤ 60 ∧ n ≤ 7000 ∧
  ∀ l H' us ws, H l = none → Drew a c (n + 70) H H' → H' l = some (.lst us) → LLs H' us ws → WordsOk ls ws → Q (.ref l) H'
abbrev sCut : Stmt := top 67
abbrev nCut : List Str := ["_law_pen_here", "_law_letters_here", "_law_many", "_law_cuts", "_law_found", "_law_begin", "_law_cut_here"]
theorem scCut : FnScope nCut ["_law_pen_here", "_law_letters_here"] (defScope sCut) := ⟨rfl, rfl, rfl, by decide +kernel, rfl, by decide +kernel, by decide +kernel⟩
section
variable {P : Program} {w : World} {K : PySem.W.Frag} {mg : Str → Option Value} {base : Heap}
theorem ok_Cut {f : Addr} {fd : FuncData} (F : Fun K "_law_cut" "_law_cut" sCut f fd) (N : TN mg)  (G_draw : Cal P w K mg base "_law_draw" 1 ["_law_pen_here", "_law_many"] (spTake)) (G_mixed : Cal P w K mg base "_law_mixed" 2 ["_law_pen_here", "_law_some"] (spMixed)) : FnOk P w K mg base CX0 3 f fd ["_law_pen_here", "_law_letters_here"] (spCut) := by
  refine F.ok scCut (fun vs H Q E h => ?_) (fun cdv A outer s H vs Q E hr h => ?_)
  · obtain ⟨a, c, p, ls, n, rfl, _⟩ := h
    rfl
  · obtain ⟨a, c, p, ls, n, rfl, hH, hpa, hp, l1, l60, hn, k⟩ := h
    refine ⟨_, pss_cons (ps_set (i := 2) scCut.nd rfl (Or.inl rfl) (pe_op op_add pe_int (pe_cal G_draw hr (by decide) (by rfl) (pa_cons (pv 0) (pa_cons (pe_callB (call_min2 rfl) (by rfl) N.min (by decide +kernel) (pa_cons pe_int (pa_cons (pe_callB call_len_seq (by rfl) N.len PySem.boot_len (pa_cons (pv 1) pa_nil)) pa_nil))) pa_nil)))))
      (pss_cons (ps_set (i := 3) scCut.nd rfl (Or.inl rfl) (pe_callB cr_sorted (by rfl) N.sorted (by decide +kernel) (pa_cons (pe_slice sl_list (pe_cal G_mixed hr (by decide) (by rfl) (pa_cons (pv 0) (pa_cons (pe_listRg rfl (by rfl) N.list (prg_2 (by rfl) N.range pe_int (pe_callB call_len_seq (by rfl) N.len PySem.boot_len (pa_cons (pv 1) pa_nil)))) pa_nil))) po_none (po_some (pe_op op_sub (pv 2) pe_int))) pa_nil)))
      (pss_cons (ps_par (i := 4) (j := 5) (by rfl) scCut.nd rfl rfl (by decide) rfl rfl (pa_cons (pe_lst pa_nil) (pa_cons pe_int pa_nil)) (by rfl))
      (pss_cons (ps_for PassesOwn.never rfl (pi_list (pe_op op_cat (pv 3) (pe_lst (pa_cons (pe_callB call_len_seq (by rfl) N.len PySem.boot_len (pa_cons (pv 1) pa_nil)) pa_nil)))) (pg_name (i := 6) scCut.nd rfl (Or.inl rfl))
      (pss_cons (ps_expr (pe_bm PySem.F.plainAttrs_list PySem.F.slot_list_append PySem.F.type_list_append mt_append (pv 4) (pa_cons (pe_slice sl_list (pv 1) (po_some (pv 5)) (po_some (pv 6))) pa_nil)))
      (pss_one (ps_set (i := 5) scCut.nd rfl (Or.inl rfl) (pv 6)))))
      (pss_one (ps_ret (pv 4)))))), ?_⟩
    have elen : ((iv ls).length : Int) = (ls.length : Int) := by rw [List.length_map]
    refine ⟨_, rfl, _, rfl, p, _, rfl, .inl (SqL.of hp), _, _, rfl, a, c, _, n, rfl, hH, by omega, ?_, ?_, fun H1 j j0 j1 hH1 hK1 => ⟨_, _, rfl, rfl, ?_⟩⟩
    · rw [elen]; split <;> omega
    · refine Nat.lt_of_le_of_lt (m := 60) ?_ (by decide)
      rw [elen]; split <;> omega
    rw [elen] at j1
    obtain ⟨jn, rfl⟩ : ∃ jn : Nat, j = (jn : Int) := ⟨j.toNat, by omega⟩
    have jn4 : jn < 4 ∧ jn < ls.length := by split at j1 <;> omega
    have D1 : Drew a c (n + 1) H H1 := ⟨hH1, hK1⟩
    have hp1 := hK1 _ _ hpa hp
    try dsimp only
    refine ⟨_, rfl, _, rfl, p, _, rfl, .inl (SqL.of hp1), _, _, rfl, rfl, ?_, fun q hq => ?_⟩
    · rw [elen]
      exact ⟨by omega, by omega, by omega, by omega⟩
    rw [elen, show (1 : Int) = ((1 : Nat) : Int) from rfl, rgV_I]
    have D2 : Drew a c (n + 1) H (L2.upd H1 q (.lst (iv (rgI 1 ls.length)))) := D1.new hq
    have lrg := rgI_len 1 ls.length
    refine ⟨a, c, q, _, n + 1, rfl, D2.1, upd_same, by rw [List.length_map]; omega, by omega, fun lm H3 ys hlm D3 hm hperm => ?_⟩
    obtain ⟨ms, pm, rfl⟩ := perm_map hperm _ rfl
    have D3' : Drew a c (n + 1 + ls.length) H H3 := (D2.trans D3).mono (by rw [List.length_map]; omega)
    refine ⟨_, rfl, _, _, rfl, rfl, _, rfl, lm, _, rfl, SqL.of hm, fun p2 hp2 => ?_⟩
    have lms := pm.length_eq
    rw [show (((1 : Nat) : Int) + (jn : Int) - ((1 : Nat) : Int)) = ((jn : Nat) : Int) by omega, cut_till, Nat.min_eq_left (by rw [List.length_map]; omega), ← List.map_take]
    refine ⟨p2, _, rfl, SqL.of upd_same, by rw [List.length_take]; omega, fun cs p3 pc sc hp3 => ?_⟩
    have hcs : ∀ z ∈ cs, 1 ≤ z ∧ z < (ls.length : Int) := fun z hz => by
      have := rgI_mem (pm.mem_iff.mp (List.mem_of_mem_take (pc.mem_iff.mp hz)))
      omega
    have ncs : cs.Nodup := pc.nodup_iff.mpr ((pm.nodup_iff.mpr (rgI_nodup _ _)).sublist (List.take_sublist _ _))
    have lcs : cs.length ≤ 3 := by
      rw [pc.length_eq, List.length_take]
      omega
    have hlt : ((0 : Int) :: (cs ++ [(ls.length : Int)])).Pairwise (· < ·) := by
      refine List.pairwise_cons.mpr ⟨fun z hz => ?_, List.pairwise_append.mpr ⟨?_, List.pairwise_singleton _ _, fun x hx y hy => ?_⟩⟩
      · rcases List.mem_append.mp hz with hz | hz
        · have := hcs z hz
          omega
        · rw [List.mem_singleton.mp hz]
          omega
      · refine (sc.and ncs).imp fun {x y} h => ?_
        have := h.1
        have := h.2
        omega
      · rw [List.mem_singleton.mp hy]
        exact (hcs x hx).2
    obtain ⟨H4, e4⟩ : ∃ H4, H4 = L2.upd (L2.upd H3 p2 (.lst (iv (ms.take jn)))) p3 (.lst (iv cs)) := ⟨_, rfl⟩
    have D4 : Drew a c (n + 1 + ls.length) H H4 := by
      rw [e4]
      exact (D3'.new hp2).new hp3
    have g4 : H4 p3 = some (.lst (iv cs)) := by rw [e4, upd_same]
    rw [← e4]
    have hp4 := D4.2 _ _ hpa hp
    refine ⟨Nat.zero_le _, fun fo hfo => ⟨_, _, rfl, ?_⟩⟩
    have fo0 : H fo = none := D4.back hfo
    have hfa := hH.ne fo0
    have hfc := hH.neC fo0
    have D5 := D4.new (o := .lst []) hfo
    have g5 : L2.upd H4 fo (.lst []) fo = some (.lst []) := upd_same
    have g53 : L2.upd H4 fo (.lst []) p3 = some (.lst (iv cs)) := by rw [upd_ne (ne_of_none g4 hfo)]; exact g4
    have hp5 : L2.upd H4 fo (.lst []) p = some (.lst (iv ls)) := by rw [upd_ne (ne_of_none hp4 hfo)]; exact hp4
    obtain ⟨H5, e5⟩ : ∃ H5, H5 = L2.upd H4 fo (.lst []) := ⟨_, rfl⟩
    rw [← e5] at D5 g5 g53 hp5 ⊢
    refine ⟨_, rfl, _, rfl, p, _, rfl, .inl (SqL.of hp5), by show 1 ≤ sizeLine; decide, fun q2 hq2 => ?_⟩
    have s6 := same_upd (o := .lst [.int ((iv ls).length : Int)]) hq2
    refine ⟨p3, q2, _, _, rfl, rfl, s6 _ _ g53, upd_same, Evl.sz_of (by rw [List.length_map]; show cs.length + 1 ≤ _; omega), fun r hr2 => ?_⟩
    have s7 := s6.trans (same_upd (o := .lst (iv cs ++ [.int ((iv ls).length : Int)])) hr2)
    have g7 : L2.upd (L2.upd H5 q2 (.lst [.int ((iv ls).length : Int)])) r (.lst (iv cs ++ [.int ((iv ls).length : Int)])) r = some (.lst (iv (cs ++ [(ls.length : Int)]))) := by
      rw [upd_same, elen]
      simp [iv]
    obtain ⟨H7, e7⟩ : ∃ H7, H7 = L2.upd (L2.upd H5 q2 (.lst [.int ((iv ls).length : Int)])) r (.lst (iv cs ++ [.int ((iv ls).length : Int)])) := ⟨_, rfl⟩
    rw [← e7] at s7 g7 ⊢
    have les : (cs ++ [(ls.length : Int)]).length ≤ 4 := by rw [List.length_append]; show cs.length + 1 ≤ 4; omega
    have nrf : r ≠ fo := fun e => by
      rw [e] at hr2
      rw [s6 _ _ g5] at hr2
      cases hr2
    refine ⟨r, rfl, ⟨_, SqL.of g7⟩, for_list (K := K) (a := r) (xs := iv (cs ++ [(ls.length : Int)])) (fun i σ H' => ∃ (v2 v6 : Option V) (b : Nat) (us : List V) (ws : List (List Int)), σ = [some (.ref a), some (.ref p), v2, some (.ref p3), some (.ref fo), some (.int (b : Int)), v6] ∧ Drew a c (n + 70) H H' ∧ H' r = some (.lst (iv (cs ++ [(ls.length : Int)]))) ∧ H' p = some (.lst (iv ls)) ∧ H' fo = some (.lst us) ∧
        All2 (fun v w => LX fo w H' v) us ws ∧ ws.flatten = ls.take b ∧ (∀ w ∈ ws, w ≠ []) ∧ ws.length = i ∧ b ≤ ls.length ∧ (b : Int) = ((0 : Int) :: (cs ++ [(ls.length : Int)])).getD i 0)
      ⟨_, none, 0, [], [], rfl, (D5.same s7).mono (by omega), g7, s7 _ _ hp5, s7 _ _ g5, .nil, rfl, fun _ h => (nomatch h), rfl, Nat.zero_le _, rfl⟩ (fun i σ H' _ ⟨_, _, _, _, _, _, _, h, _⟩ => SqL.of h) ?_ ?_⟩
    · rintro i x σ H8 hi ⟨v2, v6, b, us, ws, rfl, D8, g8, hp8, hf8, hu, hfl, hne, hlen, hb, eb⟩
      obtain ⟨z, hz, rfl⟩ : ∃ z, (cs ++ [(ls.length : Int)])[i]? = some z ∧ x = V.int z := by
        rw [List.getElem?_map] at hi
        cases e : (cs ++ [(ls.length : Int)])[i]? with
        | none => rw [e] at hi; cases hi
        | some z => rw [e] at hi; exact ⟨z, rfl, (Option.some.inj hi).symm⟩
      have hil : i < (cs ++ [(ls.length : Int)]).length := (List.getElem?_eq_some_iff.mp hz).1
      have hbz : (b : Int) < z := by
        have := List.pairwise_iff_getElem.mp hlt i (i + 1) (by rw [List.length_cons]; omega) (by rw [List.length_cons]; omega) (by omega)
        rw [List.getElem_cons_succ, (List.getElem?_eq_some_iff.mp hz).2] at this
        rw [eb, List.getD_eq_getElem?_getD, List.getElem?_eq_getElem (by rw [List.length_cons]; omega)]
        exact this
      have hzl : z ≤ (ls.length : Int) := by
        rcases List.mem_append.mp (List.mem_of_getElem? hz) with h | h
        · have := (hcs z h).2
          omega
        · rw [List.mem_singleton.mp h]
          exact Int.le_refl _
      obtain ⟨cc, rfl⟩ : ∃ cc : Nat, z = (cc : Int) := ⟨z.toNat, by omega⟩
      refine ⟨_, rfl, .inl ⟨rfl, _, SqL.of hf8⟩, _, rfl, _, rfl, _, rfl, _, rfl, _, rfl, p, _, rfl, SqL.of hp8, fun q hq => ?_⟩
      rw [cut_mid (by omega) (by rw [List.length_map]; omega), ← List.map_drop, ← List.map_take]
      have s9 := same_upd (o := .lst (iv ((ls.drop b).take (cc - b)))) hq
      have nqf : q ≠ fo := fun e => by rw [e, hf8] at hq; cases hq
      have lus := hu.length
      refine ⟨fo, us, _, rfl, rfl, s9 _ _ hf8, Evl.sz_lt (by omega), ?_⟩
      refine ⟨_, rfl, v2, _, cc, us ++ [.ref q], ws ++ [(ls.drop b).take (cc - b)], rfl, ((D8.new hq).put fo0 hfa hfc), ?_, ?_, upd_same, ?_, ?_, ?_, ?_, by omega, ?_⟩
      · rw [upd_ne nrf]; exact s9 _ _ g8
      · rw [upd_ne (fun e => by rw [e, fo0] at hp; cases hp)]; exact s9 _ _ hp8
      · refine All2.app (hu.imp fun _ _ ⟨q', e, ne, g⟩ => ⟨q', e, ne, by rw [upd_ne ne]; exact s9 _ _ g⟩) (.cons ⟨q, rfl, nqf, by rw [upd_ne nqf, upd_same]⟩ .nil)
      · rw [List.flatten_append, hfl]
        show ls.take b ++ ((ls.drop b).take (cc - b) ++ []) = ls.take cc
        rw [List.append_nil]
        have := List.take_add (l := ls) (i := b) (j := cc - b)
        rw [← this, show b + (cc - b) = cc by omega]
      · intro w hw
        rcases List.mem_append.mp hw with hw | hw
        · exact hne w hw
        · rw [List.mem_singleton.mp hw]
          intro e
          have : ((ls.drop b).take (cc - b)).length = 0 := by rw [e]; rfl
          rw [List.length_take, List.length_drop] at this
          omega
      · rw [List.length_append, hlen]
        rfl
      · show ((cc : Nat) : Int) = ((0 : Int) :: (cs ++ [(ls.length : Int)])).getD (i + 1) 0
        rw [List.getD_eq_getElem?_getD, List.getElem?_cons_succ, hz]
        rfl
    · rintro σ H8 ⟨v2, v6, b, us, ws, rfl, D8, g8, hp8, hf8, hu, hfl, hne, hlen, hb, eb⟩
      have eb2 : b = ls.length := by
        rw [List.length_map, List.getD_eq_getElem?_getD, List.length_append] at eb
        have : ((0 : Int) :: (cs ++ [(ls.length : Int)]))[cs.length + [(ls.length : Int)].length]? = some (ls.length : Int) := by
          show ((0 : Int) :: (cs ++ [(ls.length : Int)]))[cs.length + 1]? = _
          rw [List.getElem?_cons_succ, List.getElem?_append_right (Nat.le_refl _), Nat.sub_self]
          rfl
        rw [this] at eb
        show b = ls.length
        have : (b : Int) = (ls.length : Int) := eb
        omega
      subst eb2
      rw [List.take_length] at hfl
      refine ⟨_, rfl, k fo H8 us ws fo0 D8 hf8 (hu.imp fun _ _ ⟨q, e, _, g⟩ => ⟨q, e, g⟩) ⟨hfl, hne, ?_, ?_⟩⟩
      · rw [hlen, List.length_map, List.length_append]
        exact Nat.le_add_left _ _
      · rw [hlen, List.length_map]
        exact les
end
end W14
set_option Elab.async false
set_option linter.all false
set_option maxRecDepth 100000
set_option maxHeartbeats 600000
namespace W14
open PySem L2 PySem.Spec PyProof.Rows WR WB WE
/-! ### plain words -/
def plF : List (Int × Nat) → List Int
  | [] => []
  | (k, c) :: r => (List.replicate c [k, -k]).flatten ++ plF r
theorem plF_app : ∀ xs ys : List (Int × Nat), plF (xs ++ ys) = plF xs ++ plF ys
  | [], _ => rfl
  | (k, c) :: r, ys => by
    show (List.replicate c [k, -k]).flatten ++ plF (r ++ ys) = (List.replicate c [k, -k]).flatten ++ plF r ++ plF ys
    rw [plF_app r ys, List.append_assoc]
def sumN : List (Int × Nat) → Nat
  | [] => 0
  | (_, c) :: r => c + sumN r
theorem rep_len (k : Int) : ∀ c : Nat, (List.replicate c [k, -k]).flatten.length = 2 * c
  | 0 => rfl
  | c + 1 => by
    rw [List.replicate_succ, List.flatten_cons, List.length_append, rep_len k c]
    show 2 + 2 * c = _
    omega
theorem plF_len : ∀ xs : List (Int × Nat), (plF xs).length = 2 * sumN xs
  | [] => rfl
  | (k, c) :: r => by
    show ((List.replicate c [k, -k]).flatten ++ plF r).length = 2 * (c + sumN r)
    rw [List.length_append, rep_len, plF_len r]
    omega
theorem rep_cnt (k z : Int) : ∀ c : Nat, ((List.replicate c [k, -k]).flatten.count z : Int) = c * ((if k = z then 1 else 0) + (if -k = z then 1 else 0))
  | 0 => by simp
  | c + 1 => by
    rw [List.replicate_succ, List.flatten_cons, List.count_append, Int.natCast_add, rep_cnt k z c]
    have : (([k, -k].count z : Nat) : Int) = (if k = z then 1 else 0) + (if -k = z then 1 else 0) := by
      rw [List.count_cons, List.count_cons, List.count_nil]
      by_cases h1 : k = z
      · by_cases h2 : -k = z
        · simp only [beq_iff_eq, if_pos h1, if_pos h2]; rfl
        · simp only [beq_iff_eq, if_pos h1, if_neg h2]; rfl
      · by_cases h2 : -k = z
        · simp only [beq_iff_eq, if_neg h1, if_pos h2]; rfl
        · simp only [beq_iff_eq, if_neg h1, if_neg h2]; rfl
    rw [this, Int.natCast_add, Int.add_mul]
    simp
    omega
theorem plF_cnt0 (z : Int) : ∀ xs : List (Int × Nat), ((plF xs).count z : Int) = (plF xs).count (-z)
  | [] => rfl
  | (k, c) :: r => by
    show (((List.replicate c [k, -k]).flatten ++ plF r).count z : Int) = (((List.replicate c [k, -k]).flatten ++ plF r).count (-z) : Nat)
    rw [List.count_append, List.count_append, Int.natCast_add, Int.natCast_add, plF_cnt0 z r, rep_cnt, rep_cnt]
    congr 2
    by_cases h1 : k = z <;> by_cases h2 : -k = z <;> simp [h1, h2] <;> (try split) <;> (try split) <;> omega
theorem plF_mem {z : Int} : ∀ {xs : List (Int × Nat)}, z ∈ plF xs → ∃ p ∈ xs, z = p.1 ∨ z = -p.1
  | (k, c) :: r, h => by
    rcases List.mem_append.mp h with h | h
    · obtain ⟨l, hl, hz⟩ := List.mem_flatten.mp h
      rw [List.eq_of_mem_replicate hl] at hz
      refine ⟨(k, c), List.mem_cons_self, ?_⟩
      simpa using hz
    · obtain ⟨p, hp, e⟩ := plF_mem h
      exact ⟨p, List.mem_cons_of_mem _ hp, e⟩
theorem bal_none {xs : List Int} (h : ∀ z, (xs.count z : Int) = xs.count (-z)) : Fr.bal xs = [] := by
  unfold Fr.bal
  refine List.filter_eq_nil_iff.mpr fun p hp => ?_
  obtain ⟨i, _, rfl⟩ := List.mem_map.mp hp
  have := h ((i : Int) + 1)
  show ¬ decide (Fr.cnt xs ((i : Int) + 1) ≠ 0) = true
  unfold Fr.cnt
  rw [decide_eq_true_iff]
  omega
/-- words of drawn kinds, as often as counts tell -/
structure PlainOk (cs : List Nat) (ws : List (List Int)) (ks : List Int) : Prop where
  nd : ks.Nodup
  rg : ∀ k ∈ ks, 1 ≤ k ∧ k ≤ 26
  len : ks.length = 26
  pm : ws.flatten.Perm (plF (ks.zip cs))
  ne : ∀ w ∈ ws, w ≠ []
  l1 : 1 ≤ ws.length
  l4 : ws.length ≤ 4
theorem le_sum {c : Nat} : ∀ {cs : List Nat}, c ∈ cs → c ≤ cs.sum
  | d :: r, h => by
    rw [List.sum_cons]
    rcases List.mem_cons.mp h with rfl | h
    · omega
    · have := le_sum h
      omega
theorem sum_zip : ∀ (ks : List Int) (cs : List Nat), sumN (ks.zip cs) ≤ cs.sum
  | [], _ => Nat.zero_le _
  | _ :: _, [] => Nat.zero_le _
  | k :: ks, c :: cs => by
    have := sum_zip ks cs
    rw [List.zip_cons_cons, List.sum_cons]
    show c + sumN (ks.zip cs) ≤ _
    omega
theorem PlainOk.ok {cs : List Nat} {ws : List (List Int)} {ks : List Int} (h : PlainOk cs ws ks) (hs : cs.sum ≤ 12) : RimOk ws := by
  refine ⟨h.l1, h.l4, h.ne, ?_, fun x hx => ?_, bal_none fun z => ?_⟩
  · rw [h.pm.length_eq, plF_len]
    have := sum_zip ks cs
    omega
  · obtain ⟨p, hp, e⟩ := plF_mem (h.pm.mem_iff.mp hx)
    have := h.rg p.1 (List.of_mem_zip hp).1
    omega
  · rw [h.pm.count_eq, h.pm.count_eq]
    exact plF_cnt0 z _
def spPlain : Sp := fun vs H Q _ => ∃ (a c p : Addr) (cs : List Nat) (n : Nat), vs = [.ref a, .ref p] ∧ HandAt H a c n ∧ p ≠ a ∧ H p = some (.lst (iv (nats cs))) ∧ cs.length ≤ 20 ∧ 1 ≤ cs.sum ∧ cs.sum ≤ 30 ∧ n ≤ 6000 ∧
  ∀ l H' us ws ks, H l = none → Drew a c (n + 200) H H' → H' l = some (.lst us) → LLs H' us ws → PlainOk cs ws ks → Q (.ref l) H'
abbrev sPlain : Stmt := top 68
abbrev nPlain : List Str := ["_law_pen_here", "_law_counts", "_law_kinds", "_law_letters_here", "_law_at", "_law_count"]
theorem scPlain : FnScope nPlain ["_law_pen_here", "_law_counts"] (defScope sPlain) := ⟨rfl, rfl, rfl, by decide +kernel, rfl, by decide +kernel, by decide +kernel⟩
section
variable {P : Program} {w : World} {K : PySem.W.Frag} {mg : Str → Option Value} {base : Heap}
theorem ok_Plain {f : Addr} {fd : FuncData} (F : Fun K "_law_plain" "_law_plain" sPlain f fd) (N : TN mg)  (G_cut : Cal P w K mg base "_law_cut" 3 ["_law_pen_here", "_law_letters_here"] (spCut)) (G_mixed : Cal P w K mg base "_law_mixed" 2 ["_law_pen_here", "_law_some"] (spMixed)) : FnOk P w K mg base CX0 4 f fd ["_law_pen_here", "_law_counts"] (spPlain) := by
  refine F.ok scPlain (fun vs H Q E h => ?_) (fun cdv A outer s H vs Q E hr h => ?_)
  · obtain ⟨a, c, p, cs, n, rfl, _⟩ := h
    rfl
  · obtain ⟨a, c, p, cs, n, rfl, hH, hpa, hp, l20, h1, h30, hn, k⟩ := h
    refine ⟨_, pss_cons (ps_par (i := 2) (j := 3) (by rfl) scPlain.nd rfl rfl (by decide) rfl rfl (pa_cons (pe_cal G_mixed hr (by decide) (by rfl) (pa_cons (pv 0) (pa_cons (pe_listRg rfl (by rfl) N.list (prg_2 (by rfl) N.range pe_int pe_int)) pa_nil))) (pa_cons (pe_lst pa_nil) pa_nil)) (by rfl))
      (pss_cons (ps_for PassesOwn.never rfl (pi_enum (by rfl) N.enumerate (pa_cons (pv 1) pa_nil)) (pg_tup (n := 2) rfl (pgs_cons (pg_name (i := 4) scPlain.nd rfl (Or.inl rfl)) (pgs_cons (pg_name (i := 5) scPlain.nd rfl (Or.inl rfl)) pgs_nil)))
      (pss_one (ps_set (i := 3) scPlain.nd rfl (Or.inl rfl) (pe_op op_cat (pv 3) (pe_op op_rep (pe_lst (pa_cons (pe_ix ix_list (pv 2) (pv 4) (fun _ _ => rfl)) (pa_cons (pe_un un_neg (pe_ix ix_list (pv 2) (pv 4) (fun _ _ => rfl))) pa_nil))) (pv 5))))))
      (pss_one (ps_ret (pe_cal G_cut hr (by decide) (by rfl) (pa_cons (pv 0) (pa_cons (pe_cal G_mixed hr (by decide) (by rfl) (pa_cons (pv 0) (pa_cons (pv 3) pa_nil))) pa_nil)))))), ?_⟩
    refine ⟨_, rfl, _, _, rfl, rfl, ⟨by decide, by decide, by decide, by decide, by decide⟩, fun q hq => ?_⟩
    rw [show rgV 1 27 = iv (rgI 1 27) from rgV_I 1 27]
    have D0 : Drew a c n H (L2.upd H q (.lst (iv (rgI 1 27)))) := (Drew.refl hH).new hq
    refine ⟨a, c, q, _, n, rfl, D0.1, upd_same, by rw [List.length_map, rgI_len]; decide, by omega, fun lk H1 ys hlk D1 g1 pm => ?_⟩
    obtain ⟨ks, pk, rfl⟩ := perm_map pm _ rfl
    have lks : ks.length = 26 := by rw [pk.length_eq, rgI_len]
    have D1 : Drew a c (n + 26) H H1 := (D0.trans D1).mono (by rw [List.length_map, rgI_len]; omega)
    have hp1 := D1.2 _ _ hpa hp
    refine ⟨Nat.zero_le _, fun fo hfo => ⟨_, _, rfl, ?_⟩⟩
    have s2 := same_upd (o := .lst []) hfo
    have hnc : (nats cs).length = cs.length := List.length_map ..
    refine ⟨_, rfl, p, _, rfl, SqL.of (s2 _ _ hp1), ?_⟩
    refine for_it (walk_enum (K := K) (a := p) (xs := iv (nats cs))) (fun i σ H' => ∃ (v4 v5 : Option V) (l : Addr), σ = [some (.ref a), some (.ref p), some (.ref lk), some (.ref l), v4, v5] ∧ Drew a c (n + 26) H H' ∧ H' p = some (.lst (iv (nats cs))) ∧ H' lk = some (.lst (iv ks)) ∧ H' l = some (.lst (iv (plF ((ks.zip cs).take i)))))
      ⟨none, none, fo, rfl, D1.same s2, s2 _ _ hp1, s2 _ _ g1, upd_same⟩ (fun i σ H' _ ⟨_, _, _, _, _, h, _⟩ => SqL.of h) ?_ ?_
    · rintro i x σ H3 H4 hi ⟨v4, v5, l, rfl, D3, hp3, hk3, hl3⟩ ⟨T0, xi, yi, rfl, hT0, rfl, hx, hy⟩
      have hin : i < cs.length := by rw [List.length_map, hnc] at hi; exact hi
      obtain rfl := Option.some.inj hx
      have hik : i < ks.length := by omega
      have ey : yi = V.int ((cs[i] : Nat) : Int) := by
        have hy : (iv (nats cs))[i]? = some yi := hy
        unfold nats at hy
        rw [List.getElem?_map, List.getElem?_map, List.getElem?_eq_getElem hin] at hy
        exact (Option.some.inj hy).symm
      subst ey
      have sT := same_upd (o := .tup [.int (i : Int), V.int ((cs[i] : Nat) : Int)]) hT0
      have D4 := D3.same sT
      have hp4 := sT _ _ hp3
      have hk4 := sT _ _ hk3
      have hl4 := sT _ _ hl3
      have gT : L2.upd H3 T0 (.tup [.int (i : Int), V.int ((cs[i] : Nat) : Int)]) T0 = some (.tup [.int (i : Int), V.int ((cs[i] : Nat) : Int)]) := upd_same
      obtain ⟨H4, e4⟩ : ∃ H4, H4 = L2.upd H3 T0 (.tup [.int (i : Int), V.int ((cs[i] : Nat) : Int)]) := ⟨_, rfl⟩
      rw [← e4] at D4 hp4 hk4 hl4 gT ⊢
      refine ⟨T0, _, rfl, SqT.of gT, rfl, _, _, rfl, _, _, rfl, rfl, ?_⟩
      have hat : (iv ks)[i]? = some (V.int ks[i]) := iv_get (List.getElem?_eq_getElem hik)
      have hz : (ks.zip cs)[i]? = some (ks[i], cs[i]) := by
        rw [List.getElem?_zip_eq_some]
        exact ⟨List.getElem?_eq_getElem hik, List.getElem?_eq_getElem hin⟩
      have hzl : i < (ks.zip cs).length := (List.getElem?_eq_some_iff.mp hz).1
      have hst : plF ((ks.zip cs).take (i + 1)) = plF ((ks.zip cs).take i) ++ (List.replicate cs[i] [ks[i], -ks[i]]).flatten := by
        rw [List.take_succ_eq_append_getElem hzl, plF_app, (List.getElem?_eq_some_iff.mp hz).2]
        show _ ++ ((List.replicate cs[i] [ks[i], -ks[i]]).flatten ++ []) = _
        rw [List.append_nil]
      have hcb : cs[i] ≤ 30 := by
        have := le_sum (List.getElem_mem hin)
        omega
      have hpl : (plF ((ks.zip cs).take i)).length ≤ 60 := by
        rw [plF_len]
        have h1 : sumN ((ks.zip cs).take i) ≤ cs.sum := by
          rw [List.zip_eq_zipWith, List.take_zipWith, ← List.zip_eq_zipWith]
          refine Nat.le_trans (sum_zip _ _) ?_
          have := List.take_append_drop i cs
          have e2 : (cs.take i).sum + (cs.drop i).sum = cs.sum := by rw [← List.sum_append, this]
          omega
        omega
      generalize ks[i] = z at hat hst ⊢
      generalize cs[i] = cc at hst hcb ⊢
      refine ⟨_, rfl, _, rfl, _, rfl, lk, _, _, _, rfl, rfl, SqL.of hk4, atI_nat hat, _, rfl, _, rfl, lk, _, _, _, rfl, rfl, SqL.of hk4, atI_nat hat, _, rfl, by show 2 ≤ sizeLine; decide, fun q1 hq1 => ?_⟩
      have s5 := same_upd (o := .lst [.int z, .int (-z)]) hq1
      refine ⟨_, rfl, q1, (cc : Int), _, rfl, rfl, upd_same, by omega, by omega, Evl.sz_of (by show 2 * ((cc : Nat) : Int).toNat ≤ _; omega), fun q2 hq2 => ?_⟩
      have erep : (List.replicate (((cc : Nat) : Int).toNat) [V.int z, V.int (-z)]).flatten = iv (List.replicate cc [z, -z]).flatten := by
        rw [Int.toNat_natCast]
        simp [iv]
      rw [erep]
      have s6 := s5.trans (same_upd (o := .lst (iv (List.replicate cc [z, -z]).flatten)) hq2)
      refine ⟨l, q2, _, _, rfl, rfl, s6 _ _ hl4, upd_same, Evl.sz_of (by rw [List.length_map, List.length_map, rep_len]; omega), fun q3 hq3 => ?_⟩
      have s7 := s6.trans (same_upd (o := .lst (iv (plF ((ks.zip cs).take i)) ++ iv (List.replicate cc [z, -z]).flatten)) hq3)
      refine ⟨_, _, q3, rfl, D4.same s7, s7 _ _ hp4, s7 _ _ hk4, ?_⟩
      rw [upd_same, hst]
      simp [iv]
    · rintro σ H3 ⟨v4, v5, l, rfl, D3, hp3, hk3, hl3⟩
      have lzip : (ks.zip cs).length = cs.length := by rw [List.length_zip]; omega
      rw [List.length_map, hnc, ← lzip, List.take_length] at hl3
      have lpl : (plF (ks.zip cs)).length = 2 * sumN (ks.zip cs) := plF_len _
      have hsum : sumN (ks.zip cs) = cs.sum := by
        have : ∀ (ks : List Int) (cs : List Nat), cs.length ≤ ks.length → sumN (ks.zip cs) = cs.sum := by
          intro ks
          induction ks with
          | nil => intro cs h; cases cs with | nil => rfl | cons => exact absurd h (by simp)
          | cons k ks ih =>
            intro cs h
            cases cs with
            | nil => rfl
            | cons c cs =>
              rw [List.zip_cons_cons, List.sum_cons]
              show c + sumN (ks.zip cs) = _
              rw [ih cs (by simpa using h)]
        exact this ks cs (by omega)
      refine ⟨_, rfl, _, rfl, _, rfl, a, c, l, _, n + 26, rfl, D3.1, hl3, by rw [List.length_map]; omega, by omega, fun l2 H4 ys2 hl2 D4 g4 pm2 => ?_⟩
      obtain ⟨ms, pm3, rfl⟩ := perm_map pm2 _ rfl
      have D4' := (D3.trans D4).mono (n := n + 100) (by rw [List.length_map]; omega)
      have lms := pm3.length_eq
      refine ⟨a, c, l2, ms, n + 100, rfl, D4'.1, D3.1.ne hl2, g4, by omega, by omega, by omega, fun l3 H5 us ws hl3' D5 g5 hLL hok => ?_⟩
      obtain ⟨o1, o2, o3, o4⟩ := hok
      refine k l3 H5 us ws ks (D4'.back hl3') ((D4'.trans D5).mono (by omega)) g5 hLL ⟨pk.nodup_iff.mpr (rgI_nodup _ _), fun x hx => ?_, lks, by rw [o1]; exact pm3, o2, o3, o4⟩
      have := rgI_mem (pk.mem_iff.mp hx)
      omega
end
end W14
set_option Elab.async false
set_option linter.all false
set_option maxRecDepth 100000
set_option maxHeartbeats 600000
namespace W14
open PySem L2 PySem.Spec PyProof.Rows WR WB WE
theorem nx_mk_lc {C : Addr} {sq : Sp} {wi : TI} {g : TG} {tt : TT} {te : TE} {vs : List Nat} {D : Ends} {σ : L2.St} {H : Hp} {rt : VK} {b1 b2 : L2.St → Hp → Prop}
    (h : wi σ H fun J H1 => tLc (fun _ H R => R J H) g tt te vs σ H1 fun y H2 => tMake C sq [] E0 (fun _ H Q => Q [y] H) σ H2 D.rt) : tNext { nx := tRet (tMake C sq [] E0 (tCons (tLc wi g tt te vs) tNil)) D, rt := rt, bk := b1, ct := b2 } σ H := h
theorem all_word {K : PySem.W.Frag} {C : Addr} {H : Hp} {vs : List V} {ws : List (List Int)} (h : All2 (fun v ns => ∃ q, v = V.ref q ∧ WordAt K C H q ns) vs ws) : ∃ qs : List Addr, vs = qs.map V.ref ∧ Wds K C H qs ws := by
  induction h with
  | nil => exact ⟨[], rfl, .nil⟩
  | cons h1 _ ih =>
    obtain ⟨q, rfl, hq⟩ := h1
    obtain ⟨qs, rfl, hqs⟩ := ih
    exact ⟨q :: qs, rfl, .cons hq hqs⟩
theorem WordAt.keptL {K : PySem.W.Frag} {C : Addr} {H H' : Hp} {l p : Addr} {vs : List V} {ns : List Int} (hl : H l = some (.lst vs)) (d : Kept l H H') (h : WordAt K C H p ns) : WordAt K C H' p ns := by
  obtain ⟨dx, tl, tk, ks, h1, h2, h3, h4⟩ := h
  refine ⟨dx, tl, tk, ks, d _ _ (fun z => ?_) h1, SqB.keptL hl d h2, SqT.keptL hl d h3, h4⟩
  rw [z, hl] at h1
  cases h1
theorem pe_wordK {X : Cx} {K : PySem.W.Frag} {C : Addr} {p pos : Pos} {e : Expr} {es : List Expr} {t : TA} {j : Nat} (hK : X.K = K) (M : MkW X.prog X.w K X.mg X.base C) (T : TxW K X.mg C) (hr : Room j X.A) (hkj : 5 ≤ j) (hg : Gl X "Word") (ha : PA X (e :: es) t)
    (he : starEach (e :: es) X.env = (false, eval e X.env) :: starEach es X.env := by rfl) (hpl : (backTo pos (starEach es X.env)).any (·.1) = false := by rfl) : PE X (.Call (.Name "Word" p) (e :: es) [] pos) (tMake C (spInit K C) [] E0 t) := by
  subst hK
  exact pe_word M T hr hkj hg ha he hpl
theorem op_inK {X : Cx} {K : PySem.W.Frag} (h : X.K = K) : OpR X (compareOp .In) (rIn K false) := h ▸ op_in_seq
theorem op_notInK {X : Cx} {K : PySem.W.Frag} (h : X.K = K) : OpR X (compareOp .NotIn) (rIn K true) := h ▸ op_notIn_seq
theorem call_lenK {X : Cx} {K : PySem.W.Frag} (h : X.K = K) : CallR X (.builtin "len") (fun xs H Q => ∃ p ys, xs = [.ref p] ∧ (SqL K H p ys ∨ SqT K H p ys) ∧ Q (.int ys.length) H) := h ▸ call_len_seq

/-! ### plain words made to rims; nexts, letters -/
def spLRims (K : PySem.W.Frag) (C CR : Addr) : Sp := fun vs H Q _ => ∃ (p : Addr) (us : List V) (ws : List (List Int)), vs = [.ref p] ∧ H p = some (.lst us) ∧ LLs H us ws ∧ RimOk ws ∧ ∀ q H' xs, Same H H' → RimsAt K C CR H' q xs ws → Q (.ref q) H'
abbrev sLRims : Stmt := top 69
abbrev nLRims : List Str := ["_law_words", "_law_word"]
theorem scLRims : FnScope nLRims ["_law_words"] (defScope sLRims) := ⟨rfl, rfl, rfl, by decide +kernel, rfl, by decide +kernel, by decide +kernel⟩
theorem nxF_app : ∀ (xs ys : List (List Int)) (f : Nat), nxF f (xs ++ ys) = nxF f xs ++ nxF (f + xs.flatten.length) ys
  | [], ys, f => by
    show nxF f ys = [] ++ nxF (f + 0) ys
    rw [Nat.add_zero]
    rfl
  | w :: r, ys, f => by
    show _ ++ nxF (f + w.length) (r ++ ys) = (_ ++ nxF (f + w.length) r) ++ nxF (f + (w :: r).flatten.length) ys
    rw [nxF_app r ys, List.flatten_cons, List.length_append, ← Nat.add_assoc, List.append_assoc]
theorem nx_one {w : List Int} (h : w ≠ []) (f : Nat) : nxF f [w] = rgI (f + 1) (f + w.length) ++ [(f : Int)] := by
  have hl : 0 < w.length := List.length_pos_iff.mpr h
  obtain ⟨m, hm⟩ : ∃ m, w.length = m + 1 := ⟨w.length - 1, by omega⟩
  show ((List.range w.length).map fun (t : Nat) => (f : Int) + (((t + 1) % w.length : Nat) : Int)) ++ [] = _
  rw [List.append_nil, hm, List.range_succ, List.map_append]
  unfold rgI
  rw [show f + (m + 1) - (f + 1) = m by omega]
  congr 1
  · refine List.map_congr_left fun i hi => ?_
    have := List.mem_range.mp hi
    rw [Nat.mod_eq_of_lt (by omega)]
    omega
  · show [(f : Int) + (((m + 1) % (m + 1) : Nat) : Int)] = _
    rw [Nat.mod_self]
    simp
def spNx : Sp := fun vs H Q _ => ∃ (p : Addr) (us : List V) (ws : List (List Int)), vs = [.ref p] ∧ H p = some (.lst us) ∧ LLs H us ws ∧ (∀ w ∈ ws, w ≠ []) ∧ ws.flatten.length ≤ 60 ∧ ∀ l H', H l = none → Same H H' → H' l = some (.lst (iv (nxF 0 ws))) → Q (.ref l) H'
abbrev sNx : Stmt := top 70
abbrev nNx : List Str := ["_law_words", "_law_found", "_law_word", "_law_begin"]
theorem scNx : FnScope nNx ["_law_words"] (defScope sNx) := ⟨rfl, rfl, rfl, by decide +kernel, rfl, by decide +kernel, by decide +kernel⟩
def spLets : Sp := fun vs H Q _ => ∃ (p : Addr) (us : List V) (ws : List (List Int)), vs = [.ref p] ∧ H p = some (.lst us) ∧ LLs H us ws ∧ ws.flatten.length ≤ 60 ∧ ∀ l H', H l = none → Same H H' → H' l = some (.lst (iv ws.flatten)) → Q (.ref l) H'
abbrev sLets : Stmt := top 72
abbrev nLets : List Str := ["_law_words", "_law_found", "_law_word"]
theorem scLets : FnScope nLets ["_law_words"] (defScope sLets) := ⟨rfl, rfl, rfl, by decide +kernel, rfl, by decide +kernel, by decide +kernel⟩
theorem ret_mk_lc {C : Addr} {sq : Sp} {wi : TI} {g : TG} {tt : TT} {te : TE} {vs : List Nat} {D : Ends} {σ : L2.St} {H : Hp}
    (h : wi σ H fun J H1 => tLc (fun _ H R => R J H) g tt te vs σ H1 fun y H2 => tMake C sq [] E0 (fun _ H Q => Q [y] H) σ H2 D.rt) : tRet (tMake C sq [] E0 (tCons (tLc wi g tt te vs) tNil)) D σ H := h
section
variable {P : Program} {w : World} {K : PySem.W.Frag} {mg : Str → Option Value} {base : Heap} {C CR : Addr}
theorem ok_LRims {f : Addr} {fd : FuncData} (F : Fun K "_law_rims" "_law_rims" sLRims f fd) (N : TN mg) (T : TxW K mg C) (TC : TxRC K mg CR) (MW : MkW P w K mg base C) (MR : MkR P w K mg base C CR)  : FnOk P w K mg base CX0 6 f fd ["_law_words"] (spLRims K C CR) := by
  refine F.ok scLRims (fun vs H Q E h => ?_) (fun cdv A outer s H vs Q E hr h => ?_)
  · obtain ⟨p, us, ws, rfl, _⟩ := h
    rfl
  · obtain ⟨p, us, ws, rfl, hp, hu, ok, k⟩ := h
    refine ⟨_, pss_one (ps_ret (pe_rims (mg := mg) MR TC hr (by decide) (by rfl) (pa_cons (pe_lc (own := [("_law_word", 1)]) (g := gName 1) (tt := tYes) rfl scLRims.nd (pi_list (pv 0)) (blkOk_by (N := nLRims) (sc := defScope sLRims) (by decide +kernel)) (fun _ _ _ _ _ => (pg_name (i := 1) scLRims.nd rfl (Or.inl rfl))) (fun _ _ _ _ _ => pts_nil) (fun _ _ _ _ _ => (pe_wordK (K := K) rfl MW T hr (by decide) (by rfl) (pa_cons (pv 1) pa_nil)))) pa_nil))), ?_⟩
    obtain ⟨o1, o2, o3, o4, o5, o6⟩ := id ok
    have lu := hu.length
    refine ret_mk_lc ?_
    refine ⟨_, rfl, p, rfl, ⟨_, SqL.of hp⟩, ?_⟩
    refine lcM (walk_list (K := K) (a := p) (xs := us)) ws (fun _ H v ns => ∃ q, v = V.ref q ∧ WordAt K C H q ns) (fun _ _ _ _ _ ⟨q, e, h⟩ s => ⟨q, e, h.same s⟩) ?_ (by omega) lu (fun H s => SqL.of (s _ _ hp)) ?_ (fun x σ1 H A B k h => gName_mono k h) ?_
    · rintro D2 H5 ws5 o v ns hD5 ⟨q, e, h⟩
      exact ⟨q, e, h.keptL hD5 Kept.upd⟩
    · intro i x u hx hu' D2 H5 hD2 _ s5 Qy ky
      obtain ⟨u', hu2, ⟨q, rfl, hq⟩⟩ := hu.at hx
      obtain rfl : u' = u := Option.some.inj (hu2.symm.trans hu')
      have hmem := List.mem_of_getElem? hu'
      have hlu : u'.length ≤ 24 := Nat.le_trans (word_le hmem) o4
      refine ⟨rfl, _, rfl, fun xw dxw nx ndx _ => make_at nx ndx (.inl (SqL.of (s5 _ _ hq))) (by omega) (o5.word hmem) fun H6 s6 W6 => ?_⟩
      exact ky _ H6 s6 ⟨xw, rfl, W6⟩
    intro D2 H5 vs2 hD2 s5 h5 r5
    obtain ⟨qs, eqs, hW⟩ := all_word r5
    rw [eqs] at h5
    intro px dpx npx ndpx _
    exact rims_at npx ndpx (SqL.of h5) hW ok fun H6 s6 R6 => k px H6 qs (s5.trans s6) R6
theorem ok_Nx {f : Addr} {fd : FuncData} (F : Fun K "_law_nexts" "_law_nexts" sNx f fd) (N : TN mg)   : FnOk P w K mg base CX0 1 f fd ["_law_words"] (spNx) := by
  refine F.ok scNx (fun vs H Q E h => ?_) (fun cdv A outer s H vs Q E hr h => ?_)
  · obtain ⟨p, us, ws, rfl, _⟩ := h
    rfl
  · obtain ⟨p, us, ws, rfl, hp, hu, hne, l60, k⟩ := h
    refine ⟨_, pss_cons (ps_set (i := 1) scNx.nd rfl (Or.inl rfl) (pe_lst pa_nil))
      (pss_cons (ps_for PassesOwn.never rfl (pi_list (pv 0)) (pg_name (i := 2) scNx.nd rfl (Or.inl rfl))
      (pss_cons (ps_set (i := 3) scNx.nd rfl (Or.inl rfl) (pe_callB call_len_seq (by rfl) N.len PySem.boot_len (pa_cons (pv 1) pa_nil)))
      (pss_one (ps_set (i := 1) scNx.nd rfl (Or.inl rfl) (pe_op op_cat (pe_op op_cat (pv 1) (pe_listRg rfl (by rfl) N.list (prg_2 (by rfl) N.range (pe_op op_add (pv 3) pe_int) (pe_op op_add (pv 3) (pe_callB call_len_seq (by rfl) N.len PySem.boot_len (pa_cons (pv 2) pa_nil)))))) (pe_lst (pa_cons (pv 3) pa_nil)))))))
      (pss_one (ps_ret (pv 1)))), ?_⟩
    have lu := hu.length
    refine ⟨Nat.zero_le _, fun fo hfo => ?_⟩
    have s1 := same_upd (o := .lst []) hfo
    refine ⟨_, rfl, p, rfl, ⟨_, SqL.of (s1 _ _ hp)⟩, for_list (K := K) (a := p) (xs := us) (fun i σ H' => ∃ (v2 v3 : Option V) (l : Addr), σ = [some (.ref p), some (.ref l), v2, v3] ∧ Same H H' ∧ H l = none ∧ H' l = some (.lst (iv (nxF 0 (ws.take i)))))
      ⟨none, none, fo, rfl, s1, hfo, upd_same⟩ (fun i σ H' _ ⟨_, _, _, _, s, _⟩ => SqL.of (s _ _ hp)) ?_ ?_⟩
    · rintro i x σ H3 hi ⟨v2, v3, l, rfl, s3, hl0, hl3⟩
      obtain ⟨u, hu2, ⟨q, rfl, hq⟩⟩ := hu.at hi
      have hil : i < ws.length := (List.getElem?_eq_some_iff.mp hu2).1
      have hmem := List.mem_of_getElem? hu2
      have hun := hne u hmem
      have hq3 := s3 _ _ hq
      have el : (nxF 0 (ws.take i)).length = (ws.take i).flatten.length := nxF_len _ _
      have hfl : (ws.take i).flatten.length + u.length ≤ 60 := by
        have e2 : (ws.take (i + 1)).flatten.length ≤ 60 := by
          refine Nat.le_trans ?_ l60
          have := congrArg (fun z : List (List Int) => z.flatten.length) (List.take_append_drop (i + 1) ws)
          rw [List.flatten_append, List.length_append] at this
          omega
        rw [List.take_succ_eq_append_getElem hil, (List.getElem?_eq_some_iff.mp hu2).2, List.flatten_append, List.length_append] at e2
        simpa using e2
      have hst : nxF 0 (ws.take (i + 1)) = nxF 0 (ws.take i) ++ (rgI ((ws.take i).flatten.length + 1) ((ws.take i).flatten.length + u.length) ++ [(((ws.take i).flatten.length : Nat) : Int)]) := by
        rw [List.take_succ_eq_append_getElem hil, (List.getElem?_eq_some_iff.mp hu2).2, nxF_app, nx_one hun, Nat.zero_add]
      generalize hb : (ws.take i).flatten.length = b at el hfl hst
      refine ⟨_, rfl, l, _, rfl, .inl (SqL.of hl3), ?_⟩
      rw [List.length_map, el]
      try dsimp only
      refine ⟨_, rfl, _, rfl, _, _, rfl, rfl, _, rfl, _, rfl, q, _, rfl, .inl (SqL.of hq3), _, _, rfl, rfl, _, _, rfl, rfl, ⟨by omega, by omega, by omega, by rw [List.length_map]; omega, by rw [List.length_map]; omega⟩, fun q1 hq1 => ?_⟩
      rw [show (b : Int) + 1 = ((b + 1 : Nat) : Int) by omega, List.length_map, show (b : Int) + (u.length : Int) = ((b + u.length : Nat) : Int) by omega, rgV_I]
      have s4 := same_upd (o := .lst (iv (rgI (b + 1) (b + u.length)))) hq1
      refine ⟨l, q1, _, _, rfl, rfl, s4 _ _ hl3, upd_same, Evl.sz_of (by rw [List.length_map, List.length_map, rgI_len]; omega), fun q2 hq2 => ?_⟩
      have s5 := s4.trans (same_upd (o := .lst (iv (nxF 0 (ws.take i)) ++ iv (rgI (b + 1) (b + u.length)))) hq2)
      refine ⟨_, rfl, by show 1 ≤ sizeLine; decide, fun q3 hq3' => ?_⟩
      have s6 := s5.trans (same_upd (o := .lst [.int (b : Int)]) hq3')
      have g2 : L2.upd (L2.upd H3 q1 (.lst (iv (rgI (b + 1) (b + u.length))))) q2 (.lst (iv (nxF 0 (ws.take i)) ++ iv (rgI (b + 1) (b + u.length)))) q2 = some (.lst (iv (nxF 0 (ws.take i)) ++ iv (rgI (b + 1) (b + u.length)))) := upd_same
      refine ⟨q2, q3, _, _, rfl, rfl, (same_upd hq3') _ _ g2, upd_same, Evl.sz_of (by rw [List.length_append, List.length_map, List.length_map, rgI_len]; show _ + 1 ≤ _; omega), fun q4 hq4 => ?_⟩
      refine ⟨_, _, q4, rfl, s3.trans (s6.trans (same_upd hq4)), (s3.trans s6).free hq4, ?_⟩
      rw [upd_same, hst]
      simp [iv]
    · rintro σ H3 ⟨v2, v3, l, rfl, s3, hl0, hl3⟩
      rw [lu, List.take_length] at hl3
      exact ⟨_, rfl, k l H3 hl0 s3 hl3⟩
theorem ok_Lets {f : Addr} {fd : FuncData} (F : Fun K "_law_letters" "_law_letters" sLets f fd) (N : TN mg)   : FnOk P w K mg base CX0 1 f fd ["_law_words"] (spLets) := by
  refine F.ok scLets (fun vs H Q E h => ?_) (fun cdv A outer s H vs Q E hr h => ?_)
  · obtain ⟨p, us, ws, rfl, _⟩ := h
    rfl
  · obtain ⟨p, us, ws, rfl, hp, hu, l60, k⟩ := h
    refine ⟨_, pss_cons (ps_set (i := 1) scLets.nd rfl (Or.inl rfl) (pe_lst pa_nil))
      (pss_cons (ps_for PassesOwn.never rfl (pi_list (pv 0)) (pg_name (i := 2) scLets.nd rfl (Or.inl rfl))
      (pss_one (ps_set (i := 1) scLets.nd rfl (Or.inl rfl) (pe_op op_cat (pv 1) (pe_callTy call_list_of (by rfl) N.list (by decide +kernel) (pa_cons (pv 2) pa_nil))))))
      (pss_one (ps_ret (pv 1)))), ?_⟩
    have lu := hu.length
    refine ⟨Nat.zero_le _, fun fo hfo => ?_⟩
    have s1 := same_upd (o := .lst []) hfo
    refine ⟨_, rfl, p, rfl, ⟨_, SqL.of (s1 _ _ hp)⟩, for_list (K := K) (a := p) (xs := us) (fun i σ H' => ∃ (v2 : Option V) (l : Addr), σ = [some (.ref p), some (.ref l), v2] ∧ Same H H' ∧ H l = none ∧ H' l = some (.lst (iv (ws.take i).flatten)))
      ⟨none, fo, rfl, s1, hfo, upd_same⟩ (fun i σ H' _ ⟨_, _, _, s, _⟩ => SqL.of (s _ _ hp)) ?_ ?_⟩
    · rintro i x σ H3 hi ⟨v2, l, rfl, s3, hl0, hl3⟩
      obtain ⟨u, hu2, ⟨q, rfl, hq⟩⟩ := hu.at hi
      have hil : i < ws.length := (List.getElem?_eq_some_iff.mp hu2).1
      have hq3 := s3 _ _ hq
      have hst : (ws.take (i + 1)).flatten = (ws.take i).flatten ++ u := by
        rw [List.take_succ_eq_append_getElem hil, (List.getElem?_eq_some_iff.mp hu2).2, List.flatten_append]
        simp
      have hfl : (ws.take i).flatten.length + u.length ≤ 60 := by
        rw [← List.length_append, ← hst]
        refine Nat.le_trans ?_ l60
        have := congrArg (fun z : List (List Int) => z.flatten.length) (List.take_append_drop (i + 1) ws)
        rw [List.flatten_append, List.length_append] at this
        omega
      refine ⟨_, rfl, _, rfl, q, _, rfl, .inl (SqL.of hq3), fun q1 hq1 => ?_⟩
      have s4 := same_upd (o := .lst (iv u)) hq1
      refine ⟨l, q1, _, _, rfl, rfl, s4 _ _ hl3, upd_same, Evl.sz_of (by rw [List.length_map, List.length_map]; omega), fun q4 hq4 => ?_⟩
      refine ⟨_, q4, rfl, s3.trans (s4.trans (same_upd hq4)), (s3.trans s4).free hq4, ?_⟩
      rw [upd_same, hst]
      simp [iv]
    · rintro σ H3 ⟨v2, l, rfl, s3, hl0, hl3⟩
      rw [lu, List.take_length] at hl3
      exact ⟨_, rfl, k l H3 hl0 s3 hl3⟩
end
end W14
set_option Elab.async false
set_option linter.all false
set_option maxRecDepth 100000
set_option maxHeartbeats 600000
namespace W14
open PySem L2 PySem.Spec PyProof.Rows WR WB WE
/-! ### corners, by the law's own going round -/
theorem inV_nats {p : Nat} {s : List Nat} : inV (.int (p : Int)) (iv (nats s)) = decide (p ∈ s) := by
  unfold inV iv nats
  rw [List.map_map, List.any_map, Bool.eq_iff_iff, List.any_eq_true, decide_eq_true_iff]
  constructor
  · rintro ⟨x, hx, e⟩
    have : V.int ((x : Nat) : Int) = V.int (p : Int) := by
      have e : eqV (V.int ((x : Nat) : Int)) (V.int (p : Int)) = true := e
      simpa [eqV] using e
    injection this with this
    have : x = p := by omega
    exact this ▸ hx
  · intro h
    refine ⟨p, h, ?_⟩
    show eqV (V.int ((p : Nat) : Int)) (V.int (p : Int)) = true
    simp [eqV]
theorem flat_nats (s : List Nat) : (iv (nats s)).all flatV = true := by
  unfold iv nats
  rw [List.map_map, List.all_eq_true]
  intro x hx
  obtain ⟨y, _, rfl⟩ := List.mem_map.mp hx
  rfl
def spCorL (K : PySem.W.Frag) : Sp := fun vs H Q _ => ∃ (p m : Addr) (us : List V) (ws : List (List Int)) (mt : List Int), vs = [.ref p, .ref m] ∧ H p = some (.lst us) ∧ LLs H us ws ∧ (∀ w ∈ ws, w ≠ []) ∧ ws.flatten.length ≤ 60 ∧ SqE K H m (iv mt) ∧ MatesOk ws.flatten.length mt ∧
  ∀ q H', Same H H' → CornAt K H' q (cornF ws mt) → Q (.ref q) H'
abbrev sCorL : Stmt := top 71
abbrev nCorL : List Str := ["_law_words", "_law_mates_here", "_law_nexts_here", "_law_found", "_law_known", "_law_place", "_law_corner", "_law_at"]
theorem scCorL : FnScope nCorL ["_law_words", "_law_mates_here"] (defScope sCorL) := ⟨rfl, rfl, rfl, by decide +kernel, rfl, by decide +kernel, by decide +kernel⟩
def spCost (K : PySem.W.Frag) : Sp := fun vs H Q _ => ∃ (p m : Addr) (us : List V) (ws : List (List Int)) (mt : List Int), vs = [.ref p, .ref m] ∧ H p = some (.lst us) ∧ LLs H us ws ∧ (∀ w ∈ ws, w ≠ []) ∧ ws.flatten.length ≤ 60 ∧ SqE K H m (iv mt) ∧ MatesOk ws.flatten.length mt ∧
  ∀ H', Same H H' → Q (.int (costF ws mt)) H'
abbrev sCost : Stmt := top 77
abbrev nCost : List Str := ["_law_words", "_law_mates_here"]
theorem scCost : FnScope nCost ["_law_words", "_law_mates_here"] (defScope sCost) := ⟨rfl, rfl, rfl, by decide +kernel, rfl, by decide +kernel, by decide +kernel⟩
section
variable {P : Program} {w : World} {K : PySem.W.Frag} {mg : Str → Option Value} {base : Heap} {C CR : Addr}
theorem ok_CorL {f : Addr} {fd : FuncData} (F : Fun K "_law_corners" "_law_corners" sCorL f fd) (N : TN mg)  (G_nexts : Cal P w K mg base "_law_nexts" 1 ["_law_words"] (spNx)) : FnOk P w K mg base CX0 2 f fd ["_law_words", "_law_mates_here"] (spCorL K) := by
  refine F.ok scCorL (fun vs H Q E h => ?_) (fun cdv A outer s H vs Q E hr h => ?_)
  · obtain ⟨p, m, us, ws, mt, rfl, _⟩ := h
    rfl
  · obtain ⟨p, m, us, ws, mt, rfl, hp, hu, hne, l60, hM, ⟨lm, hm⟩, k⟩ := h
    refine ⟨_, pss_cons (ps_par3 (i := 2) (j := 3) (l := 4) (by rfl) scCorL.nd rfl rfl rfl (by decide) (by decide) (by decide) rfl rfl rfl (pa_cons (pe_cal G_nexts hr (by decide) (by rfl) (pa_cons (pv 0) pa_nil)) (pa_cons (pe_lst pa_nil) (pa_cons (pe_lst pa_nil) pa_nil))) (by rfl))
      (pss_cons (ps_for PassesOwn.never rfl (pi_range1 (by rfl) N.range (pa_cons (pe_callB call_len_seq (by rfl) N.len PySem.boot_len (pa_cons (pv 1) pa_nil)) pa_nil)) (pg_name (i := 5) scCorL.nd rfl (Or.inl rfl))
      (pss_cons (ps_par (i := 6) (j := 7) (by rfl) scCorL.nd rfl rfl (by decide) rfl rfl (pa_cons (pe_lst pa_nil) (pa_cons (pv 5) pa_nil)) (by rfl))
      (pss_cons (ps_while PassesOwn.never (pt_cmpR op_notIn_seq (pv 7) (pv 4) (by rfl))
      (pss_cons (ps_expr (pe_bm PySem.F.plainAttrs_list PySem.F.slot_list_append PySem.F.type_list_append mt_append (pv 4) (pa_cons (pv 7) pa_nil)))
      (pss_cons (ps_expr (pe_bm PySem.F.plainAttrs_list PySem.F.slot_list_append PySem.F.type_list_append mt_append (pv 6) (pa_cons (pv 7) pa_nil)))
      (pss_one (ps_set (i := 7) scCorL.nd rfl (Or.inl rfl) (pe_ix ix_list (pv 2) (pe_ix (ixA (K := K) rfl) (pv 1) (pv 7) (fun _ _ => rfl)) (fun _ _ => rfl)))))))
      (pss_one (ps_if (pt_cmpR (op_neD hr.units) (pv 6) (pe_lst pa_nil) (nomark _)) (pss_one (ps_expr (pe_bm PySem.F.plainAttrs_list PySem.F.slot_list_append PySem.F.type_list_append mt_append (pv 3) (pa_cons (pe_callTy call_tupB (by rfl) N.tuple (by decide +kernel) (pa_cons (pv 6) pa_nil)) pa_nil)))) pss_nil)))))
      (pss_one (ps_ret (pe_callTy call_tupB (by rfl) N.tuple (by decide +kernel) (pa_cons (pv 3) pa_nil))))), ?_⟩
    obtain ⟨n, en⟩ : ∃ n, n = ws.flatten.length := ⟨_, rfl⟩
    unfold cornF at k
    rw [← en] at lm hm k l60
    have hnx : (nxF 0 ws).length = n := by rw [nxF_len, en]
    refine ⟨_, rfl, p, us, ws, rfl, hp, hu, hne, by omega, fun nx H1 hnx0 s1 g1 => ?_⟩
    refine ⟨Nat.zero_le _, fun lf hlf => ?_⟩
    have s2 := same_upd (o := .lst []) hlf
    have g12 := s2 _ _ g1
    have gf2 : L2.upd H1 lf (.lst []) lf = some (.lst []) := upd_same
    have nxf : nx ≠ lf := ne_of_none g1 hlf
    obtain ⟨H2, e2⟩ : ∃ H2, H2 = L2.upd H1 lf (.lst []) := ⟨_, rfl⟩
    rw [← e2] at s2 g12 gf2 ⊢
    refine ⟨Nat.zero_le _, fun lk hlk => ⟨_, _, _, rfl, ?_⟩⟩
    have s3 := same_upd (o := .lst []) hlk
    have nxk : nx ≠ lk := ne_of_none g12 hlk
    have nfk : lf ≠ lk := ne_of_none gf2 hlk
    have f0 : H lf = none := s1.free hlf
    have k0 : H lk = none := (s1.trans s2).free hlk
    have s123 := (s1.trans s2).trans s3
    refine ⟨_, rfl, m, _, rfl, hM.same s123, _, rfl, by rw [List.length_map]; omega, by rw [List.length_map]; omega, ?_⟩
    rw [List.length_map, lm]
    refine for_range (lo := 0) (n := ((n : Nat) : Int).toNat) (fun i σ H' => ∃ (v5 v6 v7 : Option V) (vs : List V) (kn : List Nat), σ = [some (.ref p), some (.ref m), some (.ref nx), some (.ref lf), some (.ref lk), v5, v6, v7] ∧ Same H H' ∧ H' nx = some (.lst (iv (nxF 0 ws))) ∧ H' lf = some (.lst vs) ∧ H' lk = some (.lst (iv (nats kn))) ∧
        (∀ x, x ∈ kn ↔ x ∈ (crn (nxF 0 ws) mt n i).1) ∧ kn.length = (crn (nxF 0 ws) mt n i).1.length ∧ SeenOk n (crn (nxF 0 ws) mt n i).1 ∧ vs.length ≤ i ∧ All2 (fun v c => ∃ q, v = V.ref q ∧ SqB K H' q (iv (nats c))) vs (crn (nxF 0 ws) mt n i).2)
      ⟨none, none, none, [], [], rfl, s123, s3 _ _ g12, s3 _ _ gf2, upd_same, (fun x => Iff.rfl), rfl, ⟨List.nodup_nil, fun _ h => nomatch h⟩, Nat.le_refl _, .nil⟩ ?_ ?_
    · rintro i σ H3 hi ⟨v5, v6, v7, vs, kn, rfl, sm, gx, gf, gk, hmem, hlen, hso, lvs, hcs⟩
      rw [Int.toNat_natCast] at hi
      refine ⟨Nat.zero_le _, fun lc hlc => ⟨_, rfl, _, _, rfl, ?_⟩⟩
      have s4 := same_upd (o := .lst []) hlc
      have nxc : nx ≠ lc := ne_of_none gx hlc
      have nfc : lf ≠ lc := ne_of_none gf hlc
      have nkc : lk ≠ lc := ne_of_none gk hlc
      have c0 : H lc = none := sm.free hlc
      refine while_by (fun σ H4 => ∃ (k pl : Nat) (s c kn : List Nat), σ = [some (.ref p), some (.ref m), some (.ref nx), some (.ref lf), some (.ref lk), some (.int (0 + (i : Nat))), some (.ref lc), some (.int (pl : Int))] ∧ Same H H4 ∧ H4 nx = some (.lst (iv (nxF 0 ws))) ∧ H4 lf = some (.lst vs) ∧ H4 lk = some (.lst (iv (nats kn))) ∧
          (∀ x, x ∈ kn ↔ x ∈ s) ∧ kn.length = s.length ∧ SeenOk n s ∧ pl < n ∧ H4 lc = some (.lst (iv (nats c))) ∧ c.length ≤ s.length ∧ All2 (fun v c => ∃ q, v = V.ref q ∧ SqB K H4 q (iv (nats c))) vs (crn (nxF 0 ws) mt n i).2 ∧
          orb (nxF 0 ws) mt k s pl c = orb (nxF 0 ws) mt (n + 1) (crn (nxF 0 ws) mt n i).1 i [] ∧ n - s.length < k)
        (fun _ H4 => match H4 lc with | some (.lst xs) => n + 1 - xs.length | _ => 0) ?_ ?_ ?_
      · exact ⟨n + 1, i, (crn (nxF 0 ws) mt n i).1, [], kn, by rw [Int.zero_add]; rfl, sm.trans s4, s4 _ _ gx, s4 _ _ gf, s4 _ _ gk, hmem, hlen, hso, hi, upd_same, Nat.zero_le _, hcs.imp fun _ _ ⟨q, e, r⟩ => ⟨q, e, SqB.same s4 r⟩, rfl, by omega⟩
      · rintro σ H4 ⟨kk, pl, s, c, kn, rfl, sm4, gx4, gf4, gk4, hme4, hle4, hok, hpl, hL, lcs, hcs4, eo, hkk⟩
        refine ⟨_, rfl, _, rfl, lk, _, rfl, .inl (SqL.of gk4), rfl, flat_nats kn, _, rfl, ?_⟩
        show if (!inV (.int (pl : Int)) (iv (nats kn))) = true then _ else _
        rw [inV_nats]
        by_cases hin : pl ∈ s
        · refine iteF' (by rw [decide_eq_true ((hme4 pl).mpr hin)]; rfl) ?_
          rw [orb_in (by omega) hin] at eo
          have f1 : (crn (nxF 0 ws) mt n (i + 1)).1 = s := by
            show (orb (nxF 0 ws) mt (n + 1) (crn (nxF 0 ws) mt n i).1 i []).1 = s
            rw [← eo]
          have f2 : (crn (nxF 0 ws) mt n (i + 1)).2 = if c = [] then (crn (nxF 0 ws) mt n i).2 else (crn (nxF 0 ws) mt n i).2 ++ [c] := by
            show (if (orb (nxF 0 ws) mt (n + 1) (crn (nxF 0 ws) mt n i).1 i []).2 = [] then _ else _ ++ [(orb (nxF 0 ws) mt (n + 1) (crn (nxF 0 ws) mt n i).1 i []).2]) = _
            rw [← eo]
          have lvn : (nats c).length = c.length := List.length_map ..
          refine ⟨_, rfl, Nat.zero_le _, fun q0 hq0 => ?_⟩
          have s5 := same_upd (o := .lst []) hq0
          refine ⟨.list ((nats c).map PyData.int), .list [], .lst (SqL.of (s5 _ _ hL)) (dpInts (nats c)), .lst (SqL.of upd_same) .nil, PySem.W.ke_shaped_ints (nats c), rfl, _, rfl, ?_⟩
          have gx5 := s5 _ _ gx4
          have gf5 := s5 _ _ gf4
          have gk5 := s5 _ _ gk4
          have hL5 := s5 _ _ hL
          have hcs5 : All2 (fun v c => ∃ q, v = V.ref q ∧ SqB K (L2.upd H4 q0 (.lst [])) q (iv (nats c))) vs (crn (nxF 0 ws) mt n i).2 := hcs4.imp fun _ _ ⟨q, e, r⟩ => ⟨q, e, SqB.same s5 r⟩
          have sm5 := sm4.trans s5
          generalize L2.upd H4 q0 (.lst []) = H5 at gx5 gf5 gk5 hL5 hcs5 sm5 ⊢
          by_cases hc : c = []
          · subst hc
            refine iteF' rfl ?_
            exact ⟨_, _, _, vs, kn, rfl, sm5, gx5, gf5, gk5, (by rw [f1]; exact hme4), (by rw [f1]; exact hle4), (by rw [f1]; exact hok), by omega, by rw [f2, if_pos rfl]; exact hcs5⟩
          · refine iteT' (by
              cases c with
              | nil => exact absurd rfl hc
              | cons => rfl) ?_
            refine ⟨_, rfl, .inl ⟨rfl, _, SqL.of gf5⟩, _, rfl, lc, _, rfl, .inl ⟨SqL.of hL5, fun q H6 s6 B6 => ?_⟩⟩
            have gf6 := s6 _ _ gf5
            refine ⟨lf, vs, _, rfl, rfl, gf6, Evl.sz_lt (by omega), ?_⟩
            refine ⟨_, _, _, vs ++ [.ref q], kn, rfl, fun b o e => ?_, ?_, upd_same, ?_, (by rw [f1]; exact hme4), (by rw [f1]; exact hle4), (by rw [f1]; exact hok), by rw [List.length_append]; exact Nat.succ_le_succ lvs, ?_⟩
            · rw [upd_ne (ne_of_none e f0)]
              exact s6 _ _ (sm5 _ _ e)
            · rw [upd_ne nxf]; exact s6 _ _ gx5
            · rw [upd_ne nfk.symm]; exact s6 _ _ gk5
            · rw [f2, if_neg hc]
              exact All2.app (hcs5.imp fun _ _ ⟨q', e, r⟩ => ⟨q', e, SqB.keptL gf6 Kept.upd (SqB.same s6 r)⟩) (.cons ⟨q, rfl, SqB.keptL gf6 Kept.upd B6⟩ .nil)
        · have hsl := hok.lt hpl hin
          refine iteT' (by rw [decide_eq_false fun z => hin ((hme4 pl).mp z)]; rfl) ?_
          have lkn : (iv (nats kn)).length = kn.length := by unfold iv nats; rw [List.length_map, List.length_map]
          have lcn : (iv (nats c)).length = c.length := by unfold iv nats; rw [List.length_map, List.length_map]
          refine ⟨_, rfl, .inl ⟨rfl, _, SqL.of gk4⟩, _, rfl, lk, _, _, rfl, rfl, gk4, Evl.sz_lt (by rw [lkn]; omega), ?_⟩
          have gx5 : L2.upd H4 lk (.lst (iv (nats kn) ++ [.int (pl : Int)])) nx = some (.lst (iv (nxF 0 ws))) := by rw [upd_ne nxk]; exact gx4
          have gf5 : L2.upd H4 lk (.lst (iv (nats kn) ++ [.int (pl : Int)])) lf = some (.lst vs) := by rw [upd_ne nfk]; exact gf4
          have hL5 : L2.upd H4 lk (.lst (iv (nats kn) ++ [.int (pl : Int)])) lc = some (.lst (iv (nats c))) := by rw [upd_ne nkc.symm]; exact hL
          have gk5 : L2.upd H4 lk (.lst (iv (nats kn) ++ [.int (pl : Int)])) lk = some (.lst (iv (nats (kn ++ [pl])))) := by
            rw [upd_same]
            simp [iv, nats]
          have sm5 : Same H (L2.upd H4 lk (.lst (iv (nats kn) ++ [.int (pl : Int)]))) := fun b o e => by
            rw [upd_ne (ne_of_none e k0)]
            exact sm4 _ _ e
          have hcs5 : All2 (fun v c => ∃ q, v = V.ref q ∧ SqB K (L2.upd H4 lk (.lst (iv (nats kn) ++ [.int (pl : Int)]))) q (iv (nats c))) vs (crn (nxF 0 ws) mt n i).2 := hcs4.imp fun _ _ ⟨q', e, r⟩ => ⟨q', e, SqB.keptL gk4 Kept.upd r⟩
          generalize L2.upd H4 lk (.lst (iv (nats kn) ++ [.int (pl : Int)])) = H5 at gx5 gf5 gk5 hL5 sm5 hcs5 ⊢
          refine ⟨_, rfl, .inl ⟨rfl, _, SqL.of hL5⟩, _, rfl, lc, _, _, rfl, rfl, hL5, Evl.sz_lt (by rw [lcn]; omega), ?_⟩
          have gx6 : L2.upd H5 lc (.lst (iv (nats c) ++ [.int (pl : Int)])) nx = some (.lst (iv (nxF 0 ws))) := by rw [upd_ne nxc]; exact gx5
          have gf6 : L2.upd H5 lc (.lst (iv (nats c) ++ [.int (pl : Int)])) lf = some (.lst vs) := by rw [upd_ne nfc]; exact gf5
          have gk6 : L2.upd H5 lc (.lst (iv (nats c) ++ [.int (pl : Int)])) lk = some (.lst (iv (nats (kn ++ [pl])))) := by rw [upd_ne nkc]; exact gk5
          have hL6 : L2.upd H5 lc (.lst (iv (nats c) ++ [.int (pl : Int)])) lc = some (.lst (iv (nats (c ++ [pl])))) := by
            rw [upd_same]
            simp [iv, nats]
          have sm6 : Same H (L2.upd H5 lc (.lst (iv (nats c) ++ [.int (pl : Int)]))) := fun b o e => by
            rw [upd_ne (ne_of_none e c0)]
            exact sm5 _ _ e
          have hcs6 : All2 (fun v c' => ∃ q, v = V.ref q ∧ SqB K (L2.upd H5 lc (.lst (iv (nats c) ++ [.int (pl : Int)]))) q (iv (nats c'))) vs (crn (nxF 0 ws) mt n i).2 := hcs5.imp fun _ _ ⟨q', e, r⟩ => ⟨q', e, SqB.keptL hL5 Kept.upd r⟩
          obtain ⟨H6, e6⟩ : ∃ H6, H6 = L2.upd H5 lc (.lst (iv (nats c) ++ [.int (pl : Int)])) := ⟨_, rfl⟩
          rw [← e6] at gx6 gf6 gk6 hL6 sm6 hcs6 ⊢
          have lpm : pl < mt.length := by omega
          obtain ⟨m0, m1⟩ := hm _ (List.getElem_mem lpm)
          have lmn : mt[pl].toNat < (nxF 0 ws).length := by omega
          obtain ⟨x0, x1⟩ := nxF_rng ws 0 hne _ (List.getElem_mem lmn)
          rw [Nat.zero_add, ← en] at x1
          have enx : nxt (nxF 0 ws) mt pl = ((nxF 0 ws)[mt[pl].toNat]).toNat := by
            unfold nxt
            rw [List.getD_eq_getElem?_getD, List.getD_eq_getElem?_getD, List.getElem?_eq_getElem lpm]
            show ((nxF 0 ws)[mt[pl].toNat]?.getD 0).toNat = _
            rw [List.getElem?_eq_getElem lmn]
            rfl
          have em : mt[pl] = ((mt[pl].toNat : Nat) : Int) := by omega
          refine ⟨_, rfl, _, rfl, _, rfl, m, _, _, _, rfl, rfl, hM.same sm6, atI_nat (iv_get (List.getElem?_eq_getElem lpm)), nx, _, _, _, rfl, rfl, SqL.of gx6, (by rw [em]; exact atI_nat (iv_get (List.getElem?_eq_getElem lmn))), ?_⟩
          refine at_set ?_
          obtain ⟨k', rfl⟩ : ∃ k', kk = k' + 1 := ⟨kk - 1, by omega⟩
          have eo' := (orb_out hin).symm.trans eo
          have ex : ((nxt (nxF 0 ws) mt pl : Nat) : Int) = (nxF 0 ws)[mt[pl].toNat] := by
            rw [enx]
            omega
          refine ⟨⟨k', nxt (nxF 0 ws) mt pl, pl :: s, c ++ [pl], kn ++ [pl], by rw [ex]; rfl, sm6, gx6, gf6, gk6, fun x => ?_, ?_, ⟨List.nodup_cons.mpr ⟨hin, hok.1⟩, fun x hx => ?_⟩, by omega, hL6, ?_, hcs6, eo', ?_⟩, ?_⟩
          · rw [List.mem_append, List.mem_singleton, List.mem_cons, hme4]
            exact or_comm
          · rw [List.length_append, List.length_cons, hle4]
            rfl
          · rcases List.mem_cons.mp hx with rfl | hx
            · exact hpl
            · exact hok.2 x hx
          · rw [List.length_append, List.length_cons]
            show c.length + 1 ≤ s.length + 1
            omega
          · rw [List.length_cons]
            omega
          · show (match H6 lc with | some (.lst xs) => n + 1 - xs.length | _ => 0) < (match H4 lc with | some (.lst xs) => n + 1 - xs.length | _ => 0)
            rw [hL6, hL]
            show n + 1 - (iv (nats (c ++ [pl]))).length < n + 1 - (iv (nats c)).length
            unfold iv nats
            simp only [List.length_map, List.length_append, List.length_cons, List.length_nil]
            omega
      · rintro σ H4 Q Q' hh ⟨v, e1, u, e2, p1, xs1, ey, hs, f1, f2, c, ec, q⟩
        exact ⟨v, e1, u, e2, p1, xs1, ey, hs, f1, f2, c, ec, hh c H4 q⟩
    · rintro σ H3 ⟨v5, v6, v7, vs, kn, rfl, sm, gx, gf, gk, hmem, hlen, hso, lvs, hcs⟩
      rw [Int.toNat_natCast] at hcs lvs
      exact ⟨_, rfl, lf, _, rfl, .inl ⟨SqL.of gf, fun q H5 s5 B5 => k q H5 (sm.trans s5) ⟨vs, B5, hcs.imp fun _ _ ⟨q, e, r⟩ => ⟨q, e, SqB.same s5 r⟩⟩⟩⟩
theorem ok_Cost {f : Addr} {fd : FuncData} (F : Fun K "_law_cost" "_law_cost" sCost f fd) (N : TN mg)  (G_corners : Cal P w K mg base "_law_corners" 2 ["_law_words", "_law_mates_here"] (spCorL K)) : FnOk P w K mg base CX0 3 f fd ["_law_words", "_law_mates_here"] (spCost K) := by
  refine F.ok scCost (fun vs H Q E h => ?_) (fun cdv A outer s H vs Q E hr h => ?_)
  · obtain ⟨p, m, us, ws, mt, rfl, _⟩ := h
    rfl
  · obtain ⟨p, m, us, ws, mt, rfl, hp, hu, hne, l60, hM, hmo, k⟩ := h
    refine ⟨_, pss_one (ps_ret (pe_op op_sub (pe_op op_fdiv (pe_callB call_len_seq (by rfl) N.len PySem.boot_len (pa_cons (pv 1) pa_nil)) pe_int) (pe_callB call_len_seq (by rfl) N.len PySem.boot_len (pa_cons (pe_cal G_corners hr (by decide) (by rfl) (pa_cons (pv 0) (pa_cons (pv 1) pa_nil))) pa_nil)))), ?_⟩
    refine ⟨_, rfl, m, _, rfl, hM, _, _, rfl, rfl, ⟨by decide, by decide⟩, _, rfl, _, rfl, p, m, us, ws, mt, rfl, hp, hu, hne, l60, hM, hmo, fun q H1 s1 ⟨vs, B1, hv⟩ => ?_⟩
    refine ⟨q, vs, rfl, .inr B1.sq, _, _, rfl, rfl, ?_⟩
    have e : ((iv mt).length : Int) / 2 - (vs.length : Int) = costF ws mt := by
      unfold costF
      rw [List.length_map, hmo.1, hv.length]
      omega
    show Q (.int (((iv mt).length : Int) / 2 - (vs.length : Int))) H1
    rw [e]
    exact k H1 s1
end
end W14
set_option Elab.async false
set_option linter.all false
set_option maxRecDepth 100000
set_option maxHeartbeats 600000
namespace W14
open PySem L2 PySem.Spec PyProof.Rows WR WB WE WS
/-! ### drawn mates -/
theorem for_ss_lc {K : PySem.W.Frag} {r1 r2 : List V → Hp → VK → Prop} {wi : TI} {g gg : TG} {tt : TT} {te : TE} {vs : List Nat} {tb : TS} {D : Ends} {σ : L2.St} {H : Hp}
    (h : wi σ H fun J H1 => tLc (fun _ H R => R J H) g tt te vs σ H1 fun y H2 => r2 [y] H2 fun z H3 => r1 [z] H3 fun u H4 => tFor (iList K (fun _ H Q => Q u H)) gg tb D σ H4) :
    tFor (iList K (tCB r1 (tCons (tCB r2 (tCons (tLc wi g tt te vs) tNil)) tNil))) gg tb D σ H := h
theorem nx_lcS {wi : TI} {g gg : TG} {tt : TT} {te : TE} {vs : List Nat} {D : Ends} {σ : L2.St} {H : Hp} {Cc : TS} {b1 b2 : L2.St → Hp → Prop} {rt : VK}
    (h : wi σ H fun J H1 => tLc (fun _ H R => R J H) g tt te vs σ H1 fun z H4 => gg z σ H4 (Cc D)) : tNext { nx := tSeq (tAsg (tLc wi g tt te vs) gg) Cc D, rt := rt, bk := b1, ct := b2 } σ H := h
theorem sq_lcS {wi : TI} {g gg : TG} {tt : TT} {te : TE} {vs : List Nat} {D : Ends} {σ : L2.St} {H : Hp} {Cc : TS}
    (h : wi σ H fun J H1 => tLc (fun _ H R => R J H) g tt te vs σ H1 fun z H4 => gg z σ H4 (Cc D)) : tSeq (tAsg (tLc wi g tt te vs) gg) Cc D σ H := h
theorem asg_cal_lc {sq : Sp} {t0 : TE} {wi : TI} {g gg : TG} {tt : TT} {te : TE} {vs : List Nat} {D : Ends} {σ : L2.St} {H : Hp} {Cc : TS}
    (h : t0 σ H fun x H0 => wi σ H0 fun J H1 => tLc (fun _ H R => R J H) g tt te vs σ H1 fun y H2 => sq [x, y] H2 (fun z H4 => gg z σ H4 (Cc D)) E0) : tSeq (tAsg (tCall sq [] E0 (tCons t0 (tCons (tLc wi g tt te vs) tNil))) gg) Cc D σ H := h
/-- the places with a letter -/
def plc (ls : List Int) (k : Int) : List Nat := (List.range ls.length).filter fun p => decide (ls.getD p 0 = k)
theorem plc_mem {ls : List Int} {k : Int} {p : Nat} : p ∈ plc ls k ↔ p < ls.length ∧ ls.getD p 0 = k := by
  unfold plc
  rw [List.mem_filter, List.mem_range, decide_eq_true_iff]
theorem plc_nodup (ls : List Int) (k : Int) : (plc ls k).Nodup := (List.nodup_range (n := ls.length)).filter _
theorem self_map (ls : List Int) : ls = (List.range ls.length).map fun i => ls.getD i 0 := by
  refine List.ext_getElem (by simp) fun i h1 h2 => ?_
  rw [List.getElem_map, List.getElem_range, getD_lt h1]
theorem plc_len (ls : List Int) (k : Int) : (plc ls k).length = ls.count k := by
  conv => rhs; rw [self_map ls]
  unfold plc
  rw [List.count_eq_countP, List.countP_map, List.countP_eq_length_filter]
  congr 1
/-- places of these kinds have mates -/
def Half (ls fd : List Int) (S : Int → Prop) : Prop := ∀ p, p < ls.length → S (((ls.getD p 0).natAbs : Nat) : Int) → mtn fd p < ls.length ∧ fd.getD p 0 = ((mtn fd p : Nat) : Int) ∧ mtn fd (mtn fd p) = p ∧ ls.getD (mtn fd p) 0 = -ls.getD p 0
theorem half_ok {ls fd : List Int} (hl : fd.length = ls.length) (lt : Lts ls) {S : Int → Prop} (h : Half ls fd S) (all : ∀ z ∈ ls, S ((z.natAbs : Nat) : Int)) : MatOk ls fd := by
  have at_ : ∀ p (hp : p < ls.length), mtn fd p < ls.length ∧ fd.getD p 0 = ((mtn fd p : Nat) : Int) ∧ mtn fd (mtn fd p) = p ∧ ls.getD (mtn fd p) 0 = -ls.getD p 0 := fun p hp => h p hp (by
    rw [getD_lt hp]
    exact all _ (List.getElem_mem hp))
  have nz : ∀ p (hp : p < ls.length), ls.getD p 0 ≠ 0 := fun p hp e => by
    have := lt _ (List.getElem_mem hp)
    rw [← getD_lt hp, e] at this
    simp at this
  refine ⟨mates_ok_of hl (mtn fd) fun i hi => ?_, fun i hi => ?_⟩
  · have hi' : i < ls.length := by omega
    obtain ⟨h1, h2, h3, h4⟩ := at_ i hi'
    refine ⟨by rw [← getD_lt hi]; exact h2, h1, fun e => ?_, h3⟩
    rw [e] at h4
    have := nz i hi'
    omega
  · have hi' : i < ls.length := by omega
    obtain ⟨h1, h2, h3, h4⟩ := at_ i hi'
    have : fd[i].toNat = mtn fd i := by
      show _ = (fd.getD i 0).toNat
      rw [getD_lt hi]
    rw [this]
    exact h4
/-- two places that were none's mates are mates -/
theorem mtn_set2 {fd : List Int} {p q : Nat} (hp : p < fd.length) (hq : q < fd.length) (n : p ≠ q) (i : Nat) : mtn ((fd.set p ((q : Nat) : Int)).set q ((p : Nat) : Int)) i = if i = q then p else if i = p then q else mtn fd i := by
  unfold mtn
  rw [List.getD_eq_getElem?_getD, List.getElem?_set, List.getElem?_set, List.length_set]
  by_cases h1 : i = q
  · subst h1
    rw [if_pos rfl, if_pos hq, if_pos rfl]
    exact Int.toNat_natCast _
  · rw [if_neg (fun e => h1 e.symm), if_neg h1]
    by_cases h2 : i = p
    · subst h2
      rw [if_pos rfl, if_pos hp, if_pos rfl]
      exact Int.toNat_natCast _
    · rw [if_neg (fun e => h2 e.symm), if_neg h2, List.getD_eq_getElem?_getD]
theorem getD_set2 {fd : List Int} {p q : Nat} (hp : p < fd.length) (hq : q < fd.length) (n : p ≠ q) (i : Nat) : ((fd.set p ((q : Nat) : Int)).set q ((p : Nat) : Int)).getD i 0 = if i = q then ((p : Nat) : Int) else if i = p then ((q : Nat) : Int) else fd.getD i 0 := by
  rw [List.getD_eq_getElem?_getD, List.getElem?_set, List.getElem?_set, List.length_set]
  by_cases h1 : i = q
  · subst h1
    rw [if_pos rfl, if_pos hq, if_pos rfl]
    rfl
  · rw [if_neg (fun e => h1 e.symm), if_neg h1]
    by_cases h2 : i = p
    · subst h2
      rw [if_pos rfl, if_pos hp, if_pos rfl]
      rfl
    · rw [if_neg (fun e => h2 e.symm), if_neg h2, List.getD_eq_getElem?_getD]
/-- the mates of one kind, pair by pair -/
structure Prs (ls fd0 fd : List Int) (fw bw : List Nat) (j : Nat) : Prop where
  len : fd.length = ls.length
  old : ∀ p, p ∉ fw.take j → p ∉ bw.take j → fd.getD p 0 = fd0.getD p 0
  one : ∀ t, t < j → ∀ x y, fw[t]? = some x → bw[t]? = some y → fd.getD x 0 = ((y : Nat) : Int) ∧ fd.getD y 0 = ((x : Nat) : Int)
theorem take_not {xs : List Nat} (h : xs.Nodup) {i : Nat} {x : Nat} (hx : xs[i]? = some x) : x ∉ xs.take i := fun hm => by
  obtain ⟨j, hj, e⟩ := List.getElem_of_mem hm
  rw [List.length_take] at hj
  rw [List.getElem_take] at e
  have hi := (List.getElem?_eq_some_iff.mp hx)
  obtain ⟨hi1, hi2⟩ := hi
  have := List.pairwise_iff_getElem.mp h j i (by omega) hi1 (by omega)
  exact this (by rw [e, hi2])
theorem Prs.step {ls fd0 fd : List Int} {fw bw : List Nat} {j x y : Nat} (h : Prs ls fd0 fd fw bw j) (nf : fw.Nodup) (nb : bw.Nodup) (dj : ∀ a ∈ fw, a ∉ bw) (hx : fw[j]? = some x) (hy : bw[j]? = some y) (lx : x < ls.length) (ly : y < ls.length) :
    Prs ls fd0 ((fd.set x ((y : Nat) : Int)).set y ((x : Nat) : Int)) fw bw (j + 1) := by
  have nxy : x ≠ y := fun e => dj x (List.mem_of_getElem? hx) (e ▸ List.mem_of_getElem? hy)
  have hl := h.len
  have g := fun i => getD_set2 (fd := fd) (p := x) (q := y) (by omega) (by omega) nxy i
  have tx := take_not nf hx
  have ty := take_not nb hy
  have ef : fw.take (j + 1) = fw.take j ++ [x] := by
    rw [List.take_succ_eq_append_getElem (List.getElem?_eq_some_iff.mp hx).1, (List.getElem?_eq_some_iff.mp hx).2]
  have eb : bw.take (j + 1) = bw.take j ++ [y] := by
    rw [List.take_succ_eq_append_getElem (List.getElem?_eq_some_iff.mp hy).1, (List.getElem?_eq_some_iff.mp hy).2]
  refine ⟨by rw [List.length_set, List.length_set]; exact hl, fun p h1 h2 => ?_, fun t ht a b ha hb => ?_⟩
  · rw [ef, List.mem_append, List.mem_singleton, not_or] at h1
    rw [eb, List.mem_append, List.mem_singleton, not_or] at h2
    rw [g, if_neg h2.2, if_neg h1.2]
    exact h.old p h1.1 h2.1
  · rcases Nat.lt_succ_iff_lt_or_eq.mp ht with ht | rfl
    · obtain ⟨o1, o2⟩ := h.one t ht a b ha hb
      have at_ : a ∈ fw.take j := List.mem_of_getElem? (by rw [List.getElem?_take, if_pos ht]; exact ha)
      have bt : b ∈ bw.take j := List.mem_of_getElem? (by rw [List.getElem?_take, if_pos ht]; exact hb)
      have n1 : a ≠ x := fun e => tx (e ▸ at_)
      have n2 : b ≠ y := fun e => ty (e ▸ bt)
      have n3 : a ≠ y := fun e => dj a (List.mem_of_getElem? ha) (e ▸ List.mem_of_getElem? hy)
      have n4 : b ≠ x := fun e => dj x (List.mem_of_getElem? hx) (e ▸ List.mem_of_getElem? hb)
      rw [g, g, if_neg n3, if_neg n1, if_neg n2, if_neg n4]
      exact ⟨o1, o2⟩
    · obtain rfl := Option.some.inj (ha.symm.trans hx)
      obtain rfl := Option.some.inj (hb.symm.trans hy)
      rw [g, g, if_neg nxy, if_pos rfl, if_pos rfl]
      exact ⟨rfl, rfl⟩
theorem Prs.half {ls fd0 fd : List Int} {bw : List Nat} {k : Int} {S : Int → Prop} (h : Prs ls fd0 fd (plc ls k) bw (plc ls k).length) (k0 : 0 < k) (hb : bw.Perm (plc ls (-k))) (le : bw.length = (plc ls k).length) (h0 : Half ls fd0 S) : Half ls fd fun z => S z ∨ z = k := by
  have mb : ∀ p, p ∈ bw ↔ p < ls.length ∧ ls.getD p 0 = -k := fun p => by rw [hb.mem_iff, plc_mem]
  have old := h.old
  rw [List.take_length, ← le, List.take_length] at old
  intro p hp hs
  by_cases hk : ((ls.getD p 0).natAbs : Int) = k
  · have cases : ls.getD p 0 = k ∨ ls.getD p 0 = -k := by omega
    rcases cases with e | e
    · obtain ⟨t, ht, et⟩ := List.getElem_of_mem (plc_mem.mpr ⟨hp, e⟩)
      have ht2 : t < bw.length := by omega
      obtain ⟨o1, o2⟩ := h.one t ht p bw[t] (by rw [List.getElem?_eq_getElem ht, et]) (List.getElem?_eq_getElem ht2)
      obtain ⟨m1, m2⟩ := (mb _).mp (List.getElem_mem ht2)
      have e1 : mtn fd p = bw[t] := by unfold mtn; rw [o1, Int.toNat_natCast]
      have e2 : mtn fd bw[t] = p := by unfold mtn; rw [o2, Int.toNat_natCast]
      exact ⟨by rw [e1]; exact m1, by rw [e1]; exact o1, by rw [e1, e2], by rw [e1, m2, e]⟩
    · obtain ⟨t, ht, et⟩ := List.getElem_of_mem ((mb p).mpr ⟨hp, e⟩)
      have ht2 : t < (plc ls k).length := by omega
      obtain ⟨o1, o2⟩ := h.one t ht2 (plc ls k)[t] p (List.getElem?_eq_getElem ht2) (by rw [List.getElem?_eq_getElem ht, et])
      obtain ⟨m1, m2⟩ := plc_mem.mp (List.getElem_mem ht2)
      have e1 : mtn fd p = (plc ls k)[t] := by unfold mtn; rw [o2, Int.toNat_natCast]
      have e2 : mtn fd (plc ls k)[t] = p := by unfold mtn; rw [o1, Int.toNat_natCast]
      exact ⟨by rw [e1]; exact m1, by rw [e1]; exact o2, by rw [e1, e2], by rw [e1, m2, e]; omega⟩
  · have hs' : S ((ls.getD p 0).natAbs : Int) := hs.resolve_right hk
    obtain ⟨a1, a2, a3, a4⟩ := h0 p hp hs'
    have keep : ∀ x, x < ls.length → ((ls.getD x 0).natAbs : Int) ≠ k → fd.getD x 0 = fd0.getD x 0 := fun x hx n => old x (fun hm => n (by rw [(plc_mem.mp hm).2]; omega)) fun hm => n (by rw [((mb x).mp hm).2]; omega)
    have k1 := keep p hp hk
    have m1 : mtn fd p = mtn fd0 p := by unfold mtn; rw [k1]
    have k2 := keep (mtn fd0 p) a1 (by rw [a4]; omega)
    have m2 : mtn fd (mtn fd0 p) = p := by
      show (fd.getD (mtn fd0 p) 0).toNat = p
      rw [k2]
      exact a3
    exact ⟨by rw [m1]; exact a1, by rw [k1, m1]; exact a2, by rw [m1, m2], by rw [m1]; exact a4⟩
def spMates : Sp := fun vs H Q _ => ∃ (a c p : Addr) (ls : List Int) (n : Nat), vs = [.ref a, .ref p] ∧ HandAt H a c n ∧ p ≠ a ∧ H p = some (.lst (iv ls)) ∧ ls.length ≤ 60 ∧ Lts ls ∧ (∀ z, (ls.count z : Int) = ls.count (-z)) ∧ n ≤ 6000 ∧
  ∀ l H' mt, H l = none → Drew a c (n + 100) H H' → H' l = some (.lst (iv mt)) → MatOk ls mt → Q (.ref l) H'
abbrev sMates : Stmt := top 73
abbrev nMates : List Str := ["_law_pen_here", "_law_letters_here", "_law_found", "_law_kind", "_law_forward", "_law_backward", "_law_one", "_law_other", "_law_place", "_law_letter"]
theorem scMates : FnScope nMates ["_law_pen_here", "_law_letters_here"] (defScope sMates) := ⟨rfl, rfl, rfl, by decide +kernel, rfl, by decide +kernel, by decide +kernel⟩
section
variable {P : Program} {w : World} {K : PySem.W.Frag} {mg : Str → Option Value} {base : Heap} {C CR : Addr}
theorem ok_Mates {f : Addr} {fd : FuncData} (F : Fun K "_law_mates" "_law_mates" sMates f fd) (N : TN mg)  (G_mixed : Cal P w K mg base "_law_mixed" 2 ["_law_pen_here", "_law_some"] (spMixed)) : FnOk P w K mg base CX0 3 f fd ["_law_pen_here", "_law_letters_here"] (spMates) := by
  refine F.ok scMates (fun vs H Q E h => ?_) (fun cdv A outer s H vs Q E hr h => ?_)
  · obtain ⟨a, c, p, ls, n, rfl, _⟩ := h
    rfl
  · obtain ⟨a, c, p, ls, n, rfl, hH, hpa, hp, l60, lt, bal, hn, k⟩ := h
    refine ⟨_, pss_cons (ps_set (i := 2) scMates.nd rfl (Or.inl rfl) (pe_op op_rep (pe_lst (pa_cons pe_int pa_nil)) (pe_callB call_len_seq (by rfl) N.len PySem.boot_len (pa_cons (pv 1) pa_nil))))
      (pss_cons (ps_for PassesOwn.never rfl (pi_list (pe_callB (cr_sortedSet rfl) (by rfl) N.sorted (by decide +kernel) (pa_cons (pe_callTy (call_setLI rfl) (by rfl) N.set (by decide +kernel) (pa_cons (pe_lc (own := [("_law_letter", 9)]) (g := gName 9) (tt := tYes) rfl scMates.nd (pi_list (pv 1)) (blkOk_by (N := nMates) (sc := defScope sMates) (by decide +kernel)) (fun _ _ _ _ _ => (pg_name (i := 9) scMates.nd rfl (Or.inl rfl))) (fun _ _ _ _ _ => pts_nil) (fun _ _ _ _ _ => (pe_callB call_abs (by rfl) N.abs (by decide +kernel) (pa_cons (pv 9) pa_nil)))) pa_nil)) pa_nil))) (pg_name (i := 3) scMates.nd rfl (Or.inr rfl))
      (pss_cons (ps_setLc (i := 4) (own := [("_law_place", 8), ("_law_letter", 9)]) (g := gTup K 2 (gCons (gName 8) (gCons (gName 9) gNil))) rfl scMates.nd rfl rfl (sw_true rfl rfl rfl (by decide +kernel)) (pi_enum (by rfl) N.enumerate (pa_cons (pv 1) pa_nil)) (blkOk_by (N := nMates) (sc := defScope sMates) (by decide +kernel)) (fun _ _ _ _ _ => (pg_tup (n := 2) rfl (pgs_cons (pg_name (i := 8) scMates.nd rfl (Or.inl rfl)) (pgs_cons (pg_name (i := 9) scMates.nd rfl (Or.inl rfl)) pgs_nil)))) (fun _ _ _ _ _ => (pts_one (pt_cmpR op_eq (pv 9) (pv 3) (nomark _)))) (fun _ _ _ _ _ => (pv 8)))
      (pss_cons (ps_set (i := 5) scMates.nd rfl (Or.inl rfl) (pe_cal G_mixed hr (by decide) (by rfl) (pa_cons (pv 0) (pa_cons (pe_lc (own := [("_law_place", 8), ("_law_letter", 9)]) (g := gTup K 2 (gCons (gName 8) (gCons (gName 9) gNil))) rfl scMates.nd (pi_enum (by rfl) N.enumerate (pa_cons (pv 1) pa_nil)) (blkOk_by (N := nMates) (sc := defScope sMates) (by decide +kernel)) (fun _ _ _ _ _ => (pg_tup (n := 2) rfl (pgs_cons (pg_name (i := 8) scMates.nd rfl (Or.inl rfl)) (pgs_cons (pg_name (i := 9) scMates.nd rfl (Or.inl rfl)) pgs_nil)))) (fun _ _ _ _ _ => (pts_one (pt_cmpR op_eq (pv 9) (pe_un un_neg (pv 3)) (nomark _)))) (fun _ _ _ _ _ => (pv 8))) pa_nil))))
      (pss_one (ps_for PassesOwn.never rfl (pi_zip (by rfl) N.zip (pa_cons (pv 4) (pa_cons (pv 5) pa_nil))) (pg_tup (n := 2) rfl (pgs_cons (pg_name (i := 6) scMates.nd rfl (Or.inl rfl)) (pgs_cons (pg_name (i := 7) scMates.nd rfl (Or.inl rfl)) pgs_nil)))
      (pss_one (ps_asg (pe_tup (pa_cons (pv 7) (pa_cons (pv 6) pa_nil))) (pg_tup (n := 2) rfl (pgs_cons (pg_sub (pv 2) (pv 6) set_list) (pgs_cons (pg_sub (pv 2) (pv 7) set_list) pgs_nil))))))))))
      (pss_one (ps_ret (pv 2)))), ?_⟩
    have elen : ((iv ls).length : Int) = (ls.length : Int) := by rw [List.length_map]
    refine ⟨by show 1 ≤ sizeLine; decide, fun q0 hq0 => ?_⟩
    have s0 := same_upd (o := .lst [.int 0]) hq0
    refine ⟨_, rfl, p, _, rfl, .inl (SqL.of (s0 _ _ hp)), q0, _, _, rfl, rfl, upd_same, by omega, by omega, Evl.sz_of (by show 1 * ((((iv ls).length : Nat) : Int)).toNat ≤ _; omega), fun fo hfo => ?_⟩
    have s1 := s0.trans (same_upd (o := .lst (List.replicate (((iv ls).length : Nat) : Int).toNat [V.int 0]).flatten) hfo)
    have fo0 : H fo = none := s0.free hfo
    have gfo : L2.upd (L2.upd H q0 (.lst [.int 0])) fo (.lst (List.replicate (((iv ls).length : Nat) : Int).toNat [V.int 0]).flatten) fo = some (.lst (iv (List.replicate ls.length 0))) := by
      rw [upd_same, Int.toNat_natCast, List.length_map]
      simp [iv]
    obtain ⟨H1, e1⟩ : ∃ H1, H1 = L2.upd (L2.upd H q0 (.lst [.int 0])) fo (.lst (List.replicate (((iv ls).length : Nat) : Int).toNat [V.int 0]).flatten) := ⟨_, rfl⟩
    rw [← e1] at s1 gfo ⊢
    have hfa := hH.ne fo0
    have hfc := hH.neC fo0
    have hpf : p ≠ fo := fun e => by rw [e, fo0] at hp; cases hp
    have D1 : Drew a c n H H1 := (Drew.refl hH).same s1
    refine at_set ?_
    try dsimp only
    refine for_ss_lc (K := K) ?_
    have hp1 := s1 _ _ hp
    refine ⟨_, rfl, p, rfl, ⟨_, SqL.of hp1⟩, ?_⟩
    refine lcp (walk_list (K := K) (a := p) (xs := iv ls)) (fun _ => true) (fun x => match x with | .int i => V.int (if i < 0 then -i else i) | v => v) (by rw [List.length_map]; omega) (fun H' s => SqL.of (s _ _ hp1)) ?_ ?_
    · intro x hx H2 s2 Qy Qn ky kn
      obtain ⟨z, hz, rfl⟩ := List.mem_map.mp hx
      exact ⟨rfl, yes_te ⟨_, rfl, z, rfl, ky rfl H2 (Same.refl _)⟩⟩
    intro D H2 hD s2 hD2
    have eab : ((iv ls).filter (fun _ => true)).map (fun x => match x with | .int i => V.int (if i < 0 then -i else i) | v => v) = iv (ls.map fun i => ((i.natAbs : Nat) : Int)) := by
      rw [List.filter_eq_self.mpr (fun _ _ => rfl)]
      unfold iv
      rw [List.map_map, List.map_map]
      refine List.map_congr_left fun i _ => ?_
      show V.int (if i < 0 then -i else i) = V.int ((i.natAbs : Nat) : Int)
      congr 1
      split <;> omega
    rw [eab] at hD2
    refine ⟨D, _, rfl, SqL.of hD2, by rw [List.length_map]; omega, fun S L hS ndL memL => ?_⟩
    have lL : L.length ≤ 26 := by
      have nd2 : (L.map Int.toNat).Nodup := by
        refine List.pairwise_map.mpr (ndL.imp_of_mem fun {x y} hx hy ne e => ne ?_)
        obtain ⟨z1, _, rfl⟩ := List.mem_map.mp ((memL x).mp hx)
        obtain ⟨z2, _, rfl⟩ := List.mem_map.mp ((memL y).mp hy)
        rw [Int.toNat_natCast, Int.toNat_natCast] at e
        rw [e]
      have := L2.nat_nodup_len (L.map Int.toNat) ((List.range 26).map (· + 1)) nd2 fun x hx => by
        obtain ⟨y, hy, rfl⟩ := List.mem_map.mp hx
        obtain ⟨z, hz, rfl⟩ := List.mem_map.mp ((memL y).mp hy)
        have := lt z hz
        rw [Int.toNat_natCast]
        exact List.mem_map.mpr ⟨z.natAbs - 1, List.mem_range.mpr (by omega), by omega⟩
      rw [List.length_map, List.length_map, List.length_range] at this
      exact this
    have s3 := s2.trans (same_upd (o := SetO w S (fun j => decide (j ∈ ls.map fun i => ((i.natAbs : Nat) : Int))) L.length) hS)
    refine ⟨S, _, L.length, rfl, upd_same, by omega, fun ks p3 hlt hmem hlen hp3 => ?_⟩
    have s4 := s3.trans (same_upd (o := .lst (iv ks)) hp3)
    have hks : ∀ z, z ∈ ks ↔ z ∈ ls.map fun i => ((i.natAbs : Nat) : Int) := fun z => by
      rw [hmem]
      exact decide_eq_true_iff
    have ndk : ks.Nodup := hlt.imp fun h => Int.ne_of_lt h
    have gk3 : L2.upd (L2.upd H2 S (SetO w S (fun j => decide (j ∈ ls.map fun i => ((i.natAbs : Nat) : Int))) L.length)) p3 (.lst (iv ks)) p3 = some (.lst (iv ks)) := upd_same
    have hp3f : p3 ≠ fo := fun e => by
      have h3 := s3 _ _ gfo
      rw [← e] at h3
      cases (h3.symm.trans hp3)
    have D4 := D1.same s4
    have hp4 := s4 _ _ hp1
    have gf4 := s4 _ _ gfo
    refine ⟨p3, rfl, ⟨_, SqL.of gk3⟩, for_list (K := K) (a := p3) (xs := iv ks) (fun i σ H' => ∃ (v3 v4 v5 v6 v7 : Option V) (fd : List Int) (us : List Nat), σ = [some (.ref a), some (.ref p), some (.ref fo), v3, v4, v5, v6, v7, none, none] ∧ Drew a c (n + us.length) H H' ∧ H' p = some (.lst (iv ls)) ∧ H' p3 = some (.lst (iv ks)) ∧ H' fo = some (.lst (iv fd)) ∧
        fd.length = ls.length ∧ Half ls fd (fun z => z ∈ ks.take i) ∧ us.Nodup ∧ (∀ x ∈ us, x < ls.length ∧ ∃ k ∈ ks.take i, ls.getD x 0 = -k))
      ⟨none, none, none, none, none, _, [], rfl, D4, hp4, gk3, gf4, List.length_replicate, (fun _ _ h => nomatch h), List.nodup_nil, fun _ h => nomatch h⟩ (fun i σ H' _ ⟨_, _, _, _, _, _, _, _, _, _, h, _⟩ => SqL.of h) ?_ ?_⟩
    · rintro i x σ H5 hi ⟨v3, v4, v5, v6, v7, fd, us, rfl, D5, hp5, gk5, gf5, lfd, half, ndu, hus⟩
      obtain ⟨kk, hk, rfl⟩ : ∃ z, ks[i]? = some z ∧ x = V.int z := by
        rw [List.getElem?_map] at hi
        cases e : ks[i]? with
        | none => rw [e] at hi; cases hi
        | some z => rw [e] at hi; exact ⟨z, rfl, (Option.some.inj hi).symm⟩
      have hik : i < ks.length := (List.getElem?_eq_some_iff.mp hk).1
      have ekt : ks.take (i + 1) = ks.take i ++ [kk] := by
        rw [List.take_succ_eq_append_getElem hik, (List.getElem?_eq_some_iff.mp hk).2]
      have k0 : 0 < kk := by
        obtain ⟨z, hz, e⟩ := List.mem_map.mp ((hks kk).mp (List.mem_of_getElem? hk))
        have := lt z hz
        omega
      have nkt : kk ∉ ks.take i := fun hm => by
        obtain ⟨j, hj, e⟩ := List.getElem_of_mem hm
        rw [List.length_take] at hj
        rw [List.getElem_take] at e
        have := List.pairwise_iff_getElem.mp ndk j i (by omega) hik (by omega)
        exact this (by rw [e, (List.getElem?_eq_some_iff.mp hk).2])
      have ndu2 : (us ++ plc ls (-kk)).Nodup := List.nodup_append.mpr ⟨ndu, plc_nodup _ _, fun x hx y hy e => by
        subst e
        obtain ⟨_, k', hk', e1⟩ := hus x hx
        have e2 := (plc_mem.mp hy).2
        have : k' = kk := by omega
        exact nkt (this ▸ hk')⟩
      have hus2 : ∀ x ∈ us ++ plc ls (-kk), x < ls.length ∧ ∃ k ∈ ks.take (i + 1), ls.getD x 0 = -k := fun x hx => by
        rcases List.mem_append.mp hx with hx | hx
        · obtain ⟨h1, k', hk', e⟩ := hus x hx
          exact ⟨h1, k', by rw [ekt]; exact List.mem_append_left _ hk', e⟩
        · exact ⟨(plc_mem.mp hx).1, kk, by rw [ekt]; exact List.mem_append_right _ List.mem_cons_self, (plc_mem.mp hx).2⟩
      have lus : (us ++ plc ls (-kk)).length ≤ 60 := by
        refine Nat.le_trans (L2.nat_nodup_len _ (List.range ls.length) ndu2 fun x hx => List.mem_range.mpr (hus2 x hx).1) ?_
        rw [List.length_range]
        exact l60
      rw [List.length_append] at lus
      have leq : (plc ls (-kk)).length = (plc ls kk).length := by
        rw [plc_len, plc_len]
        have := bal kk
        omega
      have enm : ∀ (k : Int) (H2 : Hp) (T0 : Addr) (j : Nat) (x : V), (iv ls)[j]? = some x → H2 T0 = none → j < ls.length ∧ x = V.int (ls.getD j 0) := fun k H2 T0 j x hx _ => by
        have hj : j < ls.length := by
          have := (List.getElem?_eq_some_iff.mp hx).1
          rwa [List.length_map] at this
        rw [List.getElem?_map, List.getElem?_eq_getElem hj] at hx
        exact ⟨hj, by rw [getD_lt hj]; exact (Option.some.inj hx).symm⟩
      have efl : ∀ k : Int, ((List.range (iv ls).length).filter fun j => decide (ls.getD j 0 = k)).map (fun (j : Nat) => V.int (j : Int)) = iv (nats (plc ls k)) := fun k => by
        rw [List.length_map]
        unfold iv nats plc
        rw [List.map_map]
        rfl
      refine at_set ?_
      try dsimp only
      refine sq_lcS ?_
      refine ⟨_, rfl, p, _, rfl, SqL.of hp5, ?_⟩
      refine lcE (walk_enum (K := K) (a := p) (xs := iv ls)) (fun j => decide (ls.getD j 0 = kk)) (fun (j : Nat) => V.int (j : Int)) (by rw [List.length_map]; omega) (fun H' s => SqL.of (s _ _ hp5)) ?_ ?_
      · intro j x hx H2 s2 T0 hT Qy Qn ky kn
        obtain ⟨hj, rfl⟩ := enm kk H2 T0 j x hx hT
        have sT := same_upd (o := .tup [.int (j : Nat), .int (ls.getD j 0)]) hT
        refine ⟨T0, _, rfl, SqT.of upd_same, rfl, _, _, rfl, _, _, rfl, rfl, rfl, _, rfl, _, rfl, rfl, _, rfl, ?_⟩
        refine ite2 (fun hb => ?_) (fun hb => ?_)
        · exact ⟨_, rfl, ky (decide_eq_true (by have := of_decide_eq_true hb; injection this)) _ sT⟩
        · exact kn (decide_eq_false fun e => hb (decide_eq_true (by rw [e]))) _ sT
      intro fw H6 hfw s6 gfw
      rw [efl] at gfw
      have D6 := D5.same s6
      have hp6 := s6 _ _ hp5
      have gk6 := s6 _ _ gk5
      have gf6 := s6 _ _ gf5
      have hfwf : fw ≠ fo := fun e => by rw [e, gf5] at hfw; cases hfw
      have hfwa : fw ≠ a := D5.1.ne hfw
      refine at_set ?_
      try dsimp only
      refine asg_cal_lc ?_
      refine ⟨_, rfl, _, rfl, p, _, rfl, SqL.of hp6, ?_⟩
      refine lcE (walk_enum (K := K) (a := p) (xs := iv ls)) (fun j => decide (ls.getD j 0 = -kk)) (fun (j : Nat) => V.int (j : Int)) (by rw [List.length_map]; omega) (fun H' s => SqL.of (s _ _ hp6)) ?_ ?_
      · intro j x hx H2 s2 T0 hT Qy Qn ky kn
        obtain ⟨hj, rfl⟩ := enm kk H2 T0 j x hx hT
        have sT := same_upd (o := .tup [.int (j : Nat), .int (ls.getD j 0)]) hT
        refine ⟨T0, _, rfl, SqT.of upd_same, rfl, _, _, rfl, _, _, rfl, rfl, rfl, _, rfl, _, rfl, kk, rfl, rfl, _, rfl, ?_⟩
        refine ite2 (fun hb => ?_) (fun hb => ?_)
        · exact ⟨_, rfl, ky (decide_eq_true (by have := of_decide_eq_true hb; injection this)) _ sT⟩
        · exact kn (decide_eq_false fun e => hb (decide_eq_true (by rw [e]))) _ sT
      intro bq H7 hbq s7 gbq
      rw [efl] at gbq
      have D7 := D6.same s7
      have lbq : (iv (nats (plc ls (-kk)))).length = (plc ls (-kk)).length := by unfold iv nats; rw [List.length_map, List.length_map]
      refine ⟨a, c, bq, _, n + us.length, rfl, D7.1, gbq, by rw [lbq]; omega, by omega, fun bw H8 ys hbw D8 g8 pm => ?_⟩
      obtain ⟨ms0, pm0, rfl⟩ := perm_map pm _ rfl
      obtain ⟨ms, pm1, rfl⟩ := perm_map pm0 _ rfl
      rw [lbq] at D8
      have D8' := D7.trans D8
      have hpq := D8.2 _ _ hpa (s7 _ _ hp6)
      have hp3a : p3 ≠ a := fun e => by
        obtain ⟨_, _, _, h, _⟩ := D5.1
        rw [← e, gk5] at h
        cases ks with
        | nil => cases h
        | cons k r => cases h
      have gk8 := D8.2 _ _ hp3a (s7 _ _ gk6)
      have gf8 := D8.2 _ _ hfa (s7 _ _ gf6)
      have gfw8 := D8.2 _ _ hfwa (s7 _ _ gfw)
      have hbwf : bw ≠ fo := fun e => by rw [e, s7 _ _ gf6] at hbw; cases hbw
      have lms := pm1.length_eq
      have eiv : ∀ zs : List Nat, (iv (nats zs)).length = zs.length := fun zs => by unfold iv nats; rw [List.length_map, List.length_map]
      refine at_set ?_
      refine ⟨_, rfl, _, rfl, fw, bw, _, _, rfl, SqL.of gfw8, SqL.of g8, ?_⟩
      refine RZ.for_zipL (K := K) (a := fw) (b := bw) (xs := iv (nats (plc ls kk))) (ys := iv (nats ms)) (by rw [eiv, eiv]; omega) (fun j σ H' => ∃ (v6 v7 : Option V) (fd' : List Int), σ = [some (.ref a), some (.ref p), some (.ref fo), some (.int kk), some (.ref fw), some (.ref bw), v6, v7, none, none] ∧ Drew a c (n + us.length + (plc ls (-kk)).length) H H' ∧ H' p = some (.lst (iv ls)) ∧ H' p3 = some (.lst (iv ks)) ∧ H' fo = some (.lst (iv fd')) ∧
          H' fw = some (.lst (iv (nats (plc ls kk)))) ∧ H' bw = some (.lst (iv (nats ms))) ∧ Prs ls fd fd' (plc ls kk) ms j)
        ⟨_, _, fd, rfl, D8', hpq, gk8, gf8, gfw8, g8, lfd, (fun _ _ _ => rfl), fun t ht => absurd ht (Nat.not_lt_zero _)⟩ (fun j σ H' ⟨_, _, _, _, _, _, _, _, h1, h2, _⟩ => ⟨SqL.of h1, SqL.of h2⟩) ?_ ?_
      · rintro j x y T σ H9 hx hy ⟨v6, v7, fd', rfl, D9, hp9, gk9, gf9, gw9, gb9, prs⟩ hT
        have get : ∀ (zs : List Nat) (v : V), (iv (nats zs))[j]? = some v → ∃ z : Nat, zs[j]? = some z ∧ v = V.int ((z : Nat) : Int) := fun zs v h => by
          unfold iv nats at h
          rw [List.getElem?_map, List.getElem?_map] at h
          cases e : zs[j]? with
          | none => rw [e] at h; cases h
          | some z => rw [e] at h; exact ⟨z, rfl, (Option.some.inj h).symm⟩
        obtain ⟨xn, hxn, rfl⟩ := get _ _ hx
        obtain ⟨yn, hyn, rfl⟩ := get _ _ hy
        have lx := (plc_mem.mp (List.mem_of_getElem? hxn)).1
        have ly := (plc_mem.mp (pm1.mem_iff.mp (List.mem_of_getElem? hyn))).1
        have sT := same_upd (o := .tup [.int (xn : Int), .int (yn : Int)]) hT
        have gf10 := sT _ _ gf9
        have hp10 := sT _ _ hp9
        have gk10 := sT _ _ gk9
        have gw10 := sT _ _ gw9
        have gb10 := sT _ _ gb9
        have D10 := D9.same sT
        have gT : L2.upd H9 T (.tup [.int (xn : Int), .int (yn : Int)]) T = some (.tup [.int (xn : Int), .int (yn : Int)]) := upd_same
        generalize L2.upd H9 T (.tup [.int (xn : Int), .int (yn : Int)]) = HA at gf10 hp10 gk10 gw10 gb10 D10 gT ⊢
        refine ⟨T, _, rfl, SqT.of gT, rfl, _, _, rfl, _, _, rfl, rfl, ?_⟩
        refine ⟨_, rfl, _, rfl, by show 2 ≤ sizeLine; decide, fun t ht => ?_⟩
        have st := same_upd (o := .tup [.int (yn : Int), .int (xn : Int)]) ht
        have gf11 := st _ _ gf10
        have hp11 := st _ _ hp10
        have gk11 := st _ _ gk10
        have gw11 := st _ _ gw10
        have gb11 := st _ _ gb10
        have D11 := D10.same st
        have gt : L2.upd HA t (.tup [.int (yn : Int), .int (xn : Int)]) t = some (.tup [.int (yn : Int), .int (xn : Int)]) := upd_same
        generalize L2.upd HA t (.tup [.int (yn : Int), .int (xn : Int)]) = HB at gf11 hp11 gk11 gw11 gb11 D11 gt ⊢
        have lf' : (iv fd').length = ls.length := by rw [List.length_map]; exact prs.len
        refine ⟨t, _, rfl, SqT.of gt, rfl, _, _, rfl, _, rfl, _, rfl, fo, _, _, xn, rfl, rfl, gf11, Evl.ixN_nat (by omega), _, _, rfl, _, rfl, _, rfl, fo, _, _, yn, rfl, rfl, upd_same, Evl.ixN_nat (by rw [List.length_set]; omega), rfl, ?_⟩
        have two : ∀ b o, b ≠ fo → HB b = some o → L2.upd (L2.upd HB fo (.lst ((iv fd').set xn (.int (yn : Int))))) fo (.lst (((iv fd').set xn (.int (yn : Int))).set yn (.int (xn : Int)))) b = some o := fun b o nb e => by rw [upd_ne nb, upd_ne nb]; exact e
        refine ⟨_, _, (fd'.set xn ((yn : Nat) : Int)).set yn ((xn : Nat) : Int), rfl, (D11.put fo0 hfa hfc).put fo0 hfa hfc, two _ _ hpf hp11, two _ _ hp3f gk11, ?_, two _ _ hfwf gw11, two _ _ hbwf gb11, ?_⟩
        · rw [upd_same]
          simp [iv]
        · exact prs.step (plc_nodup _ _) (pm1.nodup_iff.mpr (plc_nodup _ _)) (fun x hx hm => by
            have e1 := (plc_mem.mp hx).2
            have e2 := (plc_mem.mp (pm1.mem_iff.mp hm)).2
            omega) hxn hyn lx ly
      · rintro σ H9 ⟨v6, v7, fd', rfl, D9, hp9, gk9, gf9, gw9, gb9, prs⟩
        rw [eiv] at prs
        refine ⟨_, _, _, _, _, fd', us ++ plc ls (-kk), rfl, by rw [List.length_append, ← Nat.add_assoc]; exact D9, hp9, gk9, gf9, prs.len, ?_, ndu2, hus2⟩
        have hf := prs.half k0 pm1 (by omega) half
        intro q hq hS
        refine hf q hq ?_
        rw [ekt] at hS
        rcases List.mem_append.mp hS with h | h
        · exact .inl h
        · exact .inr (List.mem_singleton.mp h)
    · rintro σ H5 ⟨v3, v4, v5, v6, v7, fd, us, rfl, D5, hp5, gk5, gf5, lfd, half, ndu, hus⟩
      rw [List.length_map, List.take_length] at half
      have lus : us.length ≤ 60 := by
        refine Nat.le_trans (L2.nat_nodup_len _ (List.range ls.length) ndu fun x hx => List.mem_range.mpr (hus x hx).1) ?_
        rw [List.length_range]
        exact l60
      refine ⟨_, rfl, k fo H5 fd fo0 (D5.mono (by omega)) gf5 (half_ok lfd lt half fun z hz => (hks _).mpr (List.mem_map.mpr ⟨z, hz, rfl⟩))⟩
end
end W14
set_option Elab.async false
set_option linter.all false
set_option maxRecDepth 100000
set_option maxHeartbeats 600000
namespace W14
open PySem L2 PySem.Spec PyProof.Rows WR WB WE WS
/-! ### mates exchanged, by the law's own hand; pairs of places with one letter -/
theorem lcRM {n : Nat} {g : TG} {tt : TT} {te : TE} {vs : List Nat} {σ : L2.St} {H1 : Hp} {Q : VK} (f : Nat → Bool) (R : Hp → V → Nat → Prop) (hst : ∀ H H' v b, R H v b → Same H H' → R H' v b) (hput : ∀ D H ws o v b, H D = some (.lst ws) → R H v b → R (L2.upd H D o) v b) (hz : n < 40000)
    (hs : ∀ i, i < n → ∀ H, Same H1 H → ∀ (Qy : V → Hp → Prop) (Qn : Hp → Prop), (f i = true → ∀ v H', Same H H' → R H' v i → Qy v H') → (f i = false → ∀ H', Same H H' → Qn H') →
      g (.int ((i : Nat) : Int)) (wipe σ vs) H fun σ2 H2 => wipe σ2 vs = wipe σ vs ∧ tt σ2 H2 fun b H3 => if b = true then te σ2 H3 Qy else Qn H3)
    (hd : ∀ (D : Addr) H' ws, H1 D = none → Same H1 H' → H' D = some (.lst ws) → All2 (R H') ws ((List.range n).filter f) → Q (.ref D) H') : tLc (fun _ H R => R (Itr 0 n) H) g tt te vs σ H1 Q := by
  intro D hD
  refine lc_it (walk_range (lo := 0) (n := n)) (fun i H => Same H1 H ∧ ∃ ws, H D = some (.lst ws) ∧ All2 (R H) ws ((List.range i).filter f)) ⟨fun b o e => by rw [upd_ne (ne_of_none e hD)]; exact e, [], upd_same, .nil⟩ (fun i H _ q => trivial) ?_ ?_
  · rintro i x H H' hi ⟨sm, ws, hw, h2⟩ ⟨rfl, ex⟩
    obtain rfl : x = V.int ((i : Nat) : Int) := by
      rw [ex]
      show V.int (0 + ((i : Nat) : Int)) = _
      rw [Int.zero_add]
    refine hs i hi H' sm _ _ (fun hf v H2 s2 r => ⟨_, s2 _ _ hw, ?_, ?_, ?_⟩) (fun hf H2 s2 => ⟨fun b o e => s2 b o (sm b o e), ws, s2 _ _ hw, ?_⟩)
    · refine Evl.sz_lt ?_
      rw [h2.length]
      have := List.length_filter_le f (List.range i)
      rw [List.length_range] at this
      omega
    · intro b o e
      rw [upd_ne (ne_of_none e hD)]
      exact s2 b o (sm b o e)
    · refine ⟨_, upd_same, ?_⟩
      rw [List.range_succ, List.filter_append, List.filter_cons, if_pos hf]
      exact All2.app (h2.imp fun _ _ r => hput _ _ _ _ _ _ (s2 _ _ hw) (hst _ _ _ _ r s2)) (.cons (hput _ _ _ _ _ _ (s2 _ _ hw) r) .nil)
    · rw [List.range_succ, List.filter_append, List.filter_cons, if_neg (by rw [hf]; decide)]
      show All2 (R H2) ws ((List.range i).filter f ++ [])
      rw [List.append_nil]
      exact h2.imp fun _ _ r => hst _ _ _ _ r s2
  · rintro H ⟨sm, ws, hw, h2⟩
    exact hd D H ws hD sm hw h2
theorem cat_lc {te0 : TE} {r : R2} {wi : TI} {g gg : TG} {tt : TT} {te : TE} {vs : List Nat} {D : Ends} {σ : L2.St} {H : Hp}
    (h : te0 σ H fun x H0 => wi σ H0 fun J H1 => tLc (fun _ H R => R J H) g tt te vs σ H1 fun y H2 => r x y H2 fun z H4 => gg z σ H4 D.nx) : tAsg (tOp r te0 (tLc wi g tt te vs)) gg D σ H := h
def spSwp (K : PySem.W.Frag) : Sp := fun vs H Q _ => ∃ (m : Addr) (p q n : Nat) (mt : List Int), vs = [.ref m, .int (p : Int), .int (q : Int)] ∧ H m = some (.lst (iv mt)) ∧ n ≤ 60 ∧ PairOk n mt ∧ p < n ∧ q < n ∧ p ≠ q ∧ mtn mt p ≠ q ∧ NewB K H Q (iv (swpF mt p q))
abbrev sSwp : Stmt := top 75
abbrev nSwp : List Str := ["_law_mates_here", "_law_one", "_law_other", "_law_found", "_law_place", "_law_mate"]
theorem scSwp : FnScope nSwp ["_law_mates_here", "_law_one", "_law_other"] (defScope sSwp) := ⟨rfl, rfl, rfl, by decide +kernel, rfl, by decide +kernel, by decide +kernel⟩
/-- pairs of places with one letter -/
def cplT (ls : List Int) (p : Nat) : List (Nat × Nat) := ((List.range ls.length).filter fun q => decide (p ≠ q) && decide (ls.getD q 0 = ls.getD p 0)).map fun q => (p, q)
def cplF (ls : List Int) : Nat → List (Nat × Nat)
  | 0 => []
  | i + 1 => cplF ls i ++ cplT ls i
theorem cplF_mem {ls : List Int} {x : Nat × Nat} : ∀ {i : Nat}, x ∈ cplF ls i ↔ x.1 < i ∧ x.2 < ls.length ∧ x.1 ≠ x.2 ∧ ls.getD x.2 0 = ls.getD x.1 0
  | 0 => ⟨(fun h => nomatch h), fun h => absurd h.1 (Nat.not_lt_zero _)⟩
  | i + 1 => by
    show x ∈ cplF ls i ++ cplT ls i ↔ _
    rw [List.mem_append, cplF_mem]
    unfold cplT
    rw [List.mem_map]
    constructor
    · rintro (⟨h1, h2⟩ | ⟨q, hq, rfl⟩)
      · exact ⟨by omega, h2⟩
      · rw [List.mem_filter, List.mem_range, Bool.and_eq_true, decide_eq_true_iff, decide_eq_true_iff] at hq
        exact ⟨Nat.lt_succ_self _, hq.1, hq.2.1, hq.2.2⟩
    · rintro ⟨h1, h2, h3, h4⟩
      by_cases h : x.1 = i
      · refine .inr ⟨x.2, ?_, by rw [← h]⟩
        rw [List.mem_filter, List.mem_range, Bool.and_eq_true, decide_eq_true_iff, decide_eq_true_iff, ← h]
        exact ⟨h2, h3, h4⟩
      · exact .inl ⟨by omega, h2, h3, h4⟩
theorem cplF_len (ls : List Int) : ∀ i, (cplF ls i).length ≤ i * ls.length
  | 0 => by simp [cplF]
  | i + 1 => by
    show (cplF ls i ++ cplT ls i).length ≤ _
    rw [List.length_append]
    have h1 := cplF_len ls i
    have h2 : (cplT ls i).length ≤ ls.length := by
      unfold cplT
      rw [List.length_map]
      refine Nat.le_trans (List.length_filter_le _ _) ?_
      rw [List.length_range]
      exact Nat.le_refl _
    rw [Nat.add_mul, Nat.one_mul]
    omega
def PrI (K : PySem.W.Frag) (H : Hp) (v : V) (x : Nat × Nat) : Prop := ∃ t, v = V.ref t ∧ SqT K H t [.int (x.1 : Int), .int (x.2 : Int)]
theorem PrI.same {K : PySem.W.Frag} {H H' : Hp} {v : V} {x : Nat × Nat} (h : PrI K H v x) (s : Same H H') : PrI K H' v x := by
  obtain ⟨t, e, q⟩ := h
  exact ⟨t, e, WR.Same.seqT s q⟩
theorem PrI.put {K : PySem.W.Frag} {D : Addr} {H : Hp} {ws : List V} {o : HO} {v : V} {x : Nat × Nat} (hD : H D = some (.lst ws)) (h : PrI K H v x) : PrI K (L2.upd H D o) v x := by
  obtain ⟨t, e, q⟩ := h
  exact ⟨t, e, SqT.keptL hD Kept.upd q⟩
def spCpl (K : PySem.W.Frag) : Sp := fun vs H Q _ => ∃ (p : Addr) (ls : List Int), vs = [.ref p] ∧ H p = some (.lst (iv ls)) ∧ ls.length ≤ 30 ∧ ∀ l H' us, H l = none → Same H H' → H' l = some (.lst us) → All2 (PrI K H') us (cplF ls ls.length) → Q (.ref l) H'
abbrev sCpl : Stmt := top 76
abbrev nCpl : List Str := ["_law_letters_here", "_law_found", "_law_one", "_law_letter", "_law_other"]
theorem scCpl : FnScope nCpl ["_law_letters_here"] (defScope sCpl) := ⟨rfl, rfl, rfl, by decide +kernel, rfl, by decide +kernel, by decide +kernel⟩
section
variable {P : Program} {w : World} {K : PySem.W.Frag} {mg : Str → Option Value} {base : Heap} {C CR : Addr}
theorem ok_Swp {f : Addr} {fd : FuncData} (F : Fun K "_law_swapped" "_law_swapped" sSwp f fd) (N : TN mg)   : FnOk P w K mg base CX0 1 f fd ["_law_mates_here", "_law_one", "_law_other"] (spSwp K) := by
  refine F.ok scSwp (fun vs H Q E h => ?_) (fun cdv A outer s H vs Q E hr h => ?_)
  · obtain ⟨m, p, q, n, mt, rfl, _⟩ := h
    rfl
  · obtain ⟨m, p, q, n, mt, rfl, hm, n60, hP, hp, hq, npq, nmp, k⟩ := h
    refine ⟨_, pss_cons (ps_set (i := 3) scSwp.nd rfl (Or.inl rfl) (pe_callTy call_list_of (by rfl) N.list (by decide +kernel) (pa_cons (pv 0) pa_nil)))
      (pss_cons (ps_for PassesOwn.never rfl (pi_enum (by rfl) N.enumerate (pa_cons (pv 0) pa_nil)) (pg_tup (n := 2) rfl (pgs_cons (pg_name (i := 4) scSwp.nd rfl (Or.inl rfl)) (pgs_cons (pg_name (i := 5) scSwp.nd rfl (Or.inl rfl)) pgs_nil)))
      (pss_one (ps_if (pt_cmpR op_in_seq (pv 4) (pe_tupB (pa_cons (pv 1) (pa_cons (pv 2) pa_nil))) (by rfl)) (pss_one (ps_asg (pe_ix ix_list (pv 0) (pe_ifExp (pt_cmpR op_eq (pv 4) (pv 1) (nomark _)) (pv 2) (pv 1)) (fun _ _ => rfl)) (pg_sub (pv 3) (pv 4) set_list))) (pss_one (ps_if (pt_cmpR op_in_seq (pv 5) (pe_tupB (pa_cons (pv 1) (pa_cons (pv 2) pa_nil))) (by rfl)) (pss_one (ps_asg (pe_ifExp (pt_cmpR op_eq (pv 5) (pv 1) (nomark _)) (pv 2) (pv 1)) (pg_sub (pv 3) (pv 4) set_list))) pss_nil)))))
      (pss_one (ps_ret (pe_callTy call_tupB (by rfl) N.tuple (by decide +kernel) (pa_cons (pv 3) pa_nil))))), ?_⟩
    have lm := hP.1.1
    refine ⟨_, rfl, m, _, rfl, .inl (SqL.of hm), fun fo hfo => ?_⟩
    have s1 := same_upd (o := .lst (iv mt)) hfo
    have hm1 := s1 _ _ hm
    have hmf : m ≠ fo := ne_of_none hm hfo
    have gf1 : L2.upd H fo (.lst (iv mt)) fo = some (.lst (iv mt)) := upd_same
    have nmq : mtn mt q ≠ p := fun e => nmp (by rw [← e]; exact (pair_inv hP hq).1)
    have np := (pair_inv hP hp).2
    have nq := (pair_inv hP hq).2
    have lsw := swpF_len mt p q
    refine ⟨_, rfl, m, _, rfl, SqL.of hm1, ?_⟩
    refine for_it (walk_enum (K := K) (a := m) (xs := iv mt)) (fun i σ H' => ∃ (v4 v5 : Option V) (fd : List Int), σ = [some (.ref m), some (.int (p : Int)), some (.int (q : Int)), some (.ref fo), v4, v5] ∧ Same H H' ∧ H' fo = some (.lst (iv fd)) ∧ fd.length = n ∧ (∀ j, j < i → fd[j]? = (swpF mt p q)[j]?) ∧ (∀ j, i ≤ j → fd[j]? = mt[j]?))
      ⟨none, none, mt, rfl, s1, gf1, lm, (fun j hj => absurd hj (Nat.not_lt_zero _)), fun _ _ => rfl⟩ (fun i σ H' _ ⟨_, _, _, _, s, _⟩ => SqL.of (s _ _ hm)) ?_ ?_
    · rintro i x σ H3 H4 hi ⟨v4, v5, fd, rfl, s3, gf3, lfd, hlo, hhi⟩ ⟨T0, xi, yi, rfl, hT0, rfl, hx, hy⟩
      have hin : i < n := by rw [List.length_map, lm] at hi; exact hi
      obtain rfl := Option.some.inj hx
      obtain ⟨mi, gmi, emi⟩ := mtn_at hP.1 hin
      have ey : yi = V.int ((mtn mt i : Nat) : Int) := by
        have hy : (iv mt)[i]? = some yi := hy
        rw [List.getElem?_map, gmi] at hy
        exact (Option.some.inj hy).symm
      subst ey
      have sT := same_upd (o := .tup [.int (i : Int), .int ((mtn mt i : Nat) : Int)]) hT0
      have s4 := s3.trans sT
      have gf4 := sT _ _ gf3
      have gT : L2.upd H3 T0 (.tup [.int (i : Int), .int ((mtn mt i : Nat) : Int)]) T0 = some (.tup [.int (i : Int), .int ((mtn mt i : Nat) : Int)]) := upd_same
      generalize L2.upd H3 T0 (.tup [.int (i : Int), .int ((mtn mt i : Nat) : Int)]) = H4 at s4 gf4 gT ⊢
      refine ⟨T0, _, rfl, SqT.of gT, rfl, _, _, rfl, _, _, rfl, rfl, ?_⟩
      have hsi : i < (swpF mt p q).length := by omega
      have esw : (swpF mt p q)[i]? = some ((Cy.swp p q (mtn mt (Cy.swp p q i)) : Nat) : Int) := by rw [List.getElem?_eq_getElem hsi, swpF_get hsi]
      have in2 : ∀ z : Nat, inV (.int (z : Int)) [.int (p : Int), .int (q : Int)] = (decide (z = p) || decide (z = q)) := fun z => by
        have := inV_nats (p := z) (s := [p, q])
        show inV (.int (z : Int)) (iv (nats [p, q])) = _
        rw [this, Bool.eq_iff_iff, decide_eq_true_iff, Bool.or_eq_true, decide_eq_true_iff, decide_eq_true_iff]
        simp
      have keep : ∀ H5, Same H H5 → H5 fo = some (.lst (iv fd)) → Cy.swp p q (mtn mt (Cy.swp p q i)) = mtn mt i → ∃ (v4 v5 : Option V) (fd' : List Int), ([some (.ref m), some (.int (p : Int)), some (.int (q : Int)), some (.ref fo), some (.int (i : Int)), some (.int ((mtn mt i : Nat) : Int))] : L2.St) = [some (.ref m), some (.int (p : Int)), some (.int (q : Int)), some (.ref fo), v4, v5] ∧ Same H H5 ∧ H5 fo = some (.lst (iv fd')) ∧ fd'.length = n ∧ (∀ j, j < i + 1 → fd'[j]? = (swpF mt p q)[j]?) ∧ (∀ j, i + 1 ≤ j → fd'[j]? = mt[j]?) := fun H5 s5 g5 e => by
        refine ⟨_, _, fd, rfl, s5, g5, lfd, fun j hj => ?_, fun j hj => hhi j (by omega)⟩
        rcases Nat.lt_succ_iff_lt_or_eq.mp hj with hj | rfl
        · exact hlo j hj
        · rw [esw, e, hhi j (Nat.le_refl _), gmi]
      have set : ∀ H5 (z : Nat), Same H H5 → H5 fo = some (.lst (iv fd)) → Cy.swp p q (mtn mt (Cy.swp p q i)) = z → ∃ (v4 v5 : Option V) (fd' : List Int), ([some (.ref m), some (.int (p : Int)), some (.int (q : Int)), some (.ref fo), some (.int (i : Int)), some (.int ((mtn mt i : Nat) : Int))] : L2.St) = [some (.ref m), some (.int (p : Int)), some (.int (q : Int)), some (.ref fo), v4, v5] ∧ Same H (L2.upd H5 fo (.lst ((iv fd).set i (.int (z : Int))))) ∧ L2.upd H5 fo (.lst ((iv fd).set i (.int (z : Int)))) fo = some (.lst (iv fd')) ∧ fd'.length = n ∧ (∀ j, j < i + 1 → fd'[j]? = (swpF mt p q)[j]?) ∧ (∀ j, i + 1 ≤ j → fd'[j]? = mt[j]?) := fun H5 z s5 g5 e => by
        refine ⟨_, _, fd.set i (z : Int), rfl, fun b o eb => ?_, ?_, by rw [List.length_set]; exact lfd, fun j hj => ?_, fun j hj => ?_⟩
        · rw [upd_ne (ne_of_none eb hfo)]
          exact s5 _ _ eb
        · rw [upd_same]
          simp [iv]
        · rw [List.getElem?_set]
          by_cases hji : i = j
          · subst hji
            rw [if_pos rfl, if_pos (by omega), esw, e]
          · rw [if_neg hji]
            exact hlo j (by omega)
        · rw [List.getElem?_set, if_neg (by omega)]
          exact hhi j (by omega)
      refine ⟨_, rfl, _, rfl, _, rfl, by show 2 ≤ sizeLine; decide, fun t H5 s5 B5 => ?_⟩
      have s45 := s4.trans s5
      have g5 := s5 _ _ gf4
      refine ⟨t, _, rfl, .inr B5.sq, rfl, rfl, _, rfl, ?_⟩
      show if (inV (.int (i : Int)) [.int (p : Int), .int (q : Int)]) = true then _ else _
      rw [in2]
      by_cases hip : i = p ∨ i = q
      · refine iteT' (by rw [Bool.or_eq_true, decide_eq_true_iff, decide_eq_true_iff]; exact hip) ?_
        have hat : ∀ z, z < n → atI (iv mt) ((z : Nat) : Int) = some (.int ((mtn mt z : Nat) : Int)) := fun z hz => atI_nat (iv_get (mtn_at hP.1 hz).2.1)
        refine ⟨_, rfl, _, rfl, _, rfl, rfl, _, rfl, ?_⟩
        by_cases h1 : i = p
        · subst h1
          refine iteT' (decide_eq_true rfl) ⟨_, rfl, m, _, _, _, rfl, rfl, SqL.of (s45 _ _ hm), hat q hq, _, rfl, _, rfl, fo, _, _, i, rfl, rfl, g5, Evl.ixN_nat (by rw [List.length_map]; omega), ?_⟩
          exact set _ _ s45 g5 (by rw [Cy.swp_l, Cy.swp_o nmq nq])
        · obtain rfl := hip.resolve_left h1
          refine iteF' (decide_eq_false fun e => h1 (by injection e with e; omega)) ⟨_, rfl, m, _, _, _, rfl, rfl, SqL.of (s45 _ _ hm), hat p hp, _, rfl, _, rfl, fo, _, _, i, rfl, rfl, g5, Evl.ixN_nat (by rw [List.length_map]; omega), ?_⟩
          exact set _ _ s45 g5 (by rw [Cy.swp_r, Cy.swp_o np nmp])
      · refine iteF' (Bool.eq_false_iff.mpr fun e => hip (by rw [Bool.or_eq_true, decide_eq_true_iff, decide_eq_true_iff] at e; exact e)) ?_
        have h1 : i ≠ p := fun e => hip (.inl e)
        have h2 : i ≠ q := fun e => hip (.inr e)
        refine ⟨_, rfl, _, rfl, _, rfl, by show 2 ≤ sizeLine; decide, fun t2 H6 s6 B6 => ?_⟩
        have s46 := s45.trans s6
        have g6 := s6 _ _ g5
        refine ⟨t2, _, rfl, .inr B6.sq, rfl, rfl, _, rfl, ?_⟩
        show if (inV (.int ((mtn mt i : Nat) : Int)) [.int (p : Int), .int (q : Int)]) = true then _ else _
        rw [in2]
        by_cases hmi : mtn mt i = p ∨ mtn mt i = q
        · refine iteT' (by rw [Bool.or_eq_true, decide_eq_true_iff, decide_eq_true_iff]; exact hmi) ?_
          refine ⟨_, rfl, _, rfl, rfl, _, rfl, ?_⟩
          by_cases h3 : mtn mt i = p
          · refine iteT' (decide_eq_true (by rw [h3])) ⟨_, rfl, _, rfl, _, rfl, fo, _, _, i, rfl, rfl, g6, Evl.ixN_nat (by rw [List.length_map]; omega), ?_⟩
            exact set _ _ s46 g6 (by rw [Cy.swp_o h1 h2, h3, Cy.swp_l])
          · have h4 := hmi.resolve_left h3
            refine iteF' (decide_eq_false fun e => h3 (by injection e with e; omega)) ⟨_, rfl, _, rfl, _, rfl, fo, _, _, i, rfl, rfl, g6, Evl.ixN_nat (by rw [List.length_map]; omega), ?_⟩
            exact set _ _ s46 g6 (by rw [Cy.swp_o h1 h2, h4, Cy.swp_r])
        · refine iteF' (Bool.eq_false_iff.mpr fun e => hmi (by rw [Bool.or_eq_true, decide_eq_true_iff, decide_eq_true_iff] at e; exact e)) ?_
          exact keep _ s46 g6 (by rw [Cy.swp_o h1 h2, Cy.swp_o (fun e => hmi (.inl e)) fun e => hmi (.inr e)])
    · rintro σ H3 ⟨v4, v5, fd, rfl, s3, gf3, lfd, hlo, hhi⟩
      rw [List.length_map, lm] at hlo
      have efd : fd = swpF mt p q := by
        refine List.ext_getElem? fun j => ?_
        by_cases hj : j < n
        · exact hlo j hj
        · rw [List.getElem?_eq_none (by omega), List.getElem?_eq_none (by omega)]
      rw [efd] at gf3
      exact ⟨_, rfl, fo, _, rfl, .inl ⟨SqL.of gf3, fun r H5 s5 B5 => k r H5 (s3.trans s5) B5⟩⟩
theorem ok_Cpl {f : Addr} {fd : FuncData} (F : Fun K "_law_couples" "_law_couples" sCpl f fd) (N : TN mg)   : FnOk P w K mg base CX0 1 f fd ["_law_letters_here"] (spCpl K) := by
  refine F.ok scCpl (fun vs H Q E h => ?_) (fun cdv A outer s H vs Q E hr h => ?_)
  · obtain ⟨p, ls, rfl, _⟩ := h
    rfl
  · obtain ⟨p, ls, rfl, hp, l30, k⟩ := h
    refine ⟨_, pss_cons (ps_set (i := 1) scCpl.nd rfl (Or.inl rfl) (pe_lst pa_nil))
      (pss_cons (ps_for PassesOwn.never rfl (pi_enum (by rfl) N.enumerate (pa_cons (pv 0) pa_nil)) (pg_tup (n := 2) rfl (pgs_cons (pg_name (i := 2) scCpl.nd rfl (Or.inr rfl)) (pgs_cons (pg_name (i := 3) scCpl.nd rfl (Or.inr rfl)) pgs_nil)))
      (pss_one (ps_set (i := 1) scCpl.nd rfl (Or.inl rfl) (pe_op op_cat (pv 1) (pe_lc (own := [("_law_other", 4)]) (g := gName 4) rfl scCpl.nd (pi_range1 (by rfl) N.range (pa_cons (pe_callB call_len_seq (by rfl) N.len PySem.boot_len (pa_cons (pv 0) pa_nil)) pa_nil)) (blkOk_by (N := nCpl) (sc := defScope sCpl) (by decide +kernel)) (fun _ _ _ _ _ => (pg_name (i := 4) scCpl.nd rfl (Or.inl rfl))) (fun _ _ _ _ _ => (pts_one (PW.pt (pw_and (pt_cmpR op_ne (pv 2) (pv 4) (nomark _)) (pw_and1 (pt_cmpR op_eq (pe_ix (ixl (K := K) rfl) (pv 0) (pv 4) (fun _ _ => rfl)) (pv 3) (nomark _))))))) (fun _ _ _ _ _ => (pe_tup (pa_cons (pv 2) (pa_cons (pv 4) pa_nil)))))))))
      (pss_one (ps_ret (pv 1)))), ?_⟩
    refine ⟨Nat.zero_le _, fun fo hfo => ?_⟩
    have s1 := same_upd (o := .lst []) hfo
    refine ⟨_, rfl, p, _, rfl, SqL.of (s1 _ _ hp), ?_⟩
    refine for_it (walk_enum (K := K) (a := p) (xs := iv ls)) (fun i σ H' => ∃ (v2 v3 : Option V) (l : Addr) (us : List V), σ = [some (.ref p), some (.ref l), v2, v3, none] ∧ Same H H' ∧ H l = none ∧ H' l = some (.lst us) ∧ All2 (PrI K H') us (cplF ls i))
      ⟨none, none, fo, [], rfl, s1, hfo, upd_same, .nil⟩ (fun i σ H' _ ⟨_, _, _, _, _, s, _⟩ => SqL.of (s _ _ hp)) ?_ ?_
    · rintro i x σ H3 H4 hi ⟨v2, v3, l, us, rfl, s3, hl0, gl3, hu⟩ ⟨T0, xi, yi, rfl, hT0, rfl, hx, hy⟩
      have hin : i < ls.length := by rw [List.length_map] at hi; exact hi
      obtain rfl := Option.some.inj hx
      have ey : yi = V.int (ls.getD i 0) := by
        have hy : (iv ls)[i]? = some yi := hy
        rw [List.getElem?_map, List.getElem?_eq_getElem hin] at hy
        rw [getD_lt hin]
        exact (Option.some.inj hy).symm
      subst ey
      have sT := same_upd (o := .tup [.int (i : Int), .int (ls.getD i 0)]) hT0
      have s4 := s3.trans sT
      have gl4 := sT _ _ gl3
      have hu4 := hu.imp fun _ _ r => PrI.same r sT
      have gT : L2.upd H3 T0 (.tup [.int (i : Int), .int (ls.getD i 0)]) T0 = some (.tup [.int (i : Int), .int (ls.getD i 0)]) := upd_same
      generalize L2.upd H3 T0 (.tup [.int (i : Int), .int (ls.getD i 0)]) = H4 at s4 gl4 hu4 gT ⊢
      refine ⟨T0, _, rfl, SqT.of gT, rfl, _, _, rfl, _, _, rfl, rfl, ?_⟩
      refine cat_lc ?_
      refine ⟨_, rfl, _, rfl, p, _, rfl, .inl (SqL.of (s4 _ _ hp)), _, rfl, by rw [List.length_map]; omega, by rw [List.length_map]; omega, ?_⟩
      rw [List.length_map, Int.toNat_natCast]
      refine lcRM (fun q => decide (i ≠ q) && decide (ls.getD q 0 = ls.getD i 0)) (fun H v q => PrI K H v (i, q)) (fun _ _ _ _ h s => h.same s) (fun _ _ _ _ _ _ hD h => h.put hD) (by omega) ?_ ?_
      · intro q hq H5 s5 Qy Qn ky kn
        have hp5 := s5 _ _ (s4 _ _ hp)
        refine ⟨rfl, _, rfl, _, rfl, rfl, _, rfl, ?_⟩
        by_cases h1 : i = q
        · refine iteF' (by
            subst h1
            show (!decide (V.int (i : Int) = V.int (i : Int))) = false
            rw [decide_eq_true rfl]
            rfl) (iteF (kn ?_ H5 (Same.refl _)))
          rw [decide_eq_false (fun h => h h1)]
          rfl
        · refine iteT' (by
            show (!decide (V.int (i : Int) = V.int (q : Int))) = true
            rw [decide_eq_false fun e => h1 (by injection e with e; omega)]
            rfl) ?_
          refine ⟨_, rfl, _, rfl, p, _, _, _, rfl, rfl, SqL.of hp5, atI_nat (iv_get (List.getElem?_eq_getElem hq)), _, rfl, rfl, _, rfl, ?_⟩
          by_cases h2 : ls.getD q 0 = ls.getD i 0
          · refine iteT' (decide_eq_true (by rw [← h2, getD_lt hq])) ?_
            refine ⟨_, rfl, _, rfl, by show 2 ≤ sizeLine; decide, fun t ht => ky ?_ _ _ (same_upd ht) ⟨t, rfl, SqT.of upd_same⟩⟩
            rw [decide_eq_true h1, decide_eq_true h2]
            rfl
          · refine iteF' (decide_eq_false fun e => h2 (by injection e with e; rw [getD_lt hq, e])) ?_
            refine kn ?_ H5 (Same.refl _)
            rw [decide_eq_false h2, Bool.and_false]
      intro D H5 ws hD s5 gD hw
      have gl5 := s5 _ _ gl4
      have hwm : All2 (PrI K H5) ws (cplT ls i) := by
        unfold cplT
        have : ∀ {vs : List V} {qs : List Nat}, All2 (fun v q => PrI K H5 v (i, q)) vs qs → All2 (PrI K H5) vs (qs.map fun q => (i, q)) := by
          intro vs qs h
          induction h with
          | nil => exact .nil
          | cons h1 _ ih => exact .cons h1 ih
        exact this hw
      have lcp := cplF_len ls (i + 1)
      have ltot : us.length + ws.length ≤ 900 := by
        rw [hu.length, hwm.length]
        have : (cplF ls (i + 1)).length = (cplF ls i).length + (cplT ls i).length := List.length_append
        rw [← this]
        refine Nat.le_trans lcp ?_
        exact Nat.mul_le_mul (show i + 1 ≤ 30 by omega) (show ls.length ≤ 30 from l30)
      refine ⟨l, D, _, _, rfl, rfl, gl5, gD, Evl.sz_of (by omega), fun r hr2 => ?_⟩
      have s6 := same_upd (o := .lst (us ++ ws)) hr2
      refine ⟨_, _, r, us ++ ws, rfl, (s4.trans s5).trans s6, (s4.trans s5).free hr2, upd_same, ?_⟩
      exact All2.app (hu4.imp fun _ _ r => (r.same s5).same s6) (hwm.imp fun _ _ r => r.same s6)
    · rintro σ H3 ⟨v2, v3, l, us, rfl, s3, hl0, gl3, hu⟩
      rw [List.length_map] at hu
      exact ⟨_, rfl, k l H3 us hl0 s3 gl3 hu⟩
end
end W14
set_option Elab.async false
set_option linter.all false
set_option maxRecDepth 100000
set_option maxHeartbeats 600000
/-! C.m(..), m a plain def of the class C. -/
namespace CF
open PySem L2 PySem.Spec PyProof.Rows
/-- m is a def in C's body: it stands at g -/
structure CFn (K : PySem.W.Frag) (C : Addr) (mc : Value) (m : Str) (g : Addr) : Prop where
  rd : PySem.W.readsIn K C mc = true
  ga : PySem.W.specialIn K (.ref C) "__getattribute__" = some (some (.builtin "type.__getattribute__"))
  at_ : PySem.W.findCls K (.ref C) mc m = some (.val (.ref g))
  kp : PySem.W.keepIn K (.ref g) = true
section
variable {X : Cx} {k j : Nat} {C : Addr} {sp : Sp} {ps : List Str} {o e : Expr} {es : List Expr} {m : Str} {pos apos : Pos} {ta : TE} {t : TA} {pl : Sem Bool} {fd : FuncData} {g : Addr} {mc : Value}
theorem pe_cfn (he : PE X o ta) (c : CFn X.K C mc m g) (F : FnOk X.prog X.w X.K X.mg X.base CX0 k g fd ps sp) (hr : Room k X.A) (hb : Binds X.K fd ps []) (ha : PA X (e :: es) t)
    (hst : starEach (e :: es) X.env = (false, eval e X.env) :: starEach es X.env := by rfl) (hpl : (backTo pos (starEach es X.env)).any (·.1) = false := by rfl)
    (ht : eval (.Call (.Attribute o m apos) (e :: es) [] pos) X.env = (do
      let ov ← eval o X.env
      standAt apos.atName
      let (f, first) ← holding [ov] (getMethod ov m pl)
      callWith pos f first (backTo pos (starEach (e :: es) X.env)) (backToKw pos (keywordEach [] X.env))) := by rfl) :
    PE X (.Call (.Attribute o m apos) (e :: es) [] pos) (MStat.tSMeth C sp ta t) := by
  refine ⟨fun pins s σ H Q I h => ?_⟩
  refine PySem.W.methodCall_KW (pl := pl) (thn (he.run pins s σ H _ I h) fun u s1 ⟨x, H1, I1, rx, ex, q⟩ => ?_) ht
  subst ex
  obtain rfl : u = Value.ref C := rx
  refine PySem.W.method_cls I1.kIn c.ga (PySem.W.cls_value I1.kIn c.rd c.at_ (handed_of (v := V.ref g) rfl) ?_)
  have I2 := I1.tok (t := s1.toks + 1)
  refine PySem.W.callWith_K (first := []) (h₀ := X.base) I2.ok.mod.kin c.kp (thn (ha.run pos pins _ σ H1 _ I2 q) fun us s3 ⟨vs, H2, I3, rv, q2⟩ => ⟨I3.kIn, ?_⟩) hst hpl
  exact run_fn (us := us) (vs := vs) (dvs := []) (ds := []) F hr hb .nil pass0 I3 rv (by simpa using q2)
end
end CF
namespace W14
open PySem L2 PySem.Spec PyProof.Rows WR WB WE WS
/-! ### errors with one field -/
def spI1 (fl : Str) (C : Addr) : Sp := fun vs H Q _ => ∃ (a : Addr) (v : V), vs = [.ref a, v] ∧ H a = some (exo a C none) ∧ ∀ dx, H dx = none → dx ≠ a → Q .non (L2.upd (L2.upd H dx (exd dx [(fl, v)])) a (exo a C (some dx)))
structure ErrC (P : Program) (w : World) (K : PySem.W.Frag) (mg : Str → Option Value) (base : Heap) (C : Addr) (x : Str) (ps : List Str) (sp : Sp) : Prop where
  oex : OexC K C
  ini : ∃ (fI : Addr) (fd : FuncData), PySem.W.findIn K (.ref C) "__init__" = some (some (.ref fI)) ∧ PySem.W.typeIn K (.ref fI) = some (.type "function") ∧ FnOk P w K mg base CX0 2 fI fd ps sp ∧ Binds K fd ps []
  g : mg x = some (.ref C)
  xf : XfC K C
  te : PySem.W.exmOne K (.ref C) (.ref C) = some true
abbrev sInitBS : Stmt := inClass (top 5) 0
abbrev nInitBS : List Str := ["self", "part"]
theorem scInitBS : FnScope nInitBS ["self", "part"] (defScope sInitBS) := ⟨rfl, rfl, rfl, by decide +kernel, rfl, by decide +kernel, by decide +kernel⟩
abbrev sInitMF : Stmt := inClass (top 6) 0
abbrev nInitMF : List Str := ["self", "part"]
theorem scInitMF : FnScope nInitMF ["self", "part"] (defScope sInitMF) := ⟨rfl, rfl, rfl, by decide +kernel, rfl, by decide +kernel, by decide +kernel⟩
abbrev sInitTw : Stmt := inClass (top 9) 0
abbrev nInitTw : List Str := ["self", "value"]
theorem scInitTw : FnScope nInitTw ["self", "value"] (defScope sInitTw) := ⟨rfl, rfl, rfl, by decide +kernel, rfl, by decide +kernel, by decide +kernel⟩
abbrev sInitMi : Stmt := inClass (top 7) 0
abbrev nInitMi : List Str := ["self", "value"]
theorem scInitMi : FnScope nInitMi ["self", "value"] (defScope sInitMi) := ⟨rfl, rfl, rfl, by decide +kernel, rfl, by decide +kernel, by decide +kernel⟩
abbrev sInitNP : Stmt := inClass (top 8) 0
abbrev nInitNP : List Str := ["self", "value"]
theorem scInitNP : FnScope nInitNP ["self", "value"] (defScope sInitNP) := ⟨rfl, rfl, rfl, by decide +kernel, rfl, by decide +kernel, by decide +kernel⟩
section
variable {P : Program} {w : World} {K : PySem.W.Frag} {mg : Str → Option Value} {base : Heap}
theorem ok_initBS {C f : Addr} {fd : FuncData} (F : Fun K "__init__" "BadSewing.__init__" sInitBS f fd) (O : OexC K C) (n1 : PySem.W.findIn K (.ref C) "part" = some none) : FnOk P w K mg base CX0 1 f fd ["self", "part"] (spI1 "part" C) := by
  refine F.ok scInitBS (fun vs H Q E h => ?_) (fun cdv A outer s H vs Q E hr h => ?_)
  · obtain ⟨a, v, rfl, _⟩ := h
    rfl
  · obtain ⟨a, v, rfl, hA, k⟩ := h
    refine ⟨_, pss_one (ps_ost (pv 0) (pv 1)), ?_⟩
    exact ⟨_, rfl, _, rfl, a, C, rfl, O, n1, .inl ⟨hA, fun dx h1 h2 => k dx h1 h2⟩⟩
theorem ok_initMF {C f : Addr} {fd : FuncData} (F : Fun K "__init__" "Misfit.__init__" sInitMF f fd) (O : OexC K C) (n1 : PySem.W.findIn K (.ref C) "part" = some none) : FnOk P w K mg base CX0 1 f fd ["self", "part"] (spI1 "part" C) := by
  refine F.ok scInitMF (fun vs H Q E h => ?_) (fun cdv A outer s H vs Q E hr h => ?_)
  · obtain ⟨a, v, rfl, _⟩ := h
    rfl
  · obtain ⟨a, v, rfl, hA, k⟩ := h
    refine ⟨_, pss_one (ps_ost (pv 0) (pv 1)), ?_⟩
    exact ⟨_, rfl, _, rfl, a, C, rfl, O, n1, .inl ⟨hA, fun dx h1 h2 => k dx h1 h2⟩⟩
theorem ok_initTw {C f : Addr} {fd : FuncData} (F : Fun K "__init__" "Twice.__init__" sInitTw f fd) (O : OexC K C) (n1 : PySem.W.findIn K (.ref C) "value" = some none) : FnOk P w K mg base CX0 1 f fd ["self", "value"] (spI1 "value" C) := by
  refine F.ok scInitTw (fun vs H Q E h => ?_) (fun cdv A outer s H vs Q E hr h => ?_)
  · obtain ⟨a, v, rfl, _⟩ := h
    rfl
  · obtain ⟨a, v, rfl, hA, k⟩ := h
    refine ⟨_, pss_one (ps_ost (pv 0) (pv 1)), ?_⟩
    exact ⟨_, rfl, _, rfl, a, C, rfl, O, n1, .inl ⟨hA, fun dx h1 h2 => k dx h1 h2⟩⟩
theorem ok_initMi {C f : Addr} {fd : FuncData} (F : Fun K "__init__" "Missing.__init__" sInitMi f fd) (O : OexC K C) (n1 : PySem.W.findIn K (.ref C) "value" = some none) : FnOk P w K mg base CX0 1 f fd ["self", "value"] (spI1 "value" C) := by
  refine F.ok scInitMi (fun vs H Q E h => ?_) (fun cdv A outer s H vs Q E hr h => ?_)
  · obtain ⟨a, v, rfl, _⟩ := h
    rfl
  · obtain ⟨a, v, rfl, hA, k⟩ := h
    refine ⟨_, pss_one (ps_ost (pv 0) (pv 1)), ?_⟩
    exact ⟨_, rfl, _, rfl, a, C, rfl, O, n1, .inl ⟨hA, fun dx h1 h2 => k dx h1 h2⟩⟩
/-- NoPlace's own __init__ calls that of Missing -/
theorem ok_initNP {C CM g f : Addr} {mc : Value} {fd fdm : FuncData} (F : Fun K "__init__" "NoPlace.__init__" sInitNP f fd) (hM : mg "Missing" = some (.ref CM)) (c : CF.CFn K CM mc "__init__" g) (FM : FnOk P w K mg base CX0 1 g fdm ["self", "value"] (spI1 "value" C)) (bM : Binds K fdm ["self", "value"] []) : FnOk P w K mg base CX0 2 f fd ["self", "value"] (spI1 "value" C) := by
  refine F.ok scInitNP (fun vs H Q E h => ?_) (fun cdv A outer s H vs Q E hr h => ?_)
  · obtain ⟨a, v, rfl, _⟩ := h
    rfl
  · obtain ⟨a, v, rfl, hA, k⟩ := h
    refine ⟨_, pss_one (ps_expr (CF.pe_cfn (pe_glob (v := .ref CM) (by rfl) hM rfl) c FM hr bM (pa_cons (pv 0) (pa_cons (pv 1) pa_nil)))), ?_⟩
    exact ⟨rfl, _, rfl, _, rfl, a, v, rfl, hA, fun dx h1 h2 => k dx h1 h2⟩
end
theorem heap1 {H : Hp} {a d : Addr} {e1 e2 e3 o : HO} (ha : H a = none) (hd : d ≠ a) : L2.upd (del (L2.upd (L2.upd (L2.upd H a e1) d e2) a e3) a) d o = L2.upd H d o := by
  funext b
  by_cases h1 : b = d
  · subst h1
    rw [upd_same, upd_same]
  · rw [upd_ne h1, upd_ne h1]
    by_cases h2 : b = a
    · subst h2
      rw [del_same, ha]
    · rw [del_ne h2, upd_ne h2, upd_ne h1, upd_ne h2]
theorem mk1 {fl : Str} {C : Addr} {H : Hp} {v : V} {Q : XK} (k : ∀ d, H d = none → Q (.ref C) (some d) (L2.upd H d (.xd [(fl, v)]))) : ∀ a, H a = none → spI1 fl C [.ref a, v] (L2.upd H a (exo a C none))
    (fun z H2 => z = .non ∧ ∃ (d : Addr) (fs : List (Str × V)), H2 a = some (exo a C (some d)) ∧ H2 d = some (exd d fs) ∧ H d = none ∧ Q (.ref C) (some d) (L2.upd (del H2 a) d (.xd fs))) (fun _ _ _ => False) := by
  intro a ha
  refine ⟨a, v, rfl, upd_same, fun dx h1 h2 => ⟨rfl, dx, _, upd_same, by rw [upd_ne h2, upd_same], by rw [upd_ne h2] at h1; exact h1, ?_⟩⟩
  rw [heap1 ha h2]
  exact k dx (by rw [upd_ne h2] at h1; exact h1)
/-- an error of the class C with this field -/
abbrev Bad (fl : Str) (C : Addr) (E : XK) (H : Hp) (v : V) : Prop := ∀ H1, Same H H1 → ∀ d, H1 d = none → E (.ref C) (some d) (L2.upd H1 d (.xd [(fl, v)]))
structure CalX (P : Program) (w : World) (K : PySem.W.Frag) (mg : Str → Option Value) (base : Heap) (x : Str) (k : Nat) (ps : List Str) (sp : Sp) : Prop where
  ex : ∃ (f : Addr) (fd : FuncData), FnOk P w K mg base (L2.CX P w) k f fd ps sp ∧ mg x = some (.ref f) ∧ PySem.W.keepIn K (.ref f) = true ∧ Binds K fd ps []
section
variable {X : Cx} {x : Str} {k j : Nat} {ps : List Str} {sp : Sp} {p pos : Pos} {e : Expr} {es : List Expr} {t : TA} {E : XK}
theorem pe_calX (C : CalX X.prog X.w X.K X.mg X.base x k ps sp) (hr : Room j X.A) (hkj : k ≤ j) (hx : Passes (L2.CX X.prog X.w) X E) (hg : Gl X x) (ha : PA X (e :: es) t) (hdb : (x == ("__debug__" : Str)) = false := by decide)
    (he : starEach (e :: es) X.env = (false, eval e X.env) :: starEach es X.env := by rfl) (hpl : (backTo pos (starEach es X.env)).any (·.1) = false := by rfl) :
    PE X (.Call (.Name x p) (e :: es) [] pos) (tCall sp [] E t) := by
  obtain ⟨f, fd, F, hm, hk, hb⟩ := C.ex
  exact pe_call F (hr.mono hkj) hg hm hk hb .nil hx ha hdb he hpl
theorem passF : Passes (L2.CX X.prog X.w) X (fun _ _ _ => False) := fun pins σ H s e s' I c => by
  obtain ⟨a, B, H', cls, d, rfl, fl, hok, ub, na, os, ag, hE⟩ := c
  exact hE.elim
end
end W14
set_option Elab.async false
set_option linter.all false
set_option maxRecDepth 100000
set_option maxHeartbeats 600000
namespace W14
open PySem L2 PySem.Spec PyProof.Rows WR WB WE WS
structure MkS (P : Program) (w : World) (K : PySem.W.Frag) (mg : Str → Option Value) (base : Heap) (C CR CS : Addr) : Prop where
  ex : ∃ (f : Addr) (fd : FuncData), Mk K CS f ∧ FnOk P w K mg base CX0 5 f fd ["self", "rims", "mates"] (spInitS K C CR CS) ∧ Binds K fd ["self", "rims", "mates"] []
theorem pe_sewK {X : Cx} {C CR CS : Addr} {p pos : Pos} {e : Expr} {es : List Expr} {t : TA} {j : Nat} {K : PySem.W.Frag} (hK : X.K = K) (M : MkS X.prog X.w K X.mg X.base C CR CS) (T : TxSC K X.mg CS) (hr : Room j X.A) (hkj : 6 ≤ j) (hg : Gl X "Sewing") (ha : PA X (e :: es) t)
    (he : starEach (e :: es) X.env = (false, eval e X.env) :: starEach es X.env := by rfl) (hpl : (backTo pos (starEach es X.env)).any (·.1) = false := by rfl) :
    PE X (.Call (.Name "Sewing" p) (e :: es) [] pos) (tMake CS (spInitS K C CR CS) [] E0 t) := by
  subst hK
  obtain ⟨f, fd, M, F, hb⟩ := M.ex
  exact pe_make M F (hr.mono hkj) hg T.mgS hb .nil pass0 ha (by decide) he hpl
theorem sew_at {K : PySem.W.Frag} {C CR CS : Addr} {H1 : Hp} {rp m x dx : Addr} {xs : List Addr} {ws : List (List Int)} {mt : List Int} {G : Hp → Prop} {E : XK} (nx : H1 x = none) (ndx : H1 dx = none) (R1 : RimsAt K C CR H1 rp xs ws) (ok : RimOk ws) (hm : SqW K H1 m (iv mt)) (mk : MatOk ws.flatten mt)
    (k : ∀ H', Same H1 H' → SewAt K C CR CS H' x rp xs ws mt → G H') : spInitS K C CR CS [.ref x, .ref rp, .ref m] (L2.upd (L2.upd H1 dx (.own x)) x (.ins CS dx [])) (fun v H2 => v = .non ∧ G H2) E := by
  have s0 : Same H1 (L2.upd (L2.upd H1 dx (.own x)) x (.ins CS dx [])) := fun b o e => by
    rw [upd_ne (ne_of_none e nx), upd_ne (ne_of_none e ndx)]
    exact e
  exact ⟨H1, x, dx, rp, m, xs, ws, mt, rfl, s0, nx, upd_same, R1, ok, hm, mk, fun H' s' W' => ⟨rfl, k H' s' W'⟩⟩
theorem SewAt.put {K : PySem.W.Frag} {C CR CS : Addr} {H : Hp} {D p rp : Addr} {xs : List Addr} {ws : List (List Int)} {mt : List Int} {us : List V} {o : HO} (h : SewAt K C CR CS H p rp xs ws mt) (hD : H D = some (.lst us)) : SewAt K C CR CS (L2.upd H D o) p rp xs ws mt := by
  have kB : ∀ {a ys}, SqB K H a ys → SqB K (L2.upd H D o) a ys := fun h => SqB.keptL hD Kept.upd h
  have kI : ∀ {a C dx fs}, H a = some (.ins C dx fs) → L2.upd H D o a = some (.ins C dx fs) := fun {a C dx fs} e => by
    rw [upd_ne (fun z => by rw [z, hD] at e; cases e)]
    exact e
  have kC : ∀ {a cs}, CornAt K H a cs → CornAt K (L2.upd H D o) a cs := fun ⟨vs, h1, h2⟩ => ⟨vs, kB h1, h2.imp fun _ _ ⟨q, e, r⟩ => ⟨q, e, kB r⟩⟩
  obtain ⟨dx, tm, tc, tp, h1, ⟨d2, tw, tl, th, tn, r1, r2, r3, r4, r5, r6⟩, h3, h4, h5⟩ := h
  refine ⟨dx, tm, tc, tp, kI h1, ⟨d2, tw, tl, th, tn, kI r1, kB r2, r3.imp fun a ns wa => ?_, kB r4, kB r5, kB r6⟩, kB h3, kC h4, kC h5⟩
  obtain ⟨dx, tl, tk, ks, w1, w2, w3, w4⟩ := wa
  exact ⟨dx, tl, tk, ks, kI w1, kB w2, SqT.keptL hD Kept.upd w3, w4⟩

/-! ### what is no sewing, no place; exchanged -/
/-- not of the class D -/
def NotC (K : PySem.W.Frag) (D : Addr) (H : Hp) (x : V) : Prop := ∃ tv, TyX K H x tv ∧ PySem.W.kitOne K tv (.ref D) = some false
def SewV (K : PySem.W.Frag) (C CR CS : Addr) (H : Hp) (x : V) : Prop := ∃ p rp xs ws mt, x = V.ref p ∧ SewAt K C CR CS H p rp xs ws mt
theorem SewAt.tyx {K : PySem.W.Frag} {C CR CS : Addr} {H : Hp} {p rp : Addr} {xs : List Addr} {ws : List (List Int)} {mt : List Int} {mg : Str → Option Value} (h : SewAt K C CR CS H p rp xs ws mt) (T : TxW K mg C) (TS : TxSC K mg CS) : TyX K H (.ref p) (.ref CS) := by
  obtain ⟨dx, tm, tc, tp, h1, _⟩ := h
  exact .base (.ins h1 TS.cl TS.ca T.cn T.ct TS.cm)
def spNeedS (K : PySem.W.Frag) (C CR CS CBS : Addr) : Sp := fun vs H Q E => ∃ x part : V, vs = [x, part] ∧ ((NotC K CS H x ∧ Bad "part" CBS E H part) ∨ (SewV K C CR CS H x ∧ Q .non H))
abbrev sNeedS : Stmt := top 54
abbrev nNeedS : List Str := ["value", "part"]
theorem scNeedS : FnScope nNeedS ["value", "part"] (defScope sNeedS) := ⟨rfl, rfl, rfl, by decide +kernel, rfl, by decide +kernel, by decide +kernel⟩
/-- a place of n ones -/
def plB (x : V) (n : Nat) : Bool := within x (.int 0) (.int ((n : Int) - 1))
theorem plB_yes {x : V} {n : Nat} (h : plB x n = true) : ∃ k : Nat, x = .int (k : Int) ∧ k < n := by
  unfold plB at h
  cases x with
  | int i =>
    have h : (geB i (.int 0) && leB i (.int ((n : Int) - 1))) = true := h
    rw [Bool.and_eq_true] at h
    have h1 := of_decide_eq_true (show decide ((0 : Int) ≤ i) = true from h.1)
    have h2 := of_decide_eq_true (show decide (i ≤ (n : Int) - 1) = true from h.2)
    exact ⟨i.toNat, by rw [Int.toNat_of_nonneg h1], by omega⟩
  | _ => cases h
theorem plB_nat {k n : Nat} (h : k < n) : plB (.int (k : Int)) n = true := by
  show (decide ((0 : Int) ≤ k) && decide ((k : Int) ≤ (n : Int) - 1)) = true
  rw [decide_eq_true (show (0 : Int) ≤ k by omega), decide_eq_true (show (k : Int) ≤ (n : Int) - 1 by omega)]
  rfl
def spNeedPX (K : PySem.W.Frag) (C CR CNP : Addr) : Sp := fun vs H Q E => ∃ (p : Addr) (x : V) (t : String) (xs : List Addr) (ws : List (List Int)), vs = [.ref p, x] ∧ RimsAt K C CR H p xs ws ∧ Typ H x t ∧ (plB x ws.flatten.length = false → Bad "value" CNP E H x) ∧ (plB x ws.flatten.length = true → Q .non H)
abbrev sNeedPX : Stmt := top 48
abbrev nNeedPX : List Str := ["rims", "value"]
theorem scNeedPX : FnScope nNeedPX ["rims", "value"] (defScope sNeedPX) := ⟨rfl, rfl, rfl, by decide +kernel, rfl, by decide +kernel, by decide +kernel⟩
def spMex (K : PySem.W.Frag) : Sp := fun vs H Q _ => ∃ (m : Addr) (a b n : Nat) (mt : List Int), vs = [.ref m, .int (a : Int), .int (b : Int)] ∧ SqB K H m (iv mt) ∧ n ≤ 60 ∧ PairOk n mt ∧ a < n ∧ b < n ∧ a ≠ b ∧ mtn mt a ≠ b ∧ ∀ l H', H l = none → Same H H' → H' l = some (.lst (iv (swpF mt a b))) → Q (.ref l) H'
abbrev sMex : Stmt := top 60
abbrev nMex : List Str := ["mates", "place", "other", "changed"]
theorem scMex : FnScope nMex ["mates", "place", "other"] (defScope sMex) := ⟨rfl, rfl, rfl, by decide +kernel, rfl, by decide +kernel, by decide +kernel⟩
theorem mex_eq {n : Nat} {mt : List Int} (hP : PairOk n mt) {p q : Nat} (hp : p < n) (hq : q < n) (npq : p ≠ q) (nmp : mtn mt p ≠ q) :
    (((mt.set p ((mtn mt q : Nat) : Int)).set q ((mtn mt p : Nat) : Int)).set (mtn mt p) ((q : Nat) : Int)).set (mtn mt q) ((p : Nat) : Int) = swpF mt p q := by
  have lm := hP.1.1
  have lsw := swpF_len mt p q
  have nmq : mtn mt q ≠ p := fun e => nmp (by rw [← e]; exact (pair_inv hP hq).1)
  have np := (pair_inv hP hp).2
  have nq := (pair_inv hP hq).2
  have ip := (pair_inv hP hp).1
  have iq := (pair_inv hP hq).1
  have a1 := (mtn_at hP.1 hp).1
  have b1 := (mtn_at hP.1 hq).1
  refine List.ext_getElem? fun i => ?_
  rw [List.getElem?_set, List.getElem?_set, List.getElem?_set, List.getElem?_set]
  simp only [List.length_set]
  by_cases hi : i < n
  · have hsi : i < (swpF mt p q).length := by omega
    rw [List.getElem?_eq_getElem hsi, swpF_get hsi]
    by_cases h1 : mtn mt q = i
    · rw [if_pos h1, if_pos (by omega), ← h1, Cy.swp_o nmq nq, iq, Cy.swp_r]
    · rw [if_neg h1]
      by_cases h2 : mtn mt p = i
      · rw [if_pos h2, if_pos (by omega), ← h2, Cy.swp_o np nmp, ip, Cy.swp_l]
      · rw [if_neg h2]
        by_cases h3 : q = i
        · rw [if_pos h3, if_pos (by omega), ← h3, Cy.swp_r, Cy.swp_o np nmp]
        · rw [if_neg h3]
          by_cases h4 : p = i
          · rw [if_pos h4, if_pos (by omega), ← h4, Cy.swp_l, Cy.swp_o nmq nq]
          · rw [if_neg h4, Cy.swp_o (fun e => h4 e.symm) (fun e => h3 e.symm), (mtn_at hP.1 hi).2.1, Cy.swp_o]
            · intro e
              exact h2 (by rw [← e, (pair_inv hP hi).1])
            · intro e
              exact h1 (by rw [← e, (pair_inv hP hi).1])
  · rw [if_neg (by omega), if_neg (by omega), if_neg (by omega), if_neg (by omega), List.getElem?_eq_none (by omega), List.getElem?_eq_none (by omega)]
/-- what exchanging comes to -/
def spExch (K : PySem.W.Frag) (C CR CS CBS CNP CTw CMF : Addr) : Sp := fun vs H Q E => ∃ x pl ot : V, vs = [x, pl, ot] ∧ ((NotC K CS H x ∧ Bad "part" CBS E H (.str "sewing")) ∨
  ∃ (p rp : Addr) (xs : List Addr) (ws : List (List Int)) (mt : List Int) (t1 t2 : String), x = .ref p ∧ SewAt K C CR CS H p rp xs ws mt ∧ RimOk ws ∧ MatOk ws.flatten mt ∧ Typ H pl t1 ∧ Typ H ot t2 ∧
    ((plB pl ws.flatten.length = false ∧ Bad "value" CNP E H pl) ∨ (plB pl ws.flatten.length = true ∧ plB ot ws.flatten.length = false ∧ Bad "value" CNP E H ot) ∨
      ∃ a b : Nat, pl = .int (a : Int) ∧ ot = .int (b : Int) ∧ a < ws.flatten.length ∧ b < ws.flatten.length ∧ ((a = b ∧ Bad "value" CTw E H (.int (b : Int))) ∨ (a ≠ b ∧ ws.flatten.getD a 0 ≠ ws.flatten.getD b 0 ∧ Bad "part" CMF E H (.str "letters")) ∨
        (a ≠ b ∧ ws.flatten.getD a 0 = ws.flatten.getD b 0 ∧ ∀ q H', Same H H' → SewAt K C CR CS H' q rp xs ws (swpF mt a b) → Q (.ref q) H'))))
abbrev sExch : Stmt := top 61
abbrev nExch : List Str := ["sewing", "place", "other"]
theorem scExch : FnScope nExch ["sewing", "place", "other"] (defScope sExch) := ⟨rfl, rfl, rfl, by decide +kernel, rfl, by decide +kernel, by decide +kernel⟩
section
variable {P : Program} {w : World} {K : PySem.W.Frag} {mg : Str → Option Value} {base : Heap} {C CR CS CBS CNP CTw CMF : Addr}
theorem ok_NeedS {f : Addr} {fd : FuncData} (F : Fun K "need_sewing" "need_sewing" sNeedS f fd) (N : TN mg) (T : TxW K mg C) (TS : TxSC K mg CS) (BS : ErrC P w K mg base CBS "BadSewing" ["self", "part"] (spI1 "part" CBS))  : FnOk P w K mg base (L2.CX P w) 4 f fd ["value", "part"] (spNeedS K C CR CS CBS) := by
  refine F.okX scNeedS (fun vs H Q E h => ?_) (fun cdv A outer s H vs Q E hr h => ?_)
  · obtain ⟨x, part, rfl, _⟩ := h
    rfl
  · obtain ⟨x, part, rfl, h⟩ := h
    obtain ⟨fBS, fdBS, iBS, tBS, FBS, bBS⟩ := BS.ini
    refine ⟨_, pss_one (ps_if (pt_not (pt_val (pe_callB call_isi (by rfl) N.isinstance (by decide +kernel) (pa_cons (pv 0) (pa_cons (pe_glob (v := .ref CS) (by rfl) TS.mgS rfl) pa_nil))))) (pss_one (ps_raise rfl (takes_of rfl rfl rfl rfl) (pmk_oex (dvs := []) BS.oex iBS tBS FBS (hr.mono (by decide)) bBS .nil pass0 (by rfl) BS.g (pa_cons (pv 1) pa_nil)))) pss_nil), ?_⟩
    rcases h with ⟨⟨tv, ht, hk⟩, kb⟩ | ⟨⟨p, rp, xs, ws, mt, rfl, hS⟩, kq⟩
    · refine ⟨_, rfl, x, _, _, _, _, rfl, .own CS, ht, hk, _, rfl, ?_⟩
      exact iteT ⟨_, rfl, by show 1 ≤ 1000; decide, mk1 (Q := fun cls d H' => E cls d H') fun d hd => kb H (Same.refl _) d hd⟩
    · refine ⟨_, rfl, .ref p, _, _, _, _, rfl, .own CS, hS.tyx T TS, kit_self CS, _, rfl, ?_⟩
      exact iteF kq
theorem ok_NeedPX {f : Addr} {fd : FuncData} (F : Fun K "need_place" "need_place" sNeedPX f fd) (N : TN mg) (TC : TxRC K mg CR) (NP : ErrC P w K mg base CNP "NoPlace" ["self", "value"] (spI1 "value" CNP)) (G_within : Cal P w K mg base "is_within" 2 ["value", "least", "most"] (spWithin)) : FnOk P w K mg base (L2.CX P w) 4 f fd ["rims", "value"] (spNeedPX K C CR CNP) := by
  refine F.okX scNeedPX (fun vs H Q E h => ?_) (fun cdv A outer s H vs Q E hr h => ?_)
  · obtain ⟨p, x, t, xs, ws, rfl, _⟩ := h
    rfl
  · obtain ⟨p, x, t, xs, ws, rfl, R1, ht, kb, kq⟩ := h
    obtain ⟨fNP, fdNP, iNP, tNP, FNP, bNP⟩ := NP.ini
    refine ⟨_, pss_one (ps_if (pt_not (pt_val (pe_cal G_within hr (by decide) (by rfl) (pa_cons (pv 1) (pa_cons pe_int (pa_cons (pe_op op_sub (pe_fld (pv 0) rfl) pe_int) pa_nil)))))) (pss_one (ps_raise rfl (takes_of rfl rfl rfl rfl) (pmk_oex (dvs := []) NP.oex iNP tNP FNP (hr.mono (by decide)) bNP .nil pass0 (by rfl) NP.g (pa_cons (pv 1) pa_nil)))) pss_nil), ?_⟩
    obtain ⟨dx, tw, tl, th, tn, h1, _⟩ := id R1
    refine ⟨_, rfl, _, rfl, p, CR, dx, _, _, rfl, h1, TC.cl, TC.n3, rf_many, _, _, rfl, rfl, ?_⟩
    refine ⟨x, .int 0, .int ((ws.flatten.length : Int) - 1), t, rfl, ht, .inr ⟨_, rfl⟩, .inr ⟨_, rfl⟩, _, rfl, ?_⟩
    show if (!plB x ws.flatten.length) = true then _ else _
    cases hb : plB x ws.flatten.length with
    | true => exact iteF (kq hb)
    | false => exact iteT ⟨_, rfl, by show 1 ≤ 1000; decide, mk1 (Q := fun cls d H' => E cls d H') fun d hd => kb hb H (Same.refl _) d hd⟩
theorem ok_Mex {f : Addr} {fd : FuncData} (F : Fun K "mates_exchanged" "mates_exchanged" sMex f fd) (N : TN mg)   : FnOk P w K mg base CX0 1 f fd ["mates", "place", "other"] (spMex K) := by
  refine F.ok scMex (fun vs H Q E h => ?_) (fun cdv A outer s H vs Q E hr h => ?_)
  · obtain ⟨m, a, b, n, mt, rfl, _⟩ := h
    rfl
  · obtain ⟨m, a, b, n, mt, rfl, hm, n60, hP, ha, hb, nab, nma, k⟩ := h
    refine ⟨_, pss_cons (ps_set (i := 3) scMex.nd rfl (Or.inl rfl) (pe_callTy call_list_of (by rfl) N.list (by decide +kernel) (pa_cons (pv 0) pa_nil)))
      (pss_cons (ps_asg (pe_tup (pa_cons (pe_ix ix_tup (pv 0) (pv 2) (fun _ _ => rfl)) (pa_cons (pe_ix ix_tup (pv 0) (pv 1) (fun _ _ => rfl)) pa_nil))) (pg_tup (n := 2) rfl (pgs_cons (pg_sub (pv 3) (pv 1) set_list) (pgs_cons (pg_sub (pv 3) (pv 2) set_list) pgs_nil))))
      (pss_cons (ps_asg (pe_tup (pa_cons (pv 2) (pa_cons (pv 1) pa_nil))) (pg_tup (n := 2) rfl (pgs_cons (pg_sub (pv 3) (pe_ix ix_tup (pv 0) (pv 1) (fun _ _ => rfl)) set_list) (pgs_cons (pg_sub (pv 3) (pe_ix ix_tup (pv 0) (pv 2) (fun _ _ => rfl)) set_list) pgs_nil))))
      (pss_one (ps_ret (pv 3))))), ?_⟩
    have lm := hP.1.1
    obtain ⟨a1, ga, _⟩ := mtn_at hP.1 ha
    obtain ⟨b1, gb, _⟩ := mtn_at hP.1 hb
    refine ⟨_, rfl, m, _, rfl, .inr hm.sq, fun fo hfo => ?_⟩
    have s1 := same_upd (o := .lst (iv mt)) hfo
    have gf1 : L2.upd H fo (.lst (iv mt)) fo = some (.lst (iv mt)) := upd_same
    have hm1 := SqB.same s1 hm
    obtain ⟨H1, e1⟩ : ∃ H1, H1 = L2.upd H fo (.lst (iv mt)) := ⟨_, rfl⟩
    rw [← e1] at s1 gf1 hm1 ⊢
    refine ⟨_, rfl, _, rfl, m, _, _, _, rfl, rfl, hm1.sq, atI_nat (iv_get gb), _, rfl, _, rfl, m, _, _, _, rfl, rfl, hm1.sq, atI_nat (iv_get ga), by show 2 ≤ sizeLine; decide, fun t ht => ?_⟩
    have st := same_upd (o := .tup [.int ((mtn mt b : Nat) : Int), .int ((mtn mt a : Nat) : Int)]) ht
    have gf2 := st _ _ gf1
    have hm2 := SqB.same st hm1
    have s2 := s1.trans st
    have gt : L2.upd H1 t (.tup [.int ((mtn mt b : Nat) : Int), .int ((mtn mt a : Nat) : Int)]) t = some (.tup [.int ((mtn mt b : Nat) : Int), .int ((mtn mt a : Nat) : Int)]) := upd_same
    generalize L2.upd H1 t (.tup [.int ((mtn mt b : Nat) : Int), .int ((mtn mt a : Nat) : Int)]) = H2 at s2 gf2 hm2 gt ⊢
    refine ⟨t, _, rfl, SqT.of gt, rfl, _, _, rfl, _, rfl, _, rfl, fo, _, _, a, rfl, rfl, gf2, Evl.ixN_nat (by rw [List.length_map]; omega), _, _, rfl, _, rfl, _, rfl, fo, _, _, b, rfl, rfl, upd_same, Evl.ixN_nat (by rw [List.length_set, List.length_map]; omega), rfl, ?_⟩
    have lst_ne : ∀ {q : Addr} {xs : List V}, SqB K H2 q xs → q ≠ fo := fun {q xs} h e => by
      obtain ⟨o, u, z, _⟩ := h.bare
      rw [e, gf2] at z
      cases z
    have hm4 : SqB K (L2.upd (L2.upd H2 fo (.lst ((iv mt).set a (.int ((mtn mt b : Nat) : Int))))) fo (.lst (((iv mt).set a (.int ((mtn mt b : Nat) : Int))).set b (.int ((mtn mt a : Nat) : Int))))) m (iv mt) := SqB.keptL gf2 (Kept.upd.trans Kept.upd) hm2
    have s4 : Same H (L2.upd (L2.upd H2 fo (.lst ((iv mt).set a (.int ((mtn mt b : Nat) : Int))))) fo (.lst (((iv mt).set a (.int ((mtn mt b : Nat) : Int))).set b (.int ((mtn mt a : Nat) : Int))))) := fun b o e => by
      rw [upd_ne (ne_of_none e hfo), upd_ne (ne_of_none e hfo)]
      exact s2 _ _ e
    have gf4 : (L2.upd (L2.upd H2 fo (.lst ((iv mt).set a (.int ((mtn mt b : Nat) : Int))))) fo (.lst (((iv mt).set a (.int ((mtn mt b : Nat) : Int))).set b (.int ((mtn mt a : Nat) : Int))))) fo = some (.lst (((iv mt).set a (.int ((mtn mt b : Nat) : Int))).set b (.int ((mtn mt a : Nat) : Int)))) := upd_same
    generalize L2.upd (L2.upd H2 fo (.lst ((iv mt).set a (.int ((mtn mt b : Nat) : Int))))) fo (.lst (((iv mt).set a (.int ((mtn mt b : Nat) : Int))).set b (.int ((mtn mt a : Nat) : Int)))) = H4 at hm4 s4 gf4 ⊢
    refine ⟨_, rfl, _, rfl, by show 2 ≤ sizeLine; decide, fun t2 ht2 => ?_⟩
    have st2 := same_upd (o := .tup [.int (b : Int), .int (a : Int)]) ht2
    have gf5 := st2 _ _ gf4
    have hm5 := SqB.same st2 hm4
    have s5 := s4.trans st2
    have gt2 : L2.upd H4 t2 (.tup [.int (b : Int), .int (a : Int)]) t2 = some (.tup [.int (b : Int), .int (a : Int)]) := upd_same
    generalize L2.upd H4 t2 (.tup [.int (b : Int), .int (a : Int)]) = H5 at s5 gf5 hm5 gt2 ⊢
    have hm6 : SqB K (L2.upd H5 fo (.lst ((((iv mt).set a (.int ((mtn mt b : Nat) : Int))).set b (.int ((mtn mt a : Nat) : Int))).set (mtn mt a) (.int (b : Int))))) m (iv mt) := SqB.keptL gf5 Kept.upd hm5
    refine ⟨t2, _, rfl, SqT.of gt2, rfl, _, _, rfl, _, rfl, _, rfl, _, rfl, m, _, _, _, rfl, rfl, hm5.sq, atI_nat (iv_get ga), fo, _, _, mtn mt a, rfl, rfl, gf5, Evl.ixN_nat (by rw [List.length_set, List.length_set, List.length_map]; omega), _, _, rfl, _, rfl, _, rfl, _, rfl, m, _, _, _, rfl, rfl, hm6.sq, atI_nat (iv_get gb), fo, _, _, mtn mt b, rfl, rfl, upd_same, Evl.ixN_nat (by rw [List.length_set, List.length_set, List.length_set, List.length_map]; omega), rfl, ?_⟩
    refine ⟨_, rfl, k fo _ hfo (fun b o e => ?_) ?_⟩
    · rw [upd_ne (ne_of_none e hfo), upd_ne (ne_of_none e hfo)]
      exact s5 _ _ e
    · rw [upd_same, ← mex_eq hP ha hb nab nma]
      simp [iv]
theorem ok_Exch {f : Addr} {fd : FuncData} (F : Fun K "exchanged" "exchanged" sExch f fd) (N : TN mg) (T : TxW K mg C) (TC : TxRC K mg CR) (TS : TxSC K mg CS) (MS : MkS P w K mg base C CR CS) (TW : ErrC P w K mg base CTw "Twice" ["self", "value"] (spI1 "value" CTw)) (MF : ErrC P w K mg base CMF "Misfit" ["self", "part"] (spI1 "part" CMF)) (G_need_sewing : CalX P w K mg base "need_sewing" 4 ["value", "part"] (spNeedS K C CR CS CBS)) (G_need_place : CalX P w K mg base "need_place" 4 ["rims", "value"] (spNeedPX K C CR CNP)) (G_mates_exchanged : Cal P w K mg base "mates_exchanged" 1 ["mates", "place", "other"] (spMex K)) : FnOk P w K mg base (L2.CX P w) 8 f fd ["sewing", "place", "other"] (spExch K C CR CS CBS CNP CTw CMF) := by
  refine F.okX scExch (fun vs H Q E h => ?_) (fun cdv A outer s H vs Q E hr h => ?_)
  · obtain ⟨x, pl, ot, rfl, _⟩ := h
    rfl
  · obtain ⟨x, pl, ot, rfl, h⟩ := h
    obtain ⟨fTW, fdTW, iTW, tTW, FTW, bTW⟩ := TW.ini
    obtain ⟨fMF, fdMF, iMF, tMF, FMF, bMF⟩ := MF.ini
    refine ⟨_, pss_cons (ps_expr (pe_calX G_need_sewing hr (by decide) (passes_call (takes_of rfl rfl rfl rfl) (fun _ _ _ _ h => h)) (by rfl) (pa_cons (pv 0) (pa_cons pe_str pa_nil))))
      (pss_cons (ps_expr (pe_calX G_need_place hr (by decide) (passes_call (takes_of rfl rfl rfl rfl) (fun _ _ _ _ h => h)) (by rfl) (pa_cons (pe_fld (pv 0) rfl) (pa_cons (pv 1) pa_nil))))
      (pss_cons (ps_expr (pe_calX G_need_place hr (by decide) (passes_call (takes_of rfl rfl rfl rfl) (fun _ _ _ _ h => h)) (by rfl) (pa_cons (pe_fld (pv 0) rfl) (pa_cons (pv 2) pa_nil))))
      (pss_cons (ps_if (pt_cmpR op_eq (pv 1) (pv 2) (nomark _)) (pss_one (ps_raise rfl (takes_of rfl rfl rfl rfl) (pmk_oex (dvs := []) TW.oex iTW tTW FTW (hr.mono (by decide)) bTW .nil pass0 (by rfl) TW.g (pa_cons (pv 2) pa_nil)))) pss_nil)
      (pss_cons (ps_if (pt_cmpR op_ne (pe_ix ix_tup (pe_fld (pe_fld (pv 0) rfl) rfl) (pv 1) (fun _ _ => rfl)) (pe_ix ix_tup (pe_fld (pe_fld (pv 0) rfl) rfl) (pv 2) (fun _ _ => rfl)) (nomark _)) (pss_one (ps_raise rfl (takes_of rfl rfl rfl rfl) (pmk_oex (dvs := []) MF.oex iMF tMF FMF (hr.mono (by decide)) bMF .nil pass0 (by rfl) MF.g (pa_cons pe_str pa_nil)))) pss_nil)
      (pss_one (ps_ret (pe_sewK rfl MS TS hr (by decide) (by rfl) (pa_cons (pe_fld (pv 0) rfl) (pa_cons (pe_cal G_mates_exchanged hr (by decide) (by rfl) (pa_cons (pe_fld (pv 0) rfl) (pa_cons (pv 1) (pa_cons (pv 2) pa_nil)))) pa_nil))))))))), ?_⟩
    rcases h with ⟨hN, kb⟩ | ⟨p, rp, xs, ws, mt, t1, t2, rfl, hS, ok, mok, ht1, ht2, h⟩
    · exact ⟨_, rfl, x, _, rfl, .inl ⟨hN, kb⟩⟩
    obtain ⟨dx, tm, tc, tp, h1, R1, h3, h4, h5⟩ := id hS
    obtain ⟨d2, tw, tl, th, tn, r1, r2, r3, r4, r5, r6⟩ := id R1
    refine ⟨_, rfl, .ref p, _, rfl, .inr ⟨⟨p, rp, xs, ws, mt, rfl, hS⟩, ?_⟩⟩
    refine ⟨_, rfl, p, CS, dx, _, _, rfl, h1, TS.cl, TS.n1, sf_rims, _, rfl, rp, pl, t1, xs, ws, rfl, R1, ht1, ?_, fun hpl => ?_⟩
    · intro hb
      rcases h with ⟨_, kb⟩ | ⟨ha, _⟩ | ⟨a, b, rfl, _, ha, _⟩
      · exact kb
      · rw [hb] at ha
        cases ha
      · rw [plB_nat ha] at hb
        cases hb
    refine ⟨_, rfl, p, CS, dx, _, _, rfl, h1, TS.cl, TS.n1, sf_rims, _, rfl, rp, ot, t2, xs, ws, rfl, R1, ht2, ?_, fun hot => ?_⟩
    · intro hb
      rcases h with ⟨ha, kb⟩ | ⟨_, _, kb⟩ | ⟨a, b, _, rfl, _, ha, _⟩
      · rw [hpl] at ha
        cases ha
      · exact kb
      · rw [plB_nat ha] at hb
        cases hb
    have h3' := (h.resolve_left fun z => by rw [hpl] at z; cases z.1).resolve_left fun z => by
      have := z.2.1
      rw [hot] at this
      cases this
    obtain ⟨a, b, rfl, rfl, ha, hb, h⟩ := h3'
    refine ⟨_, rfl, _, rfl, rfl, _, rfl, ?_⟩
    by_cases hab : a = b
    · refine iteT' (decide_eq_true (by rw [hab])) ?_
      rcases h with ⟨_, kb⟩ | ⟨n, _⟩ | ⟨n, _⟩
      · exact ⟨_, rfl, by show 1 ≤ 1000; decide, mk1 (Q := fun cls d H' => E cls d H') fun d hd => kb H (Same.refl _) d hd⟩
      · exact absurd hab n
      · exact absurd hab n
    refine iteF' (decide_eq_false fun e => hab (by injection e with e; omega)) ?_
    have la : (iv ws.flatten)[a]? = some (V.int (ws.flatten.getD a 0)) := iv_get (by rw [List.getElem?_eq_getElem ha, getD_lt ha])
    have lb : (iv ws.flatten)[b]? = some (V.int (ws.flatten.getD b 0)) := iv_get (by rw [List.getElem?_eq_getElem hb, getD_lt hb])
    refine ⟨_, rfl, p, CS, dx, _, _, rfl, h1, TS.cl, TS.n1, sf_rims, rp, CR, d2, _, _, rfl, r1, TC.cl, TC.n2, rf_letters, _, rfl, tl, _, _, _, rfl, rfl, r4.sq, atI_nat la, _, rfl, p, CS, dx, _, _, rfl, h1, TS.cl, TS.n1, sf_rims, rp, CR, d2, _, _, rfl, r1, TC.cl, TC.n2, rf_letters, _, rfl, tl, _, _, _, rfl, rfl, r4.sq, atI_nat lb, rfl, _, rfl, ?_⟩
    by_cases hl : ws.flatten.getD a 0 = ws.flatten.getD b 0
    · refine iteF' (by rw [hl]; simp) ?_
      rcases h with ⟨e, _⟩ | ⟨_, n, _⟩ | ⟨_, _, kq⟩
      · exact absurd e hab
      · exact absurd hl n
      have lts := ok.2.2.2.2.1
      have nma : mtn mt a ≠ b := fun e => by
        have hm := mok.2 a (by rw [mok.1.1.1]; exact ha)
        have e2 : (mt[a]'(by rw [mok.1.1.1]; exact ha)).toNat = mtn mt a := by
          show _ = (mt.getD a 0).toNat
          rw [getD_lt]
        rw [e2, e, ← hl] at hm
        have := lts _ (List.getElem_mem ha)
        rw [← getD_lt ha] at this
        omega
      refine ⟨_, rfl, p, CS, dx, _, _, rfl, h1, TS.cl, TS.n1, sf_rims, _, rfl, p, CS, dx, _, _, rfl, h1, TS.cl, TS.n2, sf_mates, _, rfl, _, rfl, tm, a, b, ws.flatten.length, mt, rfl, h3, Nat.le_trans ok.2.2.2.1 (by decide), mok.1, ha, hb, hab, nma, fun l H1 hl0 s1 g1 => ?_⟩
      intro q dq nq ndq _
      exact sew_at nq ndq (R1.same s1) ok (.inl (SqL.of g1)) (swpF_mat mok ha hb hl) fun H2 s2 S2 => kq q H2 (s1.trans s2) S2
    · refine iteT' (by
        have : ¬ V.int (ws.flatten.getD a 0) = V.int (ws.flatten.getD b 0) := fun e => hl (by injection e)
        show (!decide (V.int (ws.flatten.getD a 0) = V.int (ws.flatten.getD b 0))) = true
        rw [decide_eq_false this]
        rfl) ?_
      rcases h with ⟨e, _⟩ | ⟨_, _, kb⟩ | ⟨_, e, _⟩
      · exact absurd e hab
      · exact ⟨by show 1 ≤ 1000; decide, mk1 (Q := fun cls d H' => E cls d H') fun d hd => kb H (Same.refl _) d hd⟩
      · exact absurd e hl
end
end W14
set_option Elab.async false
set_option linter.all false
set_option maxRecDepth 100000
set_option maxHeartbeats 600000
/-! == and != of the instances of a class with its own ==. -/
namespace OE
open PySem L2 PySem.Spec PyProof.Rows
def spE (R : Hp → Addr → Addr → Bool → Prop) : Sp := fun vs H Q _ => ∃ (p q : Addr) (b : Bool), vs = [.ref p, .ref q] ∧ R H p q b ∧ Q (.bl b) H
/-- C's == answers b where R says so -/
structure Eq (P : Program) (w : World) (K : PySem.W.Frag) (mg : Str → Option Value) (base : Heap) (C : Addr) (k : Nat) (R : Hp → Addr → Addr → Bool → Prop) : Prop where
  ex : ∃ (f : Addr) (fd : FuncData), FnOk P w K mg base CX0 k f fd ["self", "other"] (spE R) ∧ PySem.W.findIn K (.ref C) "__eq__" = some (some (.ref f)) ∧ PySem.W.isFn K (.ref f) = true ∧ Binds K fd ["self", "other"] []
  ins : ∀ H p q b, R H p q b → (∃ dx fs, H p = some (.ins C dx fs)) ∧ ∃ dy gs, H q = some (.ins C dy gs)
  ne : PySem.W.findIn K (.ref C) "__ne__" = some (some (.builtin "object.__ne__"))
  mr : PySem.W.mroIn K C (.type "object") = some true
def rE (R : Hp → Addr → Addr → Bool → Prop) : R2 := fun x y H Q => ∃ (p q : Addr) (b : Bool), x = .ref p ∧ y = .ref q ∧ R H p q b ∧ Q (.bl b) H
def rN (R : Hp → Addr → Addr → Bool → Prop) : R2 := fun x y H Q => ∃ (p q : Addr) (b : Bool), x = .ref p ∧ y = .ref q ∧ R H p q b ∧ Q (.bl (!b)) H
section
variable {X : Cx} {C : Addr} {k : Nat} {R : Hp → Addr → Addr → Bool → Prop} {pins : List (Addr × Obj)} {σ : L2.St} {H : Hp} {s : Shared}
theorem callE (M : Eq X.prog X.w X.K X.mg X.base C k R) {A : Around} (sb : Sub X k A) (I : Inv X pins σ H s) {a b : Addr} {c : Bool} (r : R H a b c) :
    ∃ f : Addr, PySem.W.findIn X.K (.ref C) "__eq__" = some (some (.ref f)) ∧ PySem.W.isFn X.K (.ref f) = true ∧ wpAny (model X.prog X.w) A (call (.ref f) [.ref a, .ref b]) (fun r s' => r = .bool c ∧ Inv X pins σ H s') X.xe s := by
  obtain ⟨f, fd, F, hs, hf, hb⟩ := M.ex
  refine ⟨f, hs, hf, ?_⟩
  have hsp : spE R [.ref a, .ref b] H (fun v H' => v = .bl c ∧ H' = H) E0 := ⟨a, b, c, rfl, r, rfl, rfl⟩
  have e0 : Env0 X.prog X.w X.K X.mg X.base A X.stack s H := by
    have e := I.env0
    exact ⟨by rw [sb.fr]; exact e.frames, e.mod, e.bs, e.bsz, e.funs, e.frf, e.hok, e.bare⟩
  have hl := F.len _ _ _ _ hsp
  have r2 : Vals [V.ref a, V.ref b] [Value.ref a, Value.ref b] := .cons rfl (.cons rfl .nil)
  refine wpAny_call (codeAny_mono (F.run A X.stack s H ⟨[.ref a, .ref b], []⟩ [.ref a, .ref b] [.ref a, .ref b] _ E0 sb.room e0 (by
    have := hb s [.ref a, .ref b] I.kIn (by simpa using hl)
    simpa using this) r2 hsp) fun r s' hq => ?_)
  cases r with
  | error e => exact pass0 pins σ H s e s' I hq
  | ok fl =>
    cases fl with
    | ret w =>
      obtain ⟨z, H', I', rz, ez, eH⟩ := I.after hq
      subst ez eH
      cases rz
      exact ⟨rfl, I'⟩
    | next => exact False.elim hq
    | brk => exact False.elim hq
    | cont => exact False.elim hq
theorem op_e (M : Eq X.prog X.w X.K X.mg X.base C k R) {j : Nat} (hr : Room j X.A) (hj : k ≤ j) : OpR X (compareOp .Eq) (rE R) := by
  intro pins s σ H x y u v Q I rx ry d
  obtain ⟨a, b, c, rfl, rfl, r, hq⟩ := d
  cases rx
  cases ry
  obtain ⟨⟨dx, fs, ha⟩, dy, gs, hb'⟩ := M.ins _ _ _ _ r
  obtain ⟨mA, J, _⟩ := ins_get I.hok ha
  obtain ⟨mB, J', _⟩ := ins_get I.hok hb'
  obtain ⟨od, J, _⟩ := J.look
  obtain ⟨od', J', _⟩ := J'.look
  obtain ⟨m, hF⟩ := I.fr
  have rm : Room k X.A := hr.mono hj
  obtain ⟨f, hs, hf, hc⟩ := callE M ⟨rm, rfl⟩ I r
  show wpAny (model X.prog X.w) X.A (richCompare .Eq (.ref a) (.ref b)) (EP X pins σ Q) X.xe s
  refine PySem.W.cmp_K (op := .Eq) (tb := .ref C) rm.units0 hF I.ok.mod.kin J J'.type (by simp [PySem.W.notFirst]) hs hf (wpAny_mono hc (fun r s' q => ?_) fun _ _ z => z)
  obtain ⟨rfl, I'⟩ := q
  exact ⟨.bl _, H, I', rfl, hq⟩
theorem op_n (M : Eq X.prog X.w X.K X.mg X.base C k R) {j : Nat} (hr : Room j X.A) (hj : k + 1 ≤ j) : OpR X (compareOp .NotEq) (rN R) := by
  intro pins s σ H x y u v Q I rx ry d
  obtain ⟨a, b, c, rfl, rfl, r, hq⟩ := d
  cases rx
  cases ry
  obtain ⟨⟨dx, fs, ha⟩, dy, gs, hb'⟩ := M.ins _ _ _ _ r
  obtain ⟨mA, J, _⟩ := ins_get I.hok ha
  obtain ⟨mB, J', _⟩ := ins_get I.hok hb'
  obtain ⟨od, J, _⟩ := J.look
  obtain ⟨od', J', _⟩ := J'.look
  have rm4 : Room (k + 1) X.A := hr.mono hj
  obtain ⟨f, hs, hf, hc⟩ := callE (A := X.A.in1) M ⟨rm4.in1, rfl⟩ I r
  show wpAny (model X.prog X.w) X.A (richCompare .NotEq (.ref a) (.ref b)) (EP X pins σ Q) X.xe s
  refine NeK.rc_ne (by have := rm4.in1.units0; exact this) I.kIn J J' M.mr hs hf M.ne (wpAny_mono hc (fun r s' q => ?_) fun _ _ z => z)
  obtain ⟨rfl, I'⟩ := q
  exact ⟨_, rfl, .bl _, H, I', rfl, hq⟩
end
end OE
set_option Elab.async false
set_option linter.all false
set_option maxRecDepth 100000
set_option maxHeartbeats 600000
namespace W14
open PySem L2 PySem.Spec PyProof.Rows WR WB WE WS
/-! ### sewings held against one another -/
def SewEq (K : PySem.W.Frag) (C CR CS : Addr) (H : Hp) (p q : Addr) (b : Bool) : Prop := ∃ (rp rq : Addr) (xs ys : List Addr) (ws us : List (List Int)) (mt nt : List Int), SewAt K C CR CS H p rp xs ws mt ∧ SewAt K C CR CS H q rq ys us nt ∧ b = decide (ws = us ∧ mt = nt)
abbrev sEqSw : Stmt := sEqS
abbrev sEqSx : Stmt := inClass (top 58) 1
abbrev nEqSx : List Str := ["self", "other"]
theorem scEqSx : FnScope nEqSx ["self", "other"] (defScope sEqSx) := ⟨rfl, rfl, rfl, by decide +kernel, rfl, by decide +kernel, by decide +kernel⟩
section
variable {P : Program} {w : World} {K : PySem.W.Frag} {mg : Str → Option Value} {base : Heap} {C CR CS : Addr}
theorem ok_EqSx {f : Addr} {fd : FuncData} (F : Fun K "__eq__" "Sewing.__eq__" sEqSx f fd) (N : TN mg) (T : TxW K mg C) (TC : TxRC K mg CR) (TS : TxSC K mg CS) (ER : EqR P w K mg base C CR)  : FnOk P w K mg base CX0 4 f fd ["self", "other"] (OE.spE (SewEq K C CR CS)) := by
  refine F.ok scEqSx (fun vs H Q E h => ?_) (fun cdv A outer s H vs Q E hr h => ?_)
  · obtain ⟨p, q, b, rfl, _⟩ := h
    rfl
  · obtain ⟨p, q, b, rfl, ⟨rp, rq, xs, ys, ws, us, mt, nt, S1, S2, rfl⟩, k⟩ := h
    refine ⟨_, pss_one (ps_ret (pe_and (pe_callB call_isi (by rfl) N.isinstance (by decide +kernel) (pa_cons (pv 1) (pa_cons (pe_glob (v := .ref CS) (by rfl) TS.mgS rfl) pa_nil))) (pe_and (pe_cmpR (op_eqR ER hr (by decide)) (pe_fld (pv 0) rfl) (pe_fld (pv 1) rfl) (nomark _)) (pe_one (pe_cmpR (op_eqD hr.units) (pe_fld (pv 0) rfl) (pe_fld (pv 1) rfl) (nomark _)))))), ?_⟩
    obtain ⟨dx, tm, tc, tp, h1, R1, h3, _⟩ := id S1
    obtain ⟨dy, um, uc, up, g1, R2, g3, _⟩ := id S2
    refine ⟨_, rfl, .ref q, _, _, _, _, rfl, .own CS, S2.tyx T TS, kit_self CS, _, rfl, ?_⟩
    refine iteT ?_
    refine ⟨_, rfl, p, CS, dx, _, _, rfl, h1, TS.cl, TS.n1, sf_rims, _, rfl, q, CS, dy, _, _, rfl, g1, TS.cl, TS.n1, sf_rims, rp, rq, xs, ys, ws, us, rfl, rfl, R1, R2, ?_⟩
    refine ⟨_, rfl, ?_⟩
    by_cases hw : ws = us
    · refine iteT' (decide_eq_true hw) ?_
      refine ⟨_, rfl, p, CS, dx, _, _, rfl, h1, TS.cl, TS.n2, sf_mates, _, rfl, q, CS, dy, _, _, rfl, g1, TS.cl, TS.n2, sf_mates, .tuple (mt.map .int), .tuple (nt.map .int), .tup h3.sq (dpInts mt), .tup g3.sq (dpInts nt), PySem.W.ke_shaped_ints mt, PySem.W.ke_shaped_ints nt, ?_⟩
      rw [eqv_ints]
      have : decide (ws = us ∧ mt = nt) = decide (mt = nt) := by
        rw [Bool.eq_iff_iff, decide_eq_true_iff, decide_eq_true_iff]
        exact ⟨fun h => h.2, fun h => ⟨hw, h⟩⟩
      rw [this] at k
      exact k
    · refine iteF' (decide_eq_false hw) ?_
      rw [decide_eq_false (fun h => hw h.1)] at k
      exact k
end
/-! ### a def that may raise, called by keywords alone, where nothing is raised -/
structure CalKX (P : Program) (w : World) (K : PySem.W.Frag) (mg : Str → Option Value) (base : Heap) (x : Str) (k : Nat) (ps ks : List Str) (gV : List V → List V) (sp : Sp) : Prop where
  ex : ∃ (f : Addr) (fd : FuncData) (g : List Value → List Value), FnOk P w K mg base (L2.CX P w) k f fd ps sp ∧ mg x = some (.ref f) ∧ PySem.W.keepIn K (.ref f) = true ∧ KBn K fd ps 0 ks (fun _ ws => g ws) (fun _ zs => gV zs)
def tCalKX (sp : Sp) (gV : List V → List V) (m : Nat) (tk : TA) : TE := fun σ H Q => tk σ H fun zs H2 => zs.length = m ∧ sp (gV zs) H2 Q (fun _ _ _ => False)
section
variable {X : Cx} {x : Str} {k j : Nat} {ps ks : List Str} {gV : List V → List V} {sp : Sp} {p pos : Pos} {kws : List Keyword} {tk : TA}
theorem pe_calKX (C : CalKX X.prog X.w X.K X.mg X.base x k ps ks gV sp) (hr : Room j X.A) (hkj : k ≤ j) (hg : Gl X x) (hkw : PK X kws tk) (hall : (backToKw pos (keywordEach kws X.env)).all (·.1.isSome) = true := by rfl)
    (hks : (backToKw pos (keywordEach kws X.env)).filterMap (·.1) = ks := by rfl) (hdb : (x == ("__debug__" : Str)) = false := by decide) (hpl : ((backTo pos (starEach [] X.env)).any (·.1) || (backToKw pos (keywordEach kws X.env)).any (·.1.isNone)) = false := by rfl) :
    PE X (.Call (.Name x p) [] kws pos) (tCalKX sp gV ks.length tk) := by
  obtain ⟨f, fd, g, F, hm, hk, hb⟩ := C.ex
  refine ⟨fun pins s σ H Q I h => ?_⟩
  refine wpAny_Call_Name_kw (ld_glob I hg hm ?_ hdb)
  refine PySem.W.callWith_KW0 (h₀ := X.base) I.ok.mod.kin hk hall ?_ hpl
  refine thn (hkw.run pos pins s σ H _ I h) fun ws s2 ⟨zs, H2, I2, rz, lz, q2⟩ => ⟨I2.kIn, ?_⟩
  rw [hks]
  have r2 := hb.rel (vs := []) (us := []) .nil rz
  have hl : ws.length = ks.length := by rw [← rz.length, lz]
  refine wpAny_call (codeAny_mono ((F.mono hkj).run X.A X.stack s2 H2 ⟨[], ks.zip ws⟩ (g ws) (gV zs) Q (fun _ _ _ => False) hr I2.env0 (hb.to s2 [] ws I2.kIn rfl hl) r2 q2) fun r s' hq => ?_)
  cases r with
  | error e => exact passF pins σ H2 s2 e s' I2 hq
  | ok fl =>
    cases fl with
    | ret u => exact I2.after hq
    | next => exact False.elim hq
    | brk => exact False.elim hq
    | cont => exact False.elim hq
end
end W14

set_option Elab.async false
set_option linter.all false
set_option maxRecDepth 100000
set_option maxHeartbeats 2000000
/-! try: .. except X as n: y = n: the exception is kept by a name, asked for its class and its fields later. -/
namespace CK
open PySem PySem.Spec PyProof.Rows L2 TM
/-- at a: an exception that was caught, of the class cls, its own dict at d -/
def exk (a : Addr) (cls : Value) (d : Option Addr) : HO := .ext fun h => ∃ (oe : Obj) (vs : Array Value), h.get? a = some oe ∧ Zc cls d oe ∧ oe.data = .fields vs
theorem exk_ok {P : Program} {w : World} {H : Hp} {h : Heap} {a : Addr} {cls : Value} {d : Option Addr} {oe : Obj} {vs : Array Value} (e : h.get? a = some oe) (z : Zc cls d oe) (ed : oe.data = .fields vs) : ObjOk P w H h a (exk a cls d) :=
  ⟨⟨oe, vs, e, z, ed⟩, ⟨oe, e⟩, fun _ _ ⟨o, v, q, r⟩ k => ⟨o, v, k o q, r⟩⟩
theorem exk_at {P : Program} {w : World} {H : Hp} {h : Heap} {a : Addr} {cls : Value} {d : Option Addr} (hok : HOk P w H h) (e : H a = some (exk a cls d)) : ∃ (oe : Obj) (vs : Array Value), h.get? a = some oe ∧ Zc cls d oe ∧ oe.data = .fields vs := by
  have x : ObjOk P w H h a (.ext fun h => ∃ (oe : Obj) (vs : Array Value), h.get? a = some oe ∧ Zc cls d oe ∧ oe.data = .fields vs) := hok a _ e
  exact x.1
section
variable {X : Cx} {pins : List (Addr × Obj)} {σ : L2.St} {H : Hp} {s : Shared} {a : Addr} {cls : Value} {d : Option Addr} {oe : Obj} {vs : Array Value}
/-- an object that came up since the entry is tracked -/
theorem track (I : Inv X pins σ H s) (e : s.heap.get? a = some oe) (z : Zc cls d oe) (ed : oe.data = .fields vs) (hn : H a = none) (n0 : X.s_0.heap.get? a = none) (nL : a ≠ X.env.locals) (nP : ∀ p ∈ X.pn ++ pins, p.1 ≠ a) :
    Inv X pins σ (upd H a (exk a cls d)) s := by
  have neN : ∀ b, b ≠ a → upd H a (exk a cls d) b = H b := fun b h => upd_ne h
  have ne0 : ∀ b o, X.s_0.heap.get? b = some o → b ≠ a := fun b o q z => by
    rw [z, n0] at q
    cases q
  have nC : ∀ x c, X.env.cells.lookup x = some c → c ≠ a := fun x c q z => by
    obtain ⟨v, o, ho, hd⟩ := I.cell x c q
    rw [z, e] at ho
    cases ho
    rw [ed] at hd
    cases hd
  refine ⟨I.ok, I.os, I.bare, ⟨I.base.keep, I.base.slot, fun b o q n hx => ?_, I.base.there, fun b xs q => ?_, fun b o u q => ?_, fun b ps q => ?_⟩, I.loc, I.cell, ?_, fun x c q => ?_, fun p hp => ?_, HOk.laidN I.hok (fun _ _ q => q) hn (exk_ok e z ed), I.len⟩
  · rw [neN b (ne0 b o q)]
    exact I.base.free b o q n hx
  · have q2 := I.base.tups b xs q
    rw [neN b (ne_of_none q2 hn)]
    exact q2
  · have q2 := I.base.frzs b o u q
    rw [neN b (ne_of_none q2 hn)]
    exact q2
  · obtain ⟨m, q2⟩ := I.base.tbls b ps q
    exact ⟨m, by rw [neN b (ne_of_none q2 hn)]; exact q2⟩
  · rw [neN _ nL.symm]
    exact I.free
  · rw [neN c (nC x c q)]
    exact I.freeC x c q
  · obtain ⟨h1, h2, h3⟩ := I.pin p hp
    exact ⟨h1, by rw [neN p.1 (nP p hp)]; exact h2, h3⟩
end
/-- what ends a suite, the exception kept -/
def keepS (i : Nat) (a : Addr) (cls : Value) (d : Option Addr) (D : Ends) : Ends :=
  { nx := fun σ H => D.nx (σ.set i none) (upd H a (exk a cls d)), rt := fun v H => D.rt v (upd H a (exk a cls d)), bk := fun σ H => D.bk (σ.set i none) (upd H a (exk a cls d)), ct := fun σ H => D.ct (σ.set i none) (upd H a (exk a cls d)) }
def wishK (K : PySem.W.Frag) (out : WX) (D : Ends) (i : Nat) (c : Value) (say : Addr → Value → Option Addr → TS) : WX := fun cls d σ H =>
  ∃ b, PySem.W.exmOne K cls c = some b ∧ (b = true → ∀ a, H a = none → say a cls d (keepS i a cls d D) (σ.set i (some (.ref a))) H) ∧ (b = false → out cls d σ H)
section
variable {X : Cx} {pins : List (Addr × Obj)} {σ : L2.St} {H : Hp} {D : Ends} {out : WX} {cls : Value} {d : Option Addr} {a : Addr} {B : Heap} {s0 s : Shared}
theorem away (h : Held X pins σ H cls d a B s0 s) (hs : X.stack = X.env :: X.outer) : s0.heap.get? a = none := by
  obtain ⟨o, vs, ea, z, ed⟩ := h.fly.there
  have out_ : a ∉ frs X.stack := fun hm => by
    rw [hs] at hm
    obtain ⟨_, o', e', nf⟩ := h.fly.2.2.1.mem hm
    rw [ea] at e'
    cases e'
    exact nf _ ed
  cases e : s0.heap.get? a with
  | none => rfl
  | some o =>
    have := h.old a o e out_
    rw [h.fly.2.1] at this
    cases this
theorem goesK (h : Held X pins σ H cls d a B s0 s) (hs : X.stack = X.env :: X.outer) (hf : X.env.frame = some X.env.locals) (hex : X.ex = []) (tk : Takes X out) {x n : Str} {i : Nat} {c : Value} {say : Addr → Value → Option Addr → TS} {b0 : Stmt} {bs : List Stmt} {p1 p2 : Pos}
    (hN : X.N.Nodup) (hi : X.N[i]? = some n) (hl : X.env.kindOf n = some .local) (hc : Names X x c) (hsay : Says X (b0 :: bs) say) (w : wishK X.K out D i c say cls d σ H) :
    wpAny (model X.prog X.w) X.A (handleBy (.ref a) X.env [.ExceptHandler (some (.Name x p1)) (some n) (b0 :: bs) p2]) (SP X pins D) X.xe s := by
  obtain ⟨b, eb, yes, no⟩ := w
  obtain ⟨o, ea, z, ed, S⟩ := h.pinned hf
  have aw := away h hs
  have n0 : X.s_0.heap.get? a = none := by
    cases e : X.s_0.heap.get? a with
    | none => rfl
    | some o =>
      obtain ⟨o2, q⟩ := h.inv.base.there a o e (by rw [hex]; exact fun z => nomatch z)
      rw [aw] at q
      cases q
  have nP : ∀ p ∈ X.pn ++ pins, p.1 ≠ a := fun p hp q => by
    have := (h.inv.pin p hp).1
    rw [q, aw] at this
    cases this
  have look : PySem.W.Looks (model X.prog X.w) s.heap (typeOf (.ref a)) cls := fun A Q E s' k q => wpAny_typeOf_ref (k _ _ ea) (by rw [z.1]; exact q)
  have lm := PySem.W.exm_one (M := model X.prog X.w) h.now.kIn look eb
  have named : ∀ {p : Pos} {Q : Value → Shared → Prop} {E : Value → Shared → Prop}, Q c s → wpAny (model X.prog X.w) (X.A.mark (some (.ref a))) (eval (.Name x p) X.env) Q E s := fun {p Q E} k => by
    obtain ⟨g1, g2, m | ⟨m, v, nn⟩⟩ := hc
    · exact ld_glob (X := X.suite a ((a, o) :: (X.pn ++ pins))) S g1 m k g2
    · exact ld_blt (X := X.suite a ((a, o) :: (X.pn ++ pins))) S g1 m v k nn g2
  refine wpAny_handleBy_cons (codeAny_handlers_test (named (lm.here ?_))) (by intro q; cases q)
  cases b with
  | false => exact h.pass hs hf tk (no rfl)
  | true =>
    refine codeAny_handlers_suite_as (HandSPX.lands_againZ h.fly fun h4 fl4 up4 => ?_)
    have h' : Held X pins σ H cls d a B s0 { s with heap := h4 } := ⟨h.inv, h.old, h.up.trans up4, fl4, h.os, h.bare, h.free⟩
    obtain ⟨o4, _, z4, ed4, S4⟩ := h'.pinned hf
    refine store_ok (X := X.suite a ((a, o4) :: (X.pn ++ pins))) (v := .ref a) S4 hN hi (.inl hl) rfl (fun s5 S5 => ?_) (.inr hl)
    refine wpAny_mono ((hsay a o4 cls d (X.pn ++ pins) z4 ed4).run [] s5 _ H _ S5 (yes rfl a h.free)) (fun f s6 hsp => ?_) (fun _ _ z => False.elim z)
    have ok := h.inv.ok
    have end_ : ∀ {σ6 : L2.St} {H6 : Hp} {Q : Shared → Prop}, Inv (X.suite a ((a, o4) :: (X.pn ++ pins))) [] σ6 H6 s6 → (∀ s7, Inv X pins (σ6.set i none) (upd H6 a (exk a cls d)) s7 → Q s7) →
        wpAny (model X.prog X.w) X.A (do bindName X.env n .none; unbindBehindTheSuite X.env n p2) (fun _ s7 => Q s7) X.xe s6 := fun {σ6 H6 Q} S6 hq => by
      obtain ⟨g1, g2, g3, g4, g5⟩ := S6.pin (a, o4) (List.mem_append_left _ List.mem_cons_self)
      obtain ⟨vs4, ed5⟩ := ed4
      exact gone_ok (track (S6.unsuite ok) g1 z4 ed5 g2 n0 g3 nP) hN hi hl hq
    cases f with
    | next => obtain ⟨σ6, H6, S6, q6⟩ := hsp; exact end_ S6 fun s7 J7 => ⟨_, _, J7, q6⟩
    | brk => obtain ⟨σ6, H6, S6, q6⟩ := hsp; exact end_ S6 fun s7 J7 => ⟨_, _, J7, q6⟩
    | cont => obtain ⟨σ6, H6, S6, q6⟩ := hsp; exact end_ S6 fun s7 J7 => ⟨_, _, J7, q6⟩
    | ret u => obtain ⟨v6, σ6, H6, S6, r6, q6⟩ := hsp; exact end_ S6 fun s7 J7 => ⟨_, _, _, J7, r6, q6⟩
end
section
variable {X : Cx} {body : List Stmt} {pos : Pos} {tb : WX → TS} {out : WX} {x n : Str} {i : Nat} {c : Value} {say : Addr → Value → Option Addr → TS} {b0 : Stmt} {bs : List Stmt} {p1 p2 : Pos}
theorem ps_try_keep (hs : X.stack = X.env :: X.outer) (hf : X.env.frame = some X.env.locals) (hex : X.ex = []) (tk : Takes X out)
    (hb : ∀ (W : WX) (pn : List (Addr × Obj)) (xe : Value → Shared → Prop), Takes (X.tr pn xe) W → PassesOwn (model X.prog X.w) X.A X.env xe → PSs (X.tr pn xe) body (tb W))
    (hN : X.N.Nodup) (hi : X.N[i]? = some n) (hl : X.env.kindOf n = some .local) (hc : Names X x c) (hsay : Says X (b0 :: bs) say) :
    PS X (.Try body [.ExceptHandler (some (.Name x p1)) (some n) (b0 :: bs) p2] [] [] pos) (fun D σ H => tb (wishK X.K out D i c say) D σ H) := by
  refine ⟨fun pins s σ H D I h => ?_⟩
  have ok := I.ok
  have hfr : X.A.frames = some (X.env :: X.outer) := by rw [ok.frames, hs]
  refine wpAny_Try_except (wpAny_mono ((hb (wishK X.K out D i c say) (X.pn ++ pins) (fun e s₁ => wpAny (model X.prog X.w) X.A (noteFrame e X.env) (fun _ s₂ => wpAny (model X.prog X.w) X.A (setFlight e none) (fun _ s₃ =>
    wpAny (model X.prog X.w) X.A (handleBy e X.env [.ExceptHandler (some (.Name x p1)) (some n) (b0 :: bs) p2]) (SP X pins D) X.xe s₃) X.xe s₂) X.xe s₁) (fun u s' xx => ?_) PassesOwn.looking).run [] s σ H D (I.toTry _) h) (fun f s1 hsp => ?_) (fun e s1 he => he))
  · obtain ⟨a, B, s0, pins', σ', H', cls, d, rfl, J', old, up, sky, free, os, bare, w⟩ := xx
    have sky' : Sky B (X.env :: X.outer) a (Zc cls d) X.env.locals s'.heap := by rw [← hs]; exact sky
    exact Sky.land Zc.steady hfr hf sky' fun h3 fl3 up3 => goesK (s := { s' with heap := h3 }) ⟨J'.ofTry ok, old, up.trans up3, fl3, os, bare, free⟩ hs hf hex tk hN hi hl hc hsay w
  · cases f with
    | next => obtain ⟨σ', H', J', q⟩ := hsp; exact wpAny_execs_nil ⟨σ', H', J'.ofTry ok, q⟩
    | brk => obtain ⟨σ', H', J', q⟩ := hsp; exact ⟨σ', H', J'.ofTry ok, q⟩
    | cont => obtain ⟨σ', H', J', q⟩ := hsp; exact ⟨σ', H', J'.ofTry ok, q⟩
    | ret u => obtain ⟨v, σ', H', J', r, q⟩ := hsp; exact ⟨v, σ', H', J'.ofTry ok, r, q⟩
end
/-! ### the class of an exception that has a dict of its own -/
section
open PySem.W PySem.Calls
variable {prog : Program} {w : World} {A : Around} {E : Value → Shared → Prop} {s : Shared} {K : Frag} {x D : Addr} {ox : Obj} {odo : Option Obj}
theorem clsD {Q : Option Value → Shared → Prop} (C : ExcC K D) (bnd : findObj K D odo "__class__" = some (.bind (.builtin "getset_descriptor.__get__") (.builtin "object.__class__"))) (X : K.In s.heap) (I : InstAt s.heap x ox D odo) (h : Q (some (.ref D)) { s with toks := s.toks + 1 }) :
    wpAny (model prog w) A (getAttr? (.ref x) "__class__") Q E s := by
  obtain ⟨hh, gs, dr, tk, ost⟩ := s
  have lT := I.type (M := model prog w)
  have lA := looks_findIn (M := model prog w) X C.hg
  have lB := looks_findIn (M := model prog w) X C.hk
  have lO := looks_find (M := model prog w) X I bnd
  have isB : Looks (model prog w) hh (isInstance (.ref x) (.type "BaseException")) true := lT.andThen (looks_subIn X C.hs)
  have n2 : (Value.builtin "BaseException.__getattribute__" == .builtin "object.__getattribute__") = false := by
    decide +kernel
  have n1 : (onTheHeap (Value.ref D) && Value.builtin "BaseException.__getattribute__" == .builtin "object.__getattribute__") = false := by
    rw [n2]
    rfl
  unfold getAttr? getAttrBy? getAttrBy
  refine wpAny_bind (wpAny_mkText ?_)
  refine wpAny_bind (wpAny_attempt (wpAny_holding ?_))
  refine wpAny_bind (lT.at (wpAny_bind (lA.at ?_)))
  show wpAny _ _ (if (onTheHeap (Value.ref D) && Value.builtin "BaseException.__getattribute__" == Value.builtin "object.__getattribute__") = true then _ else _) _ _ _
  rw [n1, if_neg (by decide)]
  unfold getAttrByItsOwn hookBefore
  refine wpAny_bind ?_
  rw [if_pos (by rfl)]
  refine lB.at (wpAny_bind (wpAny_attempt (wpAny_holding ?_)))
  unfold callGetattribute
  rw [if_neg (show ¬ (false && onTheHeap (Value.builtin "BaseException.__getattribute__")) = true by decide)]
  unfold boundAndCalled
  rw [PySem.F.excAttr_ValueError.ga.bind (.ref x)]
  refine wpAny_bind (wpAny_pure ?_)
  show wpAny _ _ (call (.builtin "BaseException.__getattribute__") [.ref x, .str "__class__" tk]) _ _ _
  refine wpAny_call (codeAny_call_builtin PySem.F.excAttr_ValueError.ga.plain PySem.F.entry_bexc_ga ?_)
  refine @check_slot (model prog w) _ _ ⟨hh, gs, dr, tk + 1, ost⟩ "BaseException.__getattribute__" "BaseException" "__getattribute__" (.ref x) [.str "__class__" tk] [] _ (by decide +kernel) (by decide +kernel) isB (PySem.F.args_bexc_ga (.ref x) (.str "__class__" tk)) ?_
  unfold Builtin.«object.__getattribute__»
  refine wpAny_bind (wpAny_of_eq (a := ((Value.ref x : Value), [Value.str "__class__" tk])) (by first | rfl | (simp only [slotArgs]; rfl)) ?_)
  refine wpAny_bind (wpAny_pure (wpAny_bind (lT.at (wpAny_bind (lO.at ?_)))))
  show wpAny _ _ (holding [Value.builtin "object.__class__"] (call (.builtin "getset_descriptor.__get__") [.builtin "object.__class__", .ref x, .ref D]) >>= ret) _ _ _
  refine wpAny_bind (wpAny_holding (wpAny_call (class_get (s := ⟨hh, gs, dr, tk + 1, ost⟩) X I C.hm (wpAny_pure ?_))))
  show wpAny _ _ (handedOut (.ref D)) _ _ _
  rw [handedOut_of (v := .ref D) rfl]
  first
    | exact wpAny_pure (wpAny_pure h)
    | exact wpAny_pure (wpAny_bind (wpAny_pure (wpAny_pure h)))
    | exact wpAny_pure h
theorem kitD {od : Obj} (C : ExcC K D) : KitX K (.ref x) (.ref D) (fun h => InstAt h x ox D (some od)) where
  ty := fun _ _ _ I => I.type
  it := fun _ _ X _ => by
    obtain ⟨cd, hc, _⟩ := any_some C.hd
    unfold clsIn at hc
    split at hc
    · rename_i c1 d1 cd1 sl1 ho
      intro A' Q' E' s' k q
      unfold isType loadHead
      exact wpAny_bind (wpAny_loadPart (k _ _ (X _ _ ho)) (wpAny_pure q))
    · cases hc
  ne := fun h tp dd its n sl X htp => by
    obtain ⟨cd, hc, _⟩ := any_some C.hd
    refine Bool.eq_false_iff.mpr fun q => ?_
    have e : D = tp := Value.ref.inj (beq_iff_eq.mp q)
    subst e
    unfold clsIn at hc
    split at hc
    · rename_i c1 d1 cd1 sl1 ho
      cases (X _ _ ho).symm.trans htp
    · cases hc
  ca := fun X I k => clsD C (findObj_data (by obtain ⟨cd, hc, _⟩ := any_some C.hd; rw [hc] <;> rfl) C.ha C.hn C.ht) X I k
end
section
variable {X : Cx}
/-! ### asked later -/
/-- isinstance(x, c), x any value or an exception that was kept -/
def rIsC (K : PySem.W.Frag) : List V → Hp → VK → Prop := fun xs H Q => rIsi K xs H Q ∨ ∃ (a D dd : Addr) (fs : List (Str × V)) (c : V) (cv : Value) (b : Bool), xs = [.ref a, c] ∧ H a = some (exk a (.ref D) (some dd)) ∧ H dd = some (.xd fs) ∧ ExcC K D ∧ (∀ u, RelV c u → u = cv) ∧ PySem.W.kitOne K (.ref D) cv = some b ∧ Q (.bl b) H
theorem call_isC : CallR X (.builtin "isinstance") (rIsC X.K) := by
  intro pins s σ H xs us Q I r h
  rcases h with h | ⟨a, D, dd, fs, c, cv, b, rfl, ha, hdd, C, hcv, e, q⟩
  · exact call_isi pins s σ H xs us Q I r h
  · cases r with
    | cons rx rr =>
      cases rr with
      | cons rt rr =>
        cases rr
        cases rx
        have ec := hcv _ rt
        subst ec
        obtain ⟨oe, vs, hget, hz, hv⟩ := exk_at I.hok ha
        obtain ⟨mA, hns, hr⟩ := (show ObjOk X.prog X.w H s.heap dd (.xd fs) from I.hok dd _ hdd)
        obtain ⟨od, ho, hl⟩ := lookIn_ns hns
        have J : PySem.W.InstAt s.heap a oe D (some od) := ⟨hget, hz.1, by unfold PySem.W.notCls; rw [hv] <;> rfl, by rw [hz.2]; exact ho⟩
        exact PySem.W.kia_one (kitD C) I.kIn J e (fun z => nomatch z) fun tk => ⟨.bl b, H, I.tok tk, rfl, q⟩
/-- y.f, y an exception that was kept -/
def tKf (C : Addr) (f : Str) (te : TE) : TE := fun σ H Q => te σ H fun x H1 => ∃ (a dd : Addr) (fs : List (Str × V)) (v : V), x = .ref a ∧ H1 a = some (exk a (.ref C) (some dd)) ∧ H1 dd = some (.xd fs) ∧ fs.lookup f = some v ∧ Q v H1
theorem pe_kf {C : Addr} {e : Expr} {te : TE} {pos : Pos} {f : Str} (T : XfC X.K C) (hno : PySem.W.findIn X.K (.ref C) f = some none) (he : PE X e te) (hb : attributeBase e f X.env (eval e X.env) = eval e X.env := by rfl) :
    PE X (.Attribute e f pos) (tKf C f te) := by
  refine ⟨fun pins s σ H Q I h => ?_⟩
  refine attr_of hb (thn (he.run pins s σ H _ I h) fun u s1 hh => ?_)
  obtain ⟨x, H1, I1, rx, a, dd, fs, v, ex, hA, ea, l, q⟩ := hh
  subst ex
  obtain rfl : u = Value.ref a := rx
  obtain ⟨oe, vs, ha, hz, hd⟩ := exk_at I1.hok hA
  have hx : ObjOk X.prog X.w H1 s1.heap dd (.xd fs) := I1.hok dd _ ea
  obtain ⟨mA, hns, hr⟩ := hx
  obtain ⟨od, ho, hl⟩ := lookIn_ns hns
  obtain ⟨u, hu, ru⟩ := RelO.some_of (v := v) (o := mA f) (by rw [← l]; exact hr f)
  have J : PySem.W.InstAt s1.heap a oe C (some od) := ⟨ha, hz.1, by unfold PySem.W.notCls; rw [hd] <;> rfl, by rw [hz.2]; exact ho⟩
  exact HandSPX.exc_get I1.kIn J T.ga T.gg T.exC (PySem.W.findObj_own T.hdC hno rfl (by rw [hl, hu])) (handed_of ru) ⟨v, H1, I1.tok _, ru, q⟩
end
end CK
set_option Elab.async false
set_option linter.all false
set_option maxRecDepth 100000
set_option maxHeartbeats 600000
/-! repr of any data; isinstance of a kept exception against a tuple of classes. -/
namespace RA
open PySem L2 PySem.Spec PyProof.Rows
mutual
theorem dp_same {K : PySem.W.Frag} {H H' : Hp} (s : ∀ b o, H b = some o → H' b = some o) : ∀ {v : V} (d : PyData), Dp K H v d → Dp K H' v d
  | _, .none, h => by cases h; exact .non
  | _, .bool _, h => by cases h; exact .bl _
  | _, .int _, h => by cases h; exact .int _
  | _, .str _, h => by cases h; exact .str _
  | _, .list ds, h => by
    cases h with
    | lst h1 h2 => exact .lst (Same.seq s h1) (dp_sameA s ds h2)
  | _, .tuple ds, h => by
    cases h with
    | tup h1 h2 => exact .tup (WR.Same.seqT s h1) (dp_sameA s ds h2)
  | _, .dict _, h => by cases h
theorem dp_sameA {K : PySem.W.Frag} {H H' : Hp} (s : ∀ b o, H b = some o → H' b = some o) : ∀ {vs : List V} (ds : List PyData), DpAll K H vs ds → DpAll K H' vs ds
  | _, [], h => by cases h; exact .nil
  | _, d :: ds, h => by
    cases h with
    | cons h1 h2 => exact .cons (dp_same s d h1) (dp_sameA s ds h2)
end
/-- repr shows it -/
def Shw (d : PyData) : Prop := d.showable = true ∧ d.hasDict = false ∧ d.depth ≤ 30 ∧ d.shown.length ≤ sizeLine
def rReprA (K : PySem.W.Frag) : List V → Hp → VK → Prop := fun xs H Q => ∃ (x : V) (d : PyData), xs = [x] ∧ Dp K H x d ∧ Shw d ∧ Q (.str d.shown) H
variable {X : Cx}
theorem call_reprA (hg : X.A.guards = some []) (hu : X.A.units + 40 < cLine) : CallR X (.builtin "repr") (rReprA X.K) := by
  intro pins s σ H xs us Q I rel ask
  obtain ⟨x, d, rfl, hd, ⟨hs, hn, hdep, hz⟩, q⟩ := ask
  cases hd with
  | non =>
    obtain ⟨u, rfl, ru⟩ := vals1 rel
    cases ru
    exact PySem.P.repr_of_none ⟨.str _, H, I.tok _, ⟨_, rfl⟩, q⟩
  | bl b =>
    obtain ⟨u, rfl, ru⟩ := vals1 rel
    cases ru
    exact PySem.P.repr_of_bool ⟨.str _, H, I.tok _, ⟨_, by cases b <;> rfl⟩, q⟩
  | int i =>
    obtain ⟨u, rfl, t, rfl⟩ := vals1 rel
    exact PySem.P.repr_of_int (by simpa [PyData.showable] using hs) ⟨.str _, H, I.tok _, ⟨_, rfl⟩, q⟩
  | str z =>
    obtain ⟨u, rfl, t, rfl⟩ := vals1 rel
    exact PySem.P.repr_of_str ⟨.str _, H, I.tok _, ⟨_, rfl⟩, q⟩ hz
  | lst h1 h2 => exact RG.call_repr hg hu pins s σ H _ us Q I rel ⟨_, _, rfl, .lst h1 h2, hs, hn, hdep, hz, q⟩
  | tup h1 h2 => exact RG.call_repr hg hu pins s σ H _ us Q I rel ⟨_, _, rfl, .tup h1 h2, hs, hn, hdep, hz, q⟩
theorem pe_either {e : Expr} {t1 t2 : TE} (h1 : PE X e t1) (h2 : PE X e t2) : PE X e (fun σ H Q => t1 σ H Q ∨ t2 σ H Q) := by
  refine ⟨fun pins s σ H Q I h => ?_⟩
  rcases h with h | h
  · exact h1.run pins s σ H Q I h
  · exact h2.run pins s σ H Q I h
open CK in
/-- isinstance(x, (c1, c2)), x any value or an exception that was kept -/
def rIsCT (K : PySem.W.Frag) : List V → Hp → VK → Prop := fun xs H Q => rIsiT K xs H Q ∨ ∃ (a D dd tp : Addr) (fs : List (Str × V)) (cs : List V) (us : List Value) (b : Bool), xs = [.ref a, .ref tp] ∧ H a = some (exk a (.ref D) (some dd)) ∧ H dd = some (.xd fs) ∧ ExcC K D ∧ H tp = some (.tup cs) ∧ Paired ClsV cs us ∧ PySem.W.kitAny K (.ref D) us = some b ∧ Q (.bl b) H
open CK in
theorem call_isCT : CallR X (.builtin "isinstance") (rIsCT X.K) := by
  intro pins s σ H xs us Q I r h
  rcases h with h | ⟨a, D, dd, tp, fs, cs, ws, b, rfl, ha, hdd, C, hT, k, e, q⟩
  · exact call_isiT pins s σ H xs us Q I r h
  · obtain ⟨u1, u2, rfl, r1, r2⟩ := vals2 r
    cases (show u2 = Value.ref tp from r2)
    obtain rfl : u1 = Value.ref a := r1
    obtain ⟨oe, vs, hget, hz, hv⟩ := exk_at I.hok ha
    obtain ⟨mA, hns, hr⟩ := (show ObjOk X.prog X.w H s.heap dd (.xd fs) from I.hok dd _ hdd)
    obtain ⟨od, ho, hl⟩ := lookIn_ns hns
    have J : PySem.W.InstAt s.heap a oe D (some od) := ⟨hget, hz.1, by unfold PySem.W.notCls; rw [hv] <;> rfl, by rw [hz.2]; exact ho⟩
    obtain ⟨_, its, rv, o, h1, h2, n, h3⟩ := (show ObjOk X.prog X.w H s.heap tp (.tup cs) from I.hok tp _ hT)
    have e3 := ClsV.all k rv
    subst e3
    obtain ⟨oc, od2, dt, sl⟩ := o
    simp only at h2 h3
    subst h2 h3
    exact PySem.W.kia_tup (kitD C) I.kIn J h1 e (fun z => nomatch z) fun tk => ⟨.bl b, H, I.tok tk, rfl, q⟩
end RA
set_option Elab.async false
set_option linter.all false
set_option maxRecDepth 100000
set_option maxHeartbeats 1000000
namespace W14
open PySem L2 PySem.Spec PyProof.Rows WR WB WE WS
/-! ### the def that hears what a call refuses -/
abbrev sFault : Stmt := top 74
abbrev nFault : List Str := ["_law_ask", "_law_caught", "error"]
theorem scFault : FnScope nFault ["_law_ask"] (defScope sFault) := ⟨rfl, rfl, rfl, by decide +kernel, rfl, by decide +kernel, by decide +kernel⟩
structure Four (K : PySem.W.Frag) (mg : Str → Option Value) (CBS CMF CNP CTw CH : Addr) : Prop where
  gH : mg "HandleError" = some (.ref CH)
  tS : PySem.W.exmOne K (.ref CBS) (.ref CH) = some true
  tM : PySem.W.exmOne K (.ref CMF) (.ref CH) = some true
  tN : PySem.W.exmOne K (.ref CNP) (.ref CH) = some true
  tT : PySem.W.exmOne K (.ref CTw) (.ref CH) = some true
  fS : PySem.W.findIn K (.ref CBS) "part" = some none
  fM : PySem.W.findIn K (.ref CMF) "part" = some none
  fN : PySem.W.findIn K (.ref CNP) "value" = some none
  fT : PySem.W.findIn K (.ref CTw) "value" = some none
  eS : L2.ExcC K CBS
  eM : L2.ExcC K CMF
  eN : L2.ExcC K CNP
  eT : L2.ExcC K CTw
  nS : PySem.W.kitOne K (.type "NoneType") (.ref CBS) = some false
  nM : PySem.W.kitOne K (.type "NoneType") (.ref CMF) = some false
  nN : PySem.W.kitOne K (.type "NoneType") (.ref CNP) = some false
  nT : PySem.W.kitOne K (.type "NoneType") (.ref CTw) = some false
  MS : PySem.W.kitOne K (.ref CMF) (.ref CBS) = some false
  NS : PySem.W.kitOne K (.ref CNP) (.ref CBS) = some false
  NM : PySem.W.kitOne K (.ref CNP) (.ref CMF) = some false
  TS : PySem.W.kitOne K (.ref CTw) (.ref CBS) = some false
  TM : PySem.W.kitOne K (.ref CTw) (.ref CMF) = some false
  TN : PySem.W.kitOne K (.ref CTw) (.ref CNP) = some false
theorem any_f {K : PySem.W.Frag} {t c : Value} {r : List Value} (h : PySem.W.kitOne K t c = some false) : PySem.W.kitAny K t (c :: r) = PySem.W.kitAny K t r := by
  show (match PySem.W.kitOne K t c with | some true => some true | some false => PySem.W.kitAny K t r | none => none) = _
  rw [h]
theorem any_t {K : PySem.W.Frag} {t c : Value} {r : List Value} (h : PySem.W.kitOne K t c = some true) : PySem.W.kitAny K t (c :: r) = some true := by
  show (match PySem.W.kitOne K t c with | some true => some true | some false => PySem.W.kitAny K t r | none => none) = _
  rw [h]
/-- what is made of an error -/
def EF (K : PySem.W.Frag) (CBS CMF CNP CTw : Addr) (Q : VK) : XK := fun cls d H' => ∃ (D dd : Addr) (fl wd : Str) (v r : V), cls = .ref D ∧ d = some dd ∧ H' dd = some (.xd [(fl, v)]) ∧
  ((D = CBS ∧ fl = "part" ∧ wd = "sewing" ∧ r = v) ∨ (D = CMF ∧ fl = "part" ∧ wd = "misfit" ∧ r = v) ∨ (D = CNP ∧ fl = "value" ∧ wd = "place" ∧ ∃ pd, Dp K H' v pd ∧ RA.Shw pd ∧ r = .str pd.shown) ∨ (D = CTw ∧ fl = "value" ∧ wd = "twice" ∧ ∃ pd, Dp K H' v pd ∧ RA.Shw pd ∧ r = .str pd.shown)) ∧
  ∀ H2, Same H' H2 → ∀ t, H2 t = some (.tup [.str wd, r]) → Q (.ref t) H2
def TFault (K : PySem.W.Frag) (CBS CMF CNP CTw : Addr) : (XK → Hp → VK → Prop) → Hp → VK → Prop := fun tl H Q => ∀ R : VK, (∀ v H', (∀ H2, Same H' H2 → Q .non H2) → R v H') → tl (EF K CBS CMF CNP CTw Q) H R
theorem takes_len {X : Cx} {W : WX} (t : Takes X W) : Takes X (fun cls d σ H => σ.length = X.N.length → W cls d σ H) := fun u s' ⟨a, B, sI, pins, σ, H, cls, d, e, I, nb, up, sky, na, os, ag, w⟩ =>
  t u s' ⟨a, B, sI, pins, σ, H, cls, d, e, I, nb, up, sky, na, os, ag, w I.len⟩
theorem on2 {a : Addr} {σ : L2.St} (h : σ.length = 3) : (σ.set 2 (some (.ref a)))[2]? = some (some (.ref a)) := by
  match σ, h with
  | [_, _, _], _ => rfl
theorem on1 {a : Addr} {σ : L2.St} (h : σ.length = 3) : (((σ.set 2 (some (.ref a))).set 1 (some (.ref a))).set 2 none)[1]? = some (some (.ref a)) := by
  match σ, h with
  | [_, _, _], _ => rfl
theorem fault_gives {X : Cx} {g CBS CMF CNP CTw CH : Addr} {cdg : Value} {q : Str} (N : TN X.mg) (BS : ErrC X.prog X.w X.K X.mg X.base CBS "BadSewing" ["self", "part"] (spI1 "part" CBS)) (MF : ErrC X.prog X.w X.K X.mg X.base CMF "Misfit" ["self", "part"] (spI1 "part" CMF))
    (NP : ErrC X.prog X.w X.K X.mg X.base CNP "NoPlace" ["self", "value"] (spI1 "value" CNP)) (TW : ErrC X.prog X.w X.K X.mg X.base CTw "Twice" ["self", "value"] (spI1 "value" CTw)) (Z : Four X.K X.mg CBS CMF CNP CTw CH) (hg : X.A.guards = some []) (hr : Room 1 X.A) :
    LamX.GivesTo X nFault "_law_fault" (defScope sFault) g cdg (defBody sFault) "_law_ask" q (TFault X.K CBS CMF CNP CTw) := by
  intro f c' s H Q tl act hc h
  have hu : X.A.units + 64 < cLine := hr.units
  refine ⟨_, pss_cons (ps_set (i := 1) scFault.nd rfl (Or.inl rfl) pe_non)
    (pss_cons (CK.ps_try_keep (X := (cxOf C8.CX0 X.prog X.w X.K X.mg X.base nFault "_law_fault" (defScope sFault) g cdg X.A X.stack s H C8.E0).nox) (i := 2) (out := fun _ _ _ _ => False) (c := .ref CH)
      (say := fun _ _ _ => tAsg (tVar 2) (gName 1))
      (tb := fun W D σ H => ∃ Ech : XK, (∀ cls d σ' H', Ech cls d H' → σ'.length = 3 → W cls d σ' H') ∧ σ[0]? = some (some (.ref f)) ∧ H c' = some (LamX.CodeO c' q) ∧ tl Ech H (fun _ H' => D.nx σ H'))
      rfl rfl rfl LamX.takes0 (fun W pn xe tk _ => ?_)
      scFault.nd rfl rfl ⟨rfl, by decide, .inl Z.gH⟩ (fun a oe cls d pn hz hf => pss_one (ps_set (i := 1) scFault.nd rfl (Or.inl rfl) (pv 2))))
    (pss_cons (ps_if (pt_val (pe_callB CK.call_isC (by rfl) N.isinstance (by decide +kernel) (pa_cons (pv 1) (pa_cons (pe_glob (v := .ref CBS) (by rfl) BS.g rfl) pa_nil)))) (pss_one (ps_ret (pe_tup (pa_cons pe_str (pa_cons (CK.pe_kf BS.xf Z.fS (pv 1)) pa_nil))))) pss_nil)
    (pss_cons (ps_if (pt_val (pe_callB CK.call_isC (by rfl) N.isinstance (by decide +kernel) (pa_cons (pv 1) (pa_cons (pe_glob (v := .ref CMF) (by rfl) MF.g rfl) pa_nil)))) (pss_one (ps_ret (pe_tup (pa_cons pe_str (pa_cons (CK.pe_kf MF.xf Z.fM (pv 1)) pa_nil))))) pss_nil)
    (pss_cons (ps_if (pt_val (pe_callB RA.call_isCT (by rfl) N.isinstance (by decide +kernel) (pa_cons (pv 1) (pa_cons (pe_tup (pa_cons (pe_glob (v := .ref CNP) (by rfl) NP.g rfl) (pa_cons (pe_glob (v := .ref CTw) (by rfl) TW.g rfl) pa_nil))) pa_nil))))
      (pss_one (ps_ret (pe_tup (pa_cons (pe_ifExp (pt_val (pe_callB CK.call_isC (by rfl) N.isinstance (by decide +kernel) (pa_cons (pv 1) (pa_cons (pe_glob (v := .ref CNP) (by rfl) NP.g rfl) pa_nil)))) pe_str pe_str)
        (pa_cons (pe_callB (RA.call_reprA hg (by show X.A.units + 3 + 40 < cLine; omega)) (by rfl) N.repr (by decide +kernel) (pa_cons (RA.pe_either (CK.pe_kf NP.xf Z.fN (pv 1)) (CK.pe_kf TW.xf Z.fT (pv 1))) pa_nil)) pa_nil))))) pss_nil)
    (pss_one (ps_ret (pe_ifExp (pt_cmpR op_isN (pv 1) pe_non (nomark _)) pe_non (pe_tup (pa_cons pe_str (pa_cons pe_non pa_nil)))))))))), ?_⟩
  · refine ⟨fun pins s' σ H' D I h' => ?_⟩
    obtain ⟨Ech, hW, h1, h2, h3⟩ := h'
    exact (pss_one (ps_expr (act _ pn xe Ech _ _ (takes_len tk) (fun cls d σ' H' h hl => hW cls d σ' H' h hl)))).run pins s' σ H' D I ⟨h1, h2, h3⟩
  · refine ⟨EF X.K CBS CMF CNP CTw Q, fun cls d σ' H' h1 h2 => ?_, rfl, hc, ?_⟩
    · obtain ⟨D, dd, fl, wd, v, r, rfl, rfl, h4, hk, hq⟩ := h1
      have tD : PySem.W.exmOne X.K (.ref D) (.ref CH) = some true := by
        rcases hk with ⟨rfl, _⟩ | ⟨rfl, _⟩ | ⟨rfl, _⟩ | ⟨rfl, _⟩
        · exact Z.tS
        · exact Z.tM
        · exact Z.tN
        · exact Z.tT
      refine ⟨true, tD, fun _ a ha => ?_, fun z => Bool.noConfusion z⟩
      have sa : Same H' (L2.upd H' a (CK.exk a (.ref D) (some dd))) := same_upd ha
      have hdd : (L2.upd H' a (CK.exk a (.ref D) (some dd))) dd = some (.xd [(fl, v)]) := sa _ _ h4
      have hat : (L2.upd H' a (CK.exk a (.ref D) (some dd))) a = some (CK.exk a (.ref D) (some dd)) := upd_same
      refine ⟨_, on2 h2, ?_⟩
      rcases hk with ⟨rfl, rfl, rfl, rfl⟩ | ⟨rfl, rfl, rfl, rfl⟩ | ⟨rfl, rfl, rfl, pd, hp, hs, rfl⟩ | ⟨rfl, rfl, rfl, pd, hp, hs, rfl⟩
      · refine ⟨_, on1 h2, .inr ⟨a, D, dd, _, .ref D, .ref D, true, rfl, hat, hdd, Z.eS, fun u hu => hu, kit_self D, ?_⟩⟩
        refine ⟨_, rfl, iteT ?_⟩
        exact ⟨_, on1 h2, a, dd, _, _, rfl, hat, hdd, lk_eq, by show 2 ≤ sizeLine; decide, fun t ht => hq _ (sa.trans (same_upd ht)) t upd_same⟩
      · refine ⟨_, on1 h2, .inr ⟨a, D, dd, _, .ref CBS, .ref CBS, false, rfl, hat, hdd, Z.eM, fun u hu => hu, Z.MS, ?_⟩⟩
        refine ⟨_, rfl, iteF ?_⟩
        refine ⟨_, on1 h2, .inr ⟨a, D, dd, _, .ref D, .ref D, true, rfl, hat, hdd, Z.eM, fun u hu => hu, kit_self D, ?_⟩⟩
        refine ⟨_, rfl, iteT ?_⟩
        exact ⟨_, on1 h2, a, dd, _, _, rfl, hat, hdd, lk_eq, by show 2 ≤ sizeLine; decide, fun t ht => hq _ (sa.trans (same_upd ht)) t upd_same⟩
      · refine ⟨_, on1 h2, .inr ⟨a, D, dd, _, .ref CBS, .ref CBS, false, rfl, hat, hdd, Z.eN, fun u hu => hu, Z.NS, ?_⟩⟩
        refine ⟨_, rfl, iteF ?_⟩
        refine ⟨_, on1 h2, .inr ⟨a, D, dd, _, .ref CMF, .ref CMF, false, rfl, hat, hdd, Z.eN, fun u hu => hu, Z.NM, ?_⟩⟩
        refine ⟨_, rfl, iteF ?_⟩
        refine ⟨_, on1 h2, by show 2 ≤ sizeLine; decide, fun tp htp => ?_⟩
        have sb := same_upd (o := .tup [V.ref D, V.ref CTw]) htp
        refine .inr ⟨a, D, dd, tp, _, [V.ref D, V.ref CTw], [.ref D, .ref CTw], true, rfl, sb _ _ hat, sb _ _ hdd, Z.eN, upd_same, .cons (.own D) (.cons (.own CTw) .nil), any_t (kit_self D), ?_⟩
        refine ⟨_, rfl, iteT ?_⟩
        refine ⟨_, on1 h2, .inr ⟨a, D, dd, _, .ref D, .ref D, true, rfl, sb _ _ hat, sb _ _ hdd, Z.eN, fun u hu => hu, kit_self D, ?_⟩⟩
        refine ⟨_, rfl, iteT ?_⟩
        refine .inl ⟨_, on1 h2, a, dd, _, v, rfl, sb _ _ hat, sb _ _ hdd, lk_eq, v, pd, rfl, RA.dp_same (sa.trans sb) pd hp, hs, by show 2 ≤ sizeLine; decide, fun t ht => hq _ ((sa.trans sb).trans (same_upd ht)) t upd_same⟩
      · refine ⟨_, on1 h2, .inr ⟨a, D, dd, _, .ref CBS, .ref CBS, false, rfl, hat, hdd, Z.eT, fun u hu => hu, Z.TS, ?_⟩⟩
        refine ⟨_, rfl, iteF ?_⟩
        refine ⟨_, on1 h2, .inr ⟨a, D, dd, _, .ref CMF, .ref CMF, false, rfl, hat, hdd, Z.eT, fun u hu => hu, Z.TM, ?_⟩⟩
        refine ⟨_, rfl, iteF ?_⟩
        refine ⟨_, on1 h2, by show 2 ≤ sizeLine; decide, fun tp htp => ?_⟩
        have sb := same_upd (o := .tup [V.ref CNP, V.ref D]) htp
        refine .inr ⟨a, D, dd, tp, _, [V.ref CNP, V.ref D], [.ref CNP, .ref D], true, rfl, sb _ _ hat, sb _ _ hdd, Z.eT, upd_same, .cons (.own CNP) (.cons (.own D) .nil), (any_f Z.TN).trans (any_t (kit_self D)), ?_⟩
        refine ⟨_, rfl, iteT ?_⟩
        refine ⟨_, on1 h2, .inr ⟨a, D, dd, _, .ref CNP, .ref CNP, false, rfl, sb _ _ hat, sb _ _ hdd, Z.eT, fun u hu => hu, Z.TN, ?_⟩⟩
        refine ⟨_, rfl, iteF ?_⟩
        refine .inr ⟨_, on1 h2, a, dd, _, v, rfl, sb _ _ hat, sb _ _ hdd, lk_eq, v, pd, rfl, RA.dp_same (sa.trans sb) pd hp, hs, by show 2 ≤ sizeLine; decide, fun t ht => hq _ ((sa.trans sb).trans (same_upd ht)) t upd_same⟩
    · refine h _ fun v H' hq => ?_
      refine ⟨_, rfl, .inl ⟨_, _, _, _, _, rfl, .own CBS, Typ.non.ty, Z.nS, ?_⟩⟩
      refine ⟨_, rfl, iteF ?_⟩
      refine ⟨_, rfl, .inl ⟨_, _, _, _, _, rfl, .own CMF, Typ.non.ty, Z.nM, ?_⟩⟩
      refine ⟨_, rfl, iteF ?_⟩
      refine ⟨_, rfl, by show 2 ≤ sizeLine; decide, fun tp htp => .inl ⟨_, tp, _, _, _, _, rfl, upd_same, .cons (.own CNP) (.cons (.own CTw) .nil), Typ.non.ty, (any_f Z.nN).trans (any_f Z.nT), ?_⟩⟩
      refine ⟨_, rfl, iteF ?_⟩
      exact ⟨_, rfl, rfl, _, rfl, iteT (hq _ (same_upd htp))⟩
end W14
set_option Elab.async false
set_option linter.all false
set_option maxRecDepth 100000
set_option maxHeartbeats 1000000
namespace W14
open PySem L2 PySem.Spec PyProof.Rows WR WB WE WS
/-! ### exchanges of exchanges -/
theorem swpF_ext {mt nt : List Int} (hl : mt.length = nt.length) (p1 : ∀ z ∈ mt, 0 ≤ z) (p2 : ∀ z ∈ nt, 0 ≤ z) (h : ∀ i, i < mt.length → mtn mt i = mtn nt i) : mt = nt := by
  refine List.ext_getElem hl fun i h1 h2 => ?_
  have := h i h1
  have a1 := p1 _ (List.getElem_mem h1)
  have a2 := p2 _ (List.getElem_mem h2)
  unfold mtn at this
  rw [getD_lt h1, getD_lt h2] at this
  omega
theorem MatesOk.pos {n : Nat} {mt : List Int} (h : MatesOk n mt) : ∀ z ∈ mt, 0 ≤ z := fun z hz => (h.2 z hz).1
theorem swpF_comm (mt : List Int) (p q : Nat) : swpF mt p q = swpF mt q p := by
  unfold swpF
  refine List.map_congr_left fun i _ => ?_
  rw [Cy.swp_comm p q i, Cy.swp_comm p q]
section
variable {n : Nat} {mt : List Int} {a b c : Nat}
theorem swpF_back (h : PairOk n mt) (ha : a < n) (hb : b < n) : swpF (swpF mt a b) a b = mt := by
  have h1 := swpF_pair h ha hb
  have h2 := swpF_pair h1 ha hb
  refine swpF_ext (by rw [swpF_len, swpF_len]) h2.1.pos h.1.pos fun i hi => ?_
  rw [swpF_len, swpF_len] at hi
  have hs : Cy.swp a b i < mt.length := by rw [h.1.1]; exact Cy.swp_lt ha hb (by rw [← h.1.1]; exact hi)
  rw [swpF_mtn (by rw [swpF_len]; exact hi), swpF_mtn hs, Cy.swp_swp, Cy.swp_swp]
theorem swpF_mates (h : PairOk n mt) (ha : a < n) (hb : b < n) (nab : a ≠ b) (nma : mtn mt a ≠ b) : swpF (swpF mt a b) (mtn mt a) (mtn mt b) = mt := by
  have nmb : mtn mt b ≠ a := fun e => nma (by rw [← e]; exact (pair_inv h hb).1)
  have na := (pair_inv h ha).2
  have nb := (pair_inv h hb).2
  have ia := (pair_inv h ha).1
  have ib := (pair_inv h hb).1
  have la := (mtn_at h.1 ha).1
  have lb := (mtn_at h.1 hb).1
  have h1 := swpF_pair h ha hb
  have h2 := swpF_pair h1 la lb
  refine swpF_ext (by rw [swpF_len, swpF_len]) h2.1.pos h.1.pos fun i hi => ?_
  rw [swpF_len, swpF_len, h.1.1] at hi
  have hl : mt.length = n := h.1.1
  have st : ∀ j, j < n → mtn (swpF mt a b) j = Cy.swp a b (mtn mt (Cy.swp a b j)) := fun j hj => swpF_mtn (by omega)
  rw [swpF_mtn (by rw [swpF_len]; omega), st _ (Cy.swp_lt la lb hi)]
  by_cases h1 : i = a
  · subst h1
    rw [Cy.swp_o (fun e => na e.symm) (fun e => nmb e.symm), Cy.swp_l, Cy.swp_o nmb nb, Cy.swp_r]
  · by_cases h2 : i = b
    · subst h2
      rw [Cy.swp_o (fun e => nma e.symm) (fun e => nb e.symm), Cy.swp_r, Cy.swp_o na nma, Cy.swp_l]
    · by_cases h3 : i = mtn mt a
      · rw [h3, Cy.swp_l, Cy.swp_o nmb nb, ib, Cy.swp_r, ia, Cy.swp_o (fun e => na e.symm) (fun e => nmb e.symm)]
      · by_cases h4 : i = mtn mt b
        · rw [h4, Cy.swp_r, Cy.swp_o na nma, ia, Cy.swp_l, ib, Cy.swp_o (fun e => nma e.symm) (fun e => nb e.symm)]
        · have e1 : mtn mt i ≠ a := fun e => h3 (by rw [← e, (pair_inv h hi).1])
          have e2 : mtn mt i ≠ b := fun e => h4 (by rw [← e, (pair_inv h hi).1])
          have e3 : mtn mt i ≠ mtn mt a := fun e => h1 (by rw [← (pair_inv h hi).1, e, ia])
          have e4 : mtn mt i ≠ mtn mt b := fun e => h2 (by rw [← (pair_inv h hi).1, e, ib])
          rw [Cy.swp_o h3 h4, Cy.swp_o h1 h2, Cy.swp_o e1 e2, Cy.swp_o e3 e4]
theorem swp3 (nab : a ≠ b) (nbc : b ≠ c) (nac : a ≠ c) (x : Nat) : Cy.swp a b (Cy.swp b c (Cy.swp a b x)) = Cy.swp a c x := by
  by_cases h1 : x = a
  · subst h1
    rw [Cy.swp_l, Cy.swp_l, Cy.swp_o nac.symm nbc.symm, Cy.swp_l]
  · by_cases h2 : x = b
    · subst h2
      rw [Cy.swp_r, Cy.swp_o nab nac, Cy.swp_l, Cy.swp_o nab.symm nbc]
    · by_cases h3 : x = c
      · subst h3
        rw [Cy.swp_o h1 h2, Cy.swp_r, Cy.swp_r, Cy.swp_r]
      · rw [Cy.swp_o h1 h2, Cy.swp_o h2 h3, Cy.swp_o h1 h2, Cy.swp_o h1 h3]
theorem swpF_three (h : PairOk n mt) (ha : a < n) (hb : b < n) (hc : c < n) (nab : a ≠ b) (nbc : b ≠ c) (nac : a ≠ c) : swpF (swpF (swpF mt a b) b c) a b = swpF mt a c := by
  have h1 := swpF_pair h ha hb
  have h2 := swpF_pair h1 hb hc
  have h3 := swpF_pair h2 ha hb
  have h4 := swpF_pair h ha hc
  refine swpF_ext (by simp only [swpF_len]) h3.1.pos h4.1.pos fun i hi => ?_
  simp only [swpF_len] at hi
  have hl : mt.length = n := h.1.1
  have s1 : Cy.swp a b i < n := Cy.swp_lt ha hb (by omega)
  have s2 : Cy.swp b c (Cy.swp a b i) < n := Cy.swp_lt hb hc s1
  rw [swpF_mtn (by simp only [swpF_len]; omega), swpF_mtn (by simp only [swpF_len]; omega), swpF_mtn (by omega), swpF_mtn (by omega), swp3 nab nbc nac, swp3 nab nbc nac]
end
theorem pc_one {ws : List (List Int)} (h : ws.length = 1) (mt : List Int) : (pcF ws mt).length = 1 := by
  unfold pcF
  rw [h]
  rfl
theorem hand_one {ws : List (List Int)} (h : ws.length = 1) {mt nt : List Int} (hc : costF ws nt = costF ws mt - 2 ∨ costF ws nt = costF ws mt ∨ costF ws nt = costF ws mt + 2) : 2 * (handF ws nt - handF ws mt) = costF ws nt - costF ws mt := by
  unfold handF
  rw [pc_one h, pc_one h, h]
  omega
theorem for_lc {K : PySem.W.Frag} {wi : TI} {g gg : TG} {tt : TT} {te : TE} {vs : List Nat} {tb : TS} {D : Ends} {σ : L2.St} {H : Hp}
    (h : wi σ H fun J H1 => tLc (fun _ H R => R J H) g tt te vs σ H1 fun u H4 => tFor (iList K (fun _ H Q => Q u H)) gg tb D σ H4) : tFor (iList K (tLc wi g tt te vs)) gg tb D σ H := h

theorem SewAt.kept {K : PySem.W.Frag} {C CR CS : Addr} {H H' : Hp} {D p rp : Addr} {xs : List Addr} {ws : List (List Int)} {mt : List Int} {us : List V} (h : SewAt K C CR CS H p rp xs ws mt) (hD : H D = some (.lst us)) (d : Kept D H H') : SewAt K C CR CS H' p rp xs ws mt := by
  have kB : ∀ {a ys}, SqB K H a ys → SqB K H' a ys := fun h => SqB.keptL hD d h
  have kI : ∀ {a C dx fs}, H a = some (.ins C dx fs) → H' a = some (.ins C dx fs) := fun {a C dx fs} e => d _ _ (fun z => by rw [z, hD] at e; cases e) e
  have kC : ∀ {a cs}, CornAt K H a cs → CornAt K H' a cs := fun ⟨vs, h1, h2⟩ => ⟨vs, kB h1, h2.imp fun _ _ ⟨q, e, r⟩ => ⟨q, e, kB r⟩⟩
  obtain ⟨dx, tm, tc, tp, h1, ⟨d2, tw, tl, th, tn, r1, r2, r3, r4, r5, r6⟩, h3, h4, h5⟩ := h
  refine ⟨dx, tm, tc, tp, kI h1, ⟨d2, tw, tl, th, tn, kI r1, kB r2, r3.imp fun a ns wa => ?_, kB r4, kB r5, kB r6⟩, kB h3, kC h4, kC h5⟩
  obtain ⟨dx, tl, tk, ks, w1, w2, w3, w4⟩ := wa
  exact ⟨dx, tl, tk, ks, kI w1, kB w2, SqT.keptL hD d w3, w4⟩
theorem HandAt.lst {H : Hp} {a c : Addr} {n : Nat} (h : HandAt H a c n) : ∃ xs, H a = some (.lst xs) := by
  obtain ⟨ns, i, r, h1, _⟩ := h
  exact ⟨_, h1⟩
theorem HandAt.ne_iv {H : Hp} {a c m : Addr} {n : Nat} {ns : List Int} (h : HandAt H a c n) (hm : H m = some (.lst (iv ns))) : m ≠ a := fun e => by
  obtain ⟨_, i, r, h1, _⟩ := h
  rw [← e, hm] at h1
  cases ns with
  | nil => cases h1
  | cons x t => cases h1
theorem HandAt.ne_refs {H : Hp} {a c p : Addr} {n : Nat} {us : List V} (h : HandAt H a c n) (hp : H p = some (.lst us)) (hr : ∀ v ∈ us, ∃ q, v = V.ref q) : p ≠ a := fun e => by
  obtain ⟨_, i, r, h1, _⟩ := h
  rw [← e, hp] at h1
  injection h1 with h1
  injection h1 with h1
  obtain ⟨q, e2⟩ := hr (.int i) (by rw [h1]; simp)
  cases e2
theorem LLs.refs {H : Hp} {us : List V} {ws : List (List Int)} (h : LLs H us ws) : ∀ v ∈ us, ∃ q, v = V.ref q := fun v hv => by
  obtain ⟨i, hi, e⟩ := List.getElem_of_mem hv
  obtain ⟨w, _, q, e2, _⟩ := h.at (List.getElem?_eq_getElem hi)
  exact ⟨q, by rw [← e, e2]⟩
theorem LLs.drew {H H' : Hp} {a c : Addr} {n m : Nat} {us : List V} {ws : List (List Int)} (h : LLs H us ws) (hH : HandAt H a c n) (d : Drew a c m H H') : LLs H' us ws := h.imp fun _ _ ⟨q, e, g⟩ => ⟨q, e, d.2 _ _ (hH.ne_iv g) g⟩
theorem swp_dec {mt : List Int} {a b : Nat} {ws : List (List Int)} : decide (ws = ws ∧ swpF mt b a = swpF mt a b) = true := decide_eq_true ⟨rfl, swpF_comm _ _ _⟩
def gvEx (zs : List V) : List V := match zs with | [a, b, c] => [c, a, b] | _ => []
structure SewO (P : Program) (w : World) (K : PySem.W.Frag) (mg : Str → Option Value) (base : Heap) (C CR CS : Addr) : Prop where
  T : TxW K mg C
  TC : TxRC K mg CR
  TS : TxSC K mg CS
  ER : EqR P w K mg base C CR
  rn : PySem.W.findIn K (.ref CR) "__ne__" = some (some (.builtin "object.__ne__"))
  ES : OE.Eq P w K mg base CS 4 (SewEq K C CR CS)
theorem cpl_place {ws : List (List Int)} {x : Nat × Nat} (hx : x ∈ cplF ws.flatten ws.flatten.length) : x.1 < ws.flatten.length ∧ x.2 < ws.flatten.length ∧ x.1 ≠ x.2 ∧ ws.flatten.getD x.1 0 = ws.flatten.getD x.2 0 := by
  obtain ⟨h1, h2, h3, h4⟩ := cplF_mem.mp hx
  exact ⟨h1, h2, h3, h4.symm⟩
theorem mate_ne {ls mt : List Int} (h : MatOk ls mt) (lt : Lts ls) {a b : Nat} (ha : a < ls.length) (e : ls.getD a 0 = ls.getD b 0) : mtn mt a ≠ b := fun q => by
  have hl : a < mt.length := by rw [h.1.1.1]; exact ha
  have hm := h.2 a hl
  have e2 : mt[a].toNat = mtn mt a := by
    show _ = (mt.getD a 0).toNat
    rw [getD_lt hl]
  rw [e2, q, ← e] at hm
  have := lt _ (List.getElem_mem ha)
  rw [← getD_lt ha] at this
  omega
/-- exchanged, where it can be -/
theorem exch_good {K : PySem.W.Frag} {C CR CS CBS CNP CTw CMF : Addr} {H : Hp} {Q : VK} {E : XK} {p rp : Addr} {xs : List Addr} {ws : List (List Int)} {mt : List Int} {a b : Nat} (hS : SewAt K C CR CS H p rp xs ws mt) (ok : RimOk ws) (mok : MatOk ws.flatten mt)
    (ha : a < ws.flatten.length) (hb : b < ws.flatten.length) (nab : a ≠ b) (e : ws.flatten.getD a 0 = ws.flatten.getD b 0) (k : ∀ q H', Same H H' → SewAt K C CR CS H' q rp xs ws (swpF mt a b) → Q (.ref q) H') : spExch K C CR CS CBS CNP CTw CMF [.ref p, .int (a : Int), .int (b : Int)] H Q E :=
  ⟨_, _, _, rfl, .inr ⟨p, rp, xs, ws, mt, "int", "int", rfl, hS, ok, mok, .int _, .int _, .inr (.inr ⟨a, b, rfl, rfl, ha, hb, .inr (.inr ⟨nab, e, k⟩)⟩)⟩⟩
def spER (K : PySem.W.Frag) (C CR CS : Addr) : Sp := fun vs H Q _ => ∃ (a c p s m rp : Addr) (us : List V) (xs : List Addr) (ws : List (List Int)) (mt : List Int) (n : Nat), vs = [.ref a, .ref p, .ref s, .ref m] ∧ HandAt H a c n ∧ n ≤ 6000 ∧ H p = some (.lst us) ∧ LLs H us ws ∧ RimOk ws ∧
  SewAt K C CR CS H s rp xs ws mt ∧ MatOk ws.flatten mt ∧ H m = some (.lst (iv mt)) ∧ 0 < (cplF ws.flatten ws.flatten.length).length ∧ ∀ H', Drew a c (n + 4) H H' → Q (.bl true) H'
abbrev sER : Stmt := top 78
abbrev nER : List Str := ["_law_pen_here", "_law_words", "_law_sewing", "_law_mates_here", "_law_letters_here", "_law_one", "_law_other", "_law_told", "_law_due", "_law_more", "_law_turn"]
theorem scER : FnScope nER ["_law_pen_here", "_law_words", "_law_sewing", "_law_mates_here"] (defScope sER) := ⟨rfl, rfl, rfl, by decide +kernel, rfl, by decide +kernel, by decide +kernel⟩
section
variable {P : Program} {w : World} {K : PySem.W.Frag} {mg : Str → Option Value} {base : Heap} {C CR CS CBS CNP CTw CMF : Addr}
theorem ok_ER {f : Addr} {fd : FuncData} (F : Fun K "_law_exchange_right" "_law_exchange_right" sER f fd) (N : TN mg) (O : SewO P w K mg base C CR CS) (EK : CalKX P w K mg base "exchanged" 8 ["sewing", "place", "other"] ["place", "other", "sewing"] gvEx (spExch K C CR CS CBS CNP CTw CMF)) (G_letters : Cal P w K mg base "_law_letters" 1 ["_law_words"] (spLets)) (G_pick : Cal P w K mg base "_law_pick" 2 ["_law_pen_here", "_law_some"] (spPick)) (G_couples : Cal P w K mg base "_law_couples" 1 ["_law_letters_here"] (spCpl K)) (G_exchanged : CalX P w K mg base "exchanged" 8 ["sewing", "place", "other"] (spExch K C CR CS CBS CNP CTw CMF)) (G_swapped : Cal P w K mg base "_law_swapped" 1 ["_law_mates_here", "_law_one", "_law_other"] (spSwp K)) (G_cost : Cal P w K mg base "_law_cost" 3 ["_law_words", "_law_mates_here"] (spCost K)) : FnOk P w K mg base CX0 9 f fd ["_law_pen_here", "_law_words", "_law_sewing", "_law_mates_here"] (spER K C CR CS) := by
  refine F.ok scER (fun vs H Q E h => ?_) (fun cdv A outer s H vs Q E hr h => ?_)
  · obtain ⟨a, c, p, s, m, rp, us, xs, ws, mt, n, rfl, _⟩ := h
    rfl
  · obtain ⟨a, c, p, s, m, rp, us, xs, ws, mt, n, rfl, hH, hn, hp, hu, ok, hS, mok, hm, hcp, k⟩ := h
    refine ⟨_, pss_cons (ps_set (i := 4) scER.nd rfl (Or.inr rfl) (pe_cal G_letters hr (by decide) (by rfl) (pa_cons (pv 1) pa_nil)))
      (pss_cons (ps_for PassesOwn.never rfl (pi_list (pe_lc (own := [("_law_turn", 10)]) (g := gName 10) (tt := tYes) rfl scER.nd (pi_range1 (by rfl) N.range (pa_cons pe_int pa_nil)) (blkOk_by (N := nER) (sc := defScope sER) (by decide +kernel)) (fun _ _ _ _ _ => (pg_name (i := 10) scER.nd rfl (Or.inl rfl))) (fun _ _ _ _ _ => pts_nil) (fun _ _ _ _ _ => (pe_cal G_pick hr (by decide) (by rfl) (pa_cons (pv 0) (pa_cons (pe_cal G_couples hr (by decide) (by rfl) (pa_cons (pv 4) pa_nil)) pa_nil)))))) (pg_tup (n := 2) rfl (pgs_cons (pg_name (i := 5) scER.nd rfl (Or.inl rfl)) (pgs_cons (pg_name (i := 6) scER.nd rfl (Or.inl rfl)) pgs_nil)))
      (pss_cons (ps_par (i := 7) (j := 8) (by rfl) scER.nd rfl rfl (by decide) rfl rfl (pa_cons (pe_calKX EK hr (by decide) (by rfl) (pk_cons (pv 5) (pk_cons (pv 6) (pk_cons (pv 2) pk_nil)))) (pa_cons (pe_cal G_swapped hr (by decide) (by rfl) (pa_cons (pv 3) (pa_cons (pv 5) (pa_cons (pv 6) pa_nil)))) pa_nil)) (by rfl))
      (pss_cons (ps_if (PW.pt (pw_or (pt_cmpR (op_neD hr.units) (pe_fld (pv 7) rfl) (pv 8) (nomark _)) (pw_or (pt_cmpR (op_neR O.ER O.rn O.TC.cm hr (by decide)) (pe_fld (pv 7) rfl) (pe_fld (pv 2) rfl) (nomark _)) (pw_or (pt_cmpR (op_neD hr.units) (pe_fld (pv 2) rfl) (pe_callTy call_tupB (by rfl) N.tuple (by decide +kernel) (pa_cons (pv 3) pa_nil)) (nomark _)) (pw_or1 (pt_cmpR (OE.op_n O.ES hr (by decide)) (pe_calX G_exchanged hr (by decide) passF (by rfl) (pa_cons (pv 2) (pa_cons (pv 6) (pa_cons (pv 5) pa_nil)))) (pv 7) (nomark _))))))) (pss_one (ps_ret pe_bl)) pss_nil)
      (pss_cons (ps_set (i := 9) scER.nd rfl (Or.inl rfl) (pe_op op_sub (pe_cal G_cost hr (by decide) (by rfl) (pa_cons (pv 1) (pa_cons (pv 8) pa_nil))) (pe_cal G_cost hr (by decide) (by rfl) (pa_cons (pv 1) (pa_cons (pv 3) pa_nil)))))
      (pss_cons (ps_if (PW.pt (pw_or (pt_cmpR op_ne (pe_fld (pv 7) rfl) (pe_cal G_cost hr (by decide) (by rfl) (pa_cons (pv 1) (pa_cons (pv 8) pa_nil))) (nomark _)) (pw_or (pt_cmpR op_notIn_seq (pv 9) (pe_tupB (pa_cons (pe_un un_neg pe_int) (pa_cons pe_int (pa_cons pe_int pa_nil)))) (by rfl)) (pw_or1 (PW.pt (pw_and (pt_cmpR op_eq (pe_callB call_len_seq (by rfl) N.len PySem.boot_len (pa_cons (pv 1) pa_nil)) pe_int (nomark _)) (pw_and1 (pt_cmpR op_ne (pe_op op_mul pe_int (pe_op op_sub (pe_fld (pv 7) rfl) (pe_fld (pv 2) rfl))) (pv 9) (nomark _))))))))) (pss_one (ps_ret pe_bl)) pss_nil)
      (pss_one (ps_if (PW.pt (pw_or (pt_cmpR (OE.op_n O.ES hr (by decide)) (pe_calX G_exchanged hr (by decide) passF (by rfl) (pa_cons (pv 7) (pa_cons (pv 5) (pa_cons (pv 6) pa_nil)))) (pv 2) (nomark _)) (pw_or1 (pt_cmpR (OE.op_n O.ES hr (by decide)) (pe_calX G_exchanged hr (by decide) passF (by rfl) (pa_cons (pv 7) (pa_cons (pe_ix ix_list (pv 3) (pv 5) (fun _ _ => rfl)) (pa_cons (pe_ix ix_list (pv 3) (pv 6) (fun _ _ => rfl)) pa_nil)))) (pv 2) (nomark _))))) (pss_one (ps_ret pe_bl)) pss_nil)))))))
      (pss_one (ps_ret pe_bl))), ?_⟩
    obtain ⟨o1, o2, o3, o4, o5, o6⟩ := id ok
    have hpa := hH.ne_refs hp hu.refs
    have hma := hH.ne_iv hm
    refine ⟨_, rfl, p, us, ws, rfl, hp, hu, by omega, fun lq H1 hlq0 s1 g1 => ?_⟩
    refine at_set ?_
    try dsimp only
    refine for_lc (K := K) ?_
    have hH1 := hH.same s1
    refine ⟨4, rfl, by decide, by decide, fun D hD => ?_⟩
    have hDa := hH1.ne hD
    have hDc := hH1.neC hD
    refine lc_range (lo := 0) (n := (4 : Int).toNat) (fun i H' => Drew a c (n + i) H1 H' ∧ ∃ vs, H' D = some (.lst vs) ∧ vs.length = i ∧ ∀ v ∈ vs, ∃ x ∈ cplF ws.flatten ws.flatten.length, PrI K H' v x) ⟨(Drew.refl hH1).new hD, [], upd_same, rfl, fun _ h => nomatch h⟩ ?_ ?_
    · rintro i H2 hi ⟨D2, vs, gD, lv, hv⟩
      have hi4 : i < 4 := hi
      refine ⟨rfl, yes_te ?_⟩
      have g2 := D2.2 _ _ (hH1.ne_iv g1) g1
      refine ⟨_, rfl, _, rfl, lq, ws.flatten, rfl, g2, by omega, fun lc H3 us3 hlc s3 g3 hc3 => ?_⟩
      have D3 := D2.same s3
      refine ⟨a, c, lc, us3, n + i, rfl, D3.1, by omega, D2.1.ne hlc, g3, by rw [hc3.length]; exact hcp, ?_, fun v hv3 H4 D4 => ?_⟩
      · rw [hc3.length]
        refine Nat.le_trans (cplF_len _ _) (Nat.le_trans (Nat.mul_le_mul o4 o4) (by decide))
      have gD4 := D4.2 _ _ hDa (s3 _ _ gD)
      have pk : ∀ {w : V} {x : Nat × Nat}, PrI K H3 w x → PrI K H4 w x := fun {w x} ⟨t, e, q⟩ => by
        obtain ⟨xs3, hx3⟩ := D3.1.lst
        exact ⟨t, e, SqT.keptL hx3 D4.2 q⟩
      refine ⟨vs, gD4, Evl.sz_lt (by omega), ((D3.trans D4).put hD hDa hDc), vs ++ [v], upd_same, by rw [List.length_append, lv]; rfl, fun w hw => ?_⟩
      rcases List.mem_append.mp hw with hw | hw
      · obtain ⟨x, hx, px⟩ := hv w hw
        exact ⟨x, hx, (pk (px.same s3)).put gD4⟩
      · rw [List.mem_singleton.mp hw]
        obtain ⟨j, hj, e⟩ := List.getElem_of_mem hv3
        obtain ⟨x, hx, px⟩ := hc3.at (List.getElem?_eq_getElem hj)
        rw [e] at px
        exact ⟨x, List.mem_of_getElem? hx, (pk px).put gD4⟩
    rintro H3 ⟨D3, vs, gD, lv, hv⟩
    have hS3 : SewAt K C CR CS H3 s rp xs ws mt := by
      obtain ⟨xs1, hx1⟩ := hH1.lst
      exact (hS.same s1).kept hx1 D3.2
    have hp3 := D3.2 _ _ hpa (s1 _ _ hp)
    have hm3 := D3.2 _ _ hma (s1 _ _ hm)
    have hu3 := (hu.same s1).drew hH1 D3
    refine ⟨D, rfl, ⟨_, SqL.of gD⟩, for_list (K := K) (a := D) (xs := vs) (fun i σ H' => ∃ v5 v6 v7 v8 v9 : Option V, σ = [some (.ref a), some (.ref p), some (.ref s), some (.ref m), some (.ref lq), v5, v6, v7, v8, v9, none] ∧ Same H3 H') ⟨none, none, none, none, none, rfl, Same.refl _⟩ (fun i σ H' _ ⟨_, _, _, _, _, _, s⟩ => SqL.of (s _ _ gD)) ?_ ?_⟩
    · rintro i x σ H4 hi ⟨v5, v6, v7, v8, v9, rfl, s4⟩
      obtain ⟨⟨x1, x2⟩, hx, t, rfl, hq⟩ := hv x (List.mem_of_getElem? hi)
      obtain ⟨hx1, hx2, hne, he⟩ := cpl_place hx
      have hx1 : x1 < ws.flatten.length := hx1
      have hx2 : x2 < ws.flatten.length := hx2
      have hne : x1 ≠ x2 := hne
      have he : ws.flatten.getD x1 0 = ws.flatten.getD x2 0 := he
      have nma := mate_ne mok o5 hx1 he
      have mok2 := swpF_mat mok hx1 hx2 he
      refine ⟨t, _, rfl, WR.Same.seqT s4 hq, rfl, _, _, rfl, _, _, rfl, rfl, ?_⟩
      refine ⟨_, rfl, _, rfl, _, rfl, rfl, exch_good (hS3.same s4) ok mok hx1 hx2 hne he fun told H5 s5 S5 => ?_⟩
      have s35 := s4.trans s5
      refine ⟨_, rfl, _, rfl, _, rfl, m, x1, x2, ws.flatten.length, mt, rfl, s35 _ _ hm3, by omega, mok.1, hx1, hx2, hne, nma, fun due H6 s6 B6 => ⟨_, _, rfl, ?_⟩⟩
      have s36 := s35.trans s6
      have S6 := S5.same s6
      have T6 := hS3.same s36
      obtain ⟨e1, e2, e3, e4, i1, i2, i3, i4, i5⟩ := id S6
      obtain ⟨f1, f2, f3, f4, j1, j2, j3, j4, j5⟩ := id T6
      refine ⟨_, rfl, told, CS, e1, _, _, rfl, i1, O.TS.cl, O.TS.n2, sf_mates, _, rfl, .tuple ((swpF mt x1 x2).map .int), .tuple ((swpF mt x1 x2).map .int), .tup i3.sq (dpInts _), .tup B6.sq (dpInts _), PySem.W.ke_shaped_ints _, PySem.W.ke_shaped_ints _, _, rfl, ?_⟩
      rw [eqv_ints]
      refine iteF' (by rw [decide_eq_true rfl]; rfl) ?_
      refine ⟨_, rfl, told, CS, e1, _, _, rfl, i1, O.TS.cl, O.TS.n1, sf_rims, _, rfl, s, CS, f1, _, _, rfl, j1, O.TS.cl, O.TS.n1, sf_rims, rp, rp, xs, xs, ws, ws, rfl, rfl, i2, j2, _, rfl, ?_⟩
      refine iteF' (by rw [decide_eq_true rfl]; rfl) ?_
      refine ⟨_, rfl, s, CS, f1, _, _, rfl, j1, O.TS.cl, O.TS.n2, sf_mates, _, rfl, m, _, rfl, .inl ⟨SqL.of (s36 _ _ hm3), fun tq H7 s7 B7 => ?_⟩⟩
      refine ⟨.tuple (mt.map .int), .tuple (mt.map .int), .tup (SqB.same s7 j3).sq (dpInts _), .tup B7.sq (dpInts _), PySem.W.ke_shaped_ints _, PySem.W.ke_shaped_ints _, _, rfl, ?_⟩
      rw [eqv_ints]
      refine iteF' (by rw [decide_eq_true rfl]; rfl) ?_
      have s37 := s36.trans s7
      refine ⟨_, rfl, _, rfl, _, rfl, _, _, _, rfl, .inr ⟨s, rp, xs, ws, mt, "int", "int", rfl, (hS3.same s37), ok, mok, .int _, .int _, .inr (.inr ⟨x2, x1, rfl, rfl, hx2, hx1, .inr (.inr ⟨hne.symm, he.symm, fun q8 H8 s8 S8 => ?_⟩)⟩)⟩⟩
      have s38 := s37.trans s8
      have S68 := S6.same (s7.trans s8)
      refine ⟨_, rfl, q8, told, _, rfl, rfl, ⟨_, _, _, _, _, _, _, _, S8, S68, rfl⟩, _, rfl, ?_⟩
      refine iteF' (by rw [swp_dec]; rfl) ?_
      have B8 := SqB.same (s7.trans s8) B6
      refine ⟨_, rfl, _, rfl, p, due, us, ws, swpF mt x1 x2, rfl, s38 _ _ hp3, hu3.same s38, o3, by omega, .inr B8.sq, mok2.1.1, fun H9 s9 => ?_⟩
      have s39 := s38.trans s9
      refine ⟨_, rfl, _, rfl, p, m, us, ws, mt, rfl, s39 _ _ hp3, hu3.same s39, o3, by omega, .inl (SqL.of (s39 _ _ hm3)), mok.1.1, fun H10 s10 => ⟨_, _, rfl, rfl, ?_⟩⟩
      have s3a := s39.trans s10
      have Sa := S68.same (s9.trans s10)
      have Ta := hS3.same s3a
      obtain ⟨e1, e2, e3, e4, i1, i2, i3, i4, i5⟩ := id Sa
      obtain ⟨f1, f2, f3, f4, j1, j2, j3, j4, j5⟩ := id Ta
      have Ba := SqB.same (s9.trans s10) B8
      refine ⟨_, rfl, told, CS, e1, _, _, rfl, i1, O.TS.cl, O.TS.n4, sf_cost, _, rfl, _, rfl, p, due, us, ws, swpF mt x1 x2, rfl, s3a _ _ hp3, hu3.same s3a, o3, by omega, .inr Ba.sq, mok2.1.1, fun H11 s11 => ⟨rfl, _, rfl, ?_⟩⟩
      refine iteF' (by
        show (!decide (V.int (costF ws (swpF mt x1 x2)) = V.int (costF ws (swpF mt x1 x2)))) = false
        rw [decide_eq_true rfl]
        rfl) ?_
      have s3b := s3a.trans s11
      refine ⟨_, rfl, _, rfl, by show 3 ≤ sizeLine; decide, fun t12 H12 s12 B12 => ⟨t12, _, rfl, .inr B12.sq, rfl, rfl, _, rfl, ?_⟩⟩
      have cor := swp_corn o3 mok hx1 hx2 hne he o5
      show if (!inV (.int (costF ws (swpF mt x1 x2) - costF ws mt)) [.int (-2), .int 0, .int 2]) = true then _ else _
      have hin : inV (.int (costF ws (swpF mt x1 x2) - costF ws mt)) [.int (-2), .int 0, .int 2] = true := by
        rcases cor with e | e | e
        · rw [e, show costF ws mt - 2 - costF ws mt = -2 by omega]
          decide
        · rw [e, Int.sub_self]
          decide
        · rw [e, show costF ws mt + 2 - costF ws mt = 2 by omega]
          decide
      refine iteF' (by rw [hin]; rfl) ?_
      have s3c := s3b.trans s12
      have Sc := Sa.same (s11.trans s12)
      have Tc := hS3.same s3c
      have last : ∀ H', Same H12 H' → ∃ v5 v6 v7 v8 v9 : Option V, ([some (.ref a), some (.ref p), some (.ref s), some (.ref m), some (.ref lq), some (.int (x1 : Int)), some (.int (x2 : Int)), some (.ref told), some (.ref due), some (.int (costF ws (swpF mt x1 x2) - costF ws mt)), none] : L2.St) = [some (.ref a), some (.ref p), some (.ref s), some (.ref m), some (.ref lq), v5, v6, v7, v8, v9, none] ∧ Same H3 H' := fun H' s' => ⟨_, _, _, _, _, rfl, s3c.trans s'⟩
      obtain ⟨e1, e2, e3, e4, i1, i2, i3, i4, i5⟩ := id Sc
      obtain ⟨f1, f2, f3, f4, j1, j2, j3, j4, j5⟩ := id Tc
      have lu := hu3.length
      refine ⟨_, rfl, p, _, rfl, .inl (SqL.of (s3c _ _ hp3)), rfl, _, rfl, ?_⟩
      have lm : mt.length = ws.flatten.length := mok.1.1.1
      have atm : ∀ z, z < ws.flatten.length → (iv mt)[z]? = some (V.int ((mtn mt z : Nat) : Int)) := fun z hz => iv_get (mtn_at mok.1.1 hz).2.1
      have lme : ∀ z, z < ws.flatten.length → ws.flatten.getD (mtn mt z) 0 = -ws.flatten.getD z 0 := fun z hz => by
        have := mok.2 z (by omega)
        have e2 : (mt[z]'(by omega)).toNat = mtn mt z := by
          show _ = (mt.getD z 0).toNat
          rw [getD_lt]
        rw [e2] at this
        exact this
      by_cases h1 : ws.length = 1
      · refine iteT' (decide_eq_true (by rw [lu, h1]; rfl)) ?_
        refine ⟨_, rfl, told, CS, e1, _, _, rfl, i1, O.TS.cl, O.TS.n6, sf_handles, _, rfl, s, CS, f1, _, _, rfl, j1, O.TS.cl, O.TS.n6, sf_handles, _, _, rfl, rfl, _, _, rfl, rfl, .inl ⟨by decide, by decide⟩, _, rfl, rfl, _, rfl, ?_⟩
        refine iteF' (by
          show (!decide (V.int (2 * (handF ws (swpF mt x1 x2) - handF ws mt)) = V.int (costF ws (swpF mt x1 x2) - costF ws mt))) = false
          rw [hand_one h1 cor, decide_eq_true rfl]
          rfl) ?_
        refine ⟨_, rfl, _, rfl, _, rfl, _, _, _, rfl, .inr ⟨told, rp, xs, ws, (swpF mt x1 x2), "int", "int", rfl, Sc, ok, mok2, .int _, .int _, .inr (.inr ⟨x1, x2, rfl, rfl, hx1, hx2, .inr (.inr ⟨hne, he, fun q13 H13 s13 S13 => ?_⟩)⟩)⟩⟩
        refine ⟨_, rfl, q13, s, _, rfl, rfl, ⟨_, _, _, _, _, _, _, _, S13, Tc.same s13, rfl⟩, _, rfl, ?_⟩
        refine iteF' (by rw [decide_eq_true ⟨rfl, swpF_back mok.1 hx1 hx2⟩]; rfl) ?_
        refine ⟨_, rfl, _, rfl, _, rfl, m, _, _, _, rfl, rfl, SqL.of ((s3c.trans s13) _ _ hm3), atI_nat (atm x1 hx1), _, rfl, _, rfl, m, _, _, _, rfl, rfl, SqL.of ((s3c.trans s13) _ _ hm3), atI_nat (atm x2 hx2), _, _, _, rfl, .inr ⟨told, rp, xs, ws, (swpF mt x1 x2), "int", "int", rfl, (Sc.same s13), ok, mok2, .int _, .int _, .inr (.inr ⟨mtn mt x1, mtn mt x2, rfl, rfl, (mtn_at mok.1.1 hx1).1, (mtn_at mok.1.1 hx2).1, .inr (.inr ⟨(fun e => hne (by rw [← (pair_inv mok.1 hx1).1, e, (pair_inv mok.1 hx2).1])), (by rw [lme x1 hx1, lme x2 hx2, he]), fun q14 H14 s14 S14 => ?_⟩)⟩)⟩⟩
        refine ⟨_, rfl, q14, s, _, rfl, rfl, ⟨_, _, _, _, _, _, _, _, S14, Tc.same (s13.trans s14), rfl⟩, _, rfl, ?_⟩
        refine iteF' (by rw [decide_eq_true ⟨rfl, swpF_mates mok.1 hx1 hx2 hne nma⟩]; rfl) ?_
        exact last _ (s13.trans s14)
      · refine iteF' (decide_eq_false fun e => h1 (by injection e with e; omega)) (iteF ?_)
        refine ⟨_, rfl, _, rfl, _, rfl, _, _, _, rfl, .inr ⟨told, rp, xs, ws, (swpF mt x1 x2), "int", "int", rfl, Sc, ok, mok2, .int _, .int _, .inr (.inr ⟨x1, x2, rfl, rfl, hx1, hx2, .inr (.inr ⟨hne, he, fun q13 H13 s13 S13 => ?_⟩)⟩)⟩⟩
        refine ⟨_, rfl, q13, s, _, rfl, rfl, ⟨_, _, _, _, _, _, _, _, S13, Tc.same s13, rfl⟩, _, rfl, ?_⟩
        refine iteF' (by rw [decide_eq_true ⟨rfl, swpF_back mok.1 hx1 hx2⟩]; rfl) ?_
        refine ⟨_, rfl, _, rfl, _, rfl, m, _, _, _, rfl, rfl, SqL.of ((s3c.trans s13) _ _ hm3), atI_nat (atm x1 hx1), _, rfl, _, rfl, m, _, _, _, rfl, rfl, SqL.of ((s3c.trans s13) _ _ hm3), atI_nat (atm x2 hx2), _, _, _, rfl, .inr ⟨told, rp, xs, ws, (swpF mt x1 x2), "int", "int", rfl, (Sc.same s13), ok, mok2, .int _, .int _, .inr (.inr ⟨mtn mt x1, mtn mt x2, rfl, rfl, (mtn_at mok.1.1 hx1).1, (mtn_at mok.1.1 hx2).1, .inr (.inr ⟨(fun e => hne (by rw [← (pair_inv mok.1 hx1).1, e, (pair_inv mok.1 hx2).1])), (by rw [lme x1 hx1, lme x2 hx2, he]), fun q14 H14 s14 S14 => ?_⟩)⟩)⟩⟩
        refine ⟨_, rfl, q14, s, _, rfl, rfl, ⟨_, _, _, _, _, _, _, _, S14, Tc.same (s13.trans s14), rfl⟩, _, rfl, ?_⟩
        refine iteF' (by rw [decide_eq_true ⟨rfl, swpF_mates mok.1 hx1 hx2 hne nma⟩]; rfl) ?_
        exact last _ (s13.trans s14)
    · rintro σ H4 ⟨v5, v6, v7, v8, v9, rfl, s4⟩
      exact k H4 ((((Drew.refl hH).same s1).trans D3).same s4)
end
end W14
set_option Elab.async false
set_option linter.all false
set_option maxRecDepth 100000
set_option maxHeartbeats 1000000
namespace W14
open PySem L2 PySem.Spec PyProof.Rows WR WB WE WS
/-! ### three places of one letter -/
theorem all_int : ∀ {vs : List V} {is : List Nat}, All2 (fun v i => v = V.int ((i : Nat) : Int)) vs is → vs = iv (nats is) := by
  intro vs is h
  induction h with
  | nil => rfl
  | cons h1 _ ih => rw [h1, ih]; rfl
theorem three_of : ∀ {pl : List Nat}, 2 < pl.length → ∃ x y z r, pl = x :: y :: z :: r
  | x :: y :: z :: r, _ => ⟨x, y, z, r, rfl⟩
  | [], h => absurd h (by decide)
  | [_], h => absurd h (by simp)
  | [_, _], h => absurd h (by simp)
theorem lts_few {ls L : List Int} (lt : Lts ls) (nd : L.Nodup) (h : ∀ k, k ∈ L ↔ k ∈ ls) : L.length ≤ 53 := by
  have nd2 : (L.map fun z => (z + 26).toNat).Nodup := by
    refine List.pairwise_map.mpr (nd.imp_of_mem fun {x y} hx hy ne e => ne ?_)
    have h1 := lt x ((h x).mp hx)
    have h2 := lt y ((h y).mp hy)
    omega
  have := L2.nat_nodup_len _ (List.range 53) nd2 fun x hx => by
    obtain ⟨y, hy, rfl⟩ := List.mem_map.mp hx
    have := lt y ((h y).mp hy)
    exact List.mem_range.mpr (by omega)
  rw [List.length_map, List.length_range] at this
  exact this
def spTR (K : PySem.W.Frag) (C CR CS : Addr) : Sp := fun vs H Q _ => ∃ (p s lq rp : Addr) (us : List V) (xs : List Addr) (ws : List (List Int)) (mt : List Int), vs = [.ref p, .ref s, .ref lq] ∧ H p = some (.lst us) ∧ LLs H us ws ∧ RimOk ws ∧ SewAt K C CR CS H s rp xs ws mt ∧ MatOk ws.flatten mt ∧ H lq = some (.lst (iv ws.flatten)) ∧ ∀ H', Same H H' → Q (.bl true) H'
abbrev sTR : Stmt := top 79
abbrev nTR : List Str := ["_law_words", "_law_sewing", "_law_letters_here", "_law_letter", "_law_places", "_law_one", "_law_two", "_law_three", "_law_ahead", "_law_place"]
theorem scTR : FnScope nTR ["_law_words", "_law_sewing", "_law_letters_here"] (defScope sTR) := ⟨rfl, rfl, rfl, by decide +kernel, rfl, by decide +kernel, by decide +kernel⟩
section
variable {P : Program} {w : World} {K : PySem.W.Frag} {mg : Str → Option Value} {base : Heap} {C CR CS CBS CNP CTw CMF : Addr}
theorem ok_TR {f : Addr} {fd : FuncData} (F : Fun K "_law_three_right" "_law_three_right" sTR f fd) (N : TN mg) (O : SewO P w K mg base C CR CS) (G_cost : Cal P w K mg base "_law_cost" 3 ["_law_words", "_law_mates_here"] (spCost K)) (G_exchanged : CalX P w K mg base "exchanged" 8 ["sewing", "place", "other"] (spExch K C CR CS CBS CNP CTw CMF)) : FnOk P w K mg base CX0 9 f fd ["_law_words", "_law_sewing", "_law_letters_here"] (spTR K C CR CS) := by
  refine F.ok scTR (fun vs H Q E h => ?_) (fun cdv A outer s H vs Q E hr h => ?_)
  · obtain ⟨p, s, lq, rp, us, xs, ws, mt, rfl, _⟩ := h
    rfl
  · obtain ⟨p, s, lq, rp, us, xs, ws, mt, rfl, hp, hu, ok, hS, mok, hl, k⟩ := h
    refine ⟨_, pss_cons (ps_for PassesOwn.never rfl (pi_list (pe_callB (cr_sortedSet rfl) (by rfl) N.sorted (by decide +kernel) (pa_cons (pe_callTy (call_setLI rfl) (by rfl) N.set (by decide +kernel) (pa_cons (pv 2) pa_nil)) pa_nil))) (pg_name (i := 3) scTR.nd rfl (Or.inr rfl))
      (pss_cons (ps_setLc (i := 4) (own := [("_law_place", 9)]) (g := gName 9) rfl scTR.nd rfl rfl (sw_true rfl rfl rfl (by decide +kernel)) (pi_range1 (by rfl) N.range (pa_cons (pe_callB call_len_seq (by rfl) N.len PySem.boot_len (pa_cons (pv 2) pa_nil)) pa_nil)) (blkOk_by (N := nTR) (sc := defScope sTR) (by decide +kernel)) (fun _ _ _ _ _ => (pg_name (i := 9) scTR.nd rfl (Or.inl rfl))) (fun _ _ _ _ _ => (pts_one (pt_cmpR op_eq (pe_ix (ixl (K := K) rfl) (pv 2) (pv 9) (fun _ _ => rfl)) (pv 3) (nomark _)))) (fun _ _ _ _ _ => (pv 9)))
      (pss_one (ps_if (pt_cmpR op_gt (pe_callB call_len_seq (by rfl) N.len PySem.boot_len (pa_cons (pv 4) pa_nil)) pe_int (nomark _)) (pss_cons (ps_asg (pe_slice sl_list (pv 4) po_none (po_some pe_int)) (pg_lst (n := 3) rfl (pgs_cons (pg_name (i := 5) scTR.nd rfl (Or.inl rfl)) (pgs_cons (pg_name (i := 6) scTR.nd rfl (Or.inl rfl)) (pgs_cons (pg_name (i := 7) scTR.nd rfl (Or.inl rfl)) pgs_nil)))))
      (pss_cons (ps_set (i := 8) scTR.nd rfl (Or.inl rfl) (pe_calX G_exchanged hr (by decide) passF (by rfl) (pa_cons (pe_calX G_exchanged hr (by decide) passF (by rfl) (pa_cons (pe_calX G_exchanged hr (by decide) passF (by rfl) (pa_cons (pv 1) (pa_cons (pv 5) (pa_cons (pv 6) pa_nil)))) (pa_cons (pv 6) (pa_cons (pv 7) pa_nil)))) (pa_cons (pv 5) (pa_cons (pv 6) pa_nil)))))
      (pss_one (ps_if (PW.pt (pw_or (pt_cmpR (OE.op_n O.ES hr (by decide)) (pv 8) (pe_calX G_exchanged hr (by decide) passF (by rfl) (pa_cons (pv 1) (pa_cons (pv 5) (pa_cons (pv 7) pa_nil)))) (nomark _)) (pw_or1 (pt_cmpR op_notIn_seq (pe_op op_sub (pe_fld (pv 8) rfl) (pe_fld (pv 1) rfl)) (pe_tupB (pa_cons (pe_un un_neg pe_int) (pa_cons pe_int (pa_cons pe_int pa_nil)))) (by rfl))))) (pss_one (ps_ret pe_bl)) pss_nil)))) pss_nil))))
      (pss_one (ps_ret (pe_cmpR op_eq (pe_cal G_cost hr (by decide) (by rfl) (pa_cons (pv 0) (pa_cons (pe_fld (pv 1) rfl) pa_nil))) (pe_fld (pv 1) rfl) (nomark _)))), ?_⟩
    obtain ⟨o1, o2, o3, o4, o5, o6⟩ := id ok
    refine ⟨_, rfl, lq, _, rfl, SqL.of hl, by omega, fun S L hSn ndL memL => ?_⟩
    have s1 := same_upd (o := SetO w S (fun j => decide (j ∈ ws.flatten)) L.length) hSn
    have lL := lts_few o5 ndL memL
    refine ⟨S, _, L.length, rfl, upd_same, by omega, fun ks p3 hlt hmem hlen hp3 => ?_⟩
    have s2 := s1.trans (same_upd (o := .lst (iv ks)) hp3)
    have gk : L2.upd (L2.upd H S (SetO w S (fun j => decide (j ∈ ws.flatten)) L.length)) p3 (.lst (iv ks)) p3 = some (.lst (iv ks)) := upd_same
    refine ⟨p3, rfl, ⟨_, SqL.of gk⟩, for_list (K := K) (a := p3) (xs := iv ks) (fun i σ H' => ∃ v3 v4 v5 v6 v7 v8 : Option V, σ = [some (.ref p), some (.ref s), some (.ref lq), v3, v4, v5, v6, v7, v8, none] ∧ Same (L2.upd (L2.upd H S (SetO w S (fun j => decide (j ∈ ws.flatten)) L.length)) p3 (.lst (iv ks))) H') ⟨none, none, none, none, none, none, rfl, Same.refl _⟩ (fun i σ H' _ ⟨_, _, _, _, _, _, _, s⟩ => SqL.of (s _ _ gk)) ?_ ?_⟩
    · rintro i x σ H3 hi ⟨v3, v4, v5, v6, v7, v8, rfl, s3⟩
      obtain ⟨kk, hk, rfl⟩ : ∃ z, ks[i]? = some z ∧ x = V.int z := by
        rw [List.getElem?_map] at hi
        cases e : ks[i]? with
        | none => rw [e] at hi; cases hi
        | some z => rw [e] at hi; exact ⟨z, rfl, (Option.some.inj hi).symm⟩
      have s03 : Same H H3 := s2.trans s3
      have hl3 := s03 _ _ hl
      refine at_set ?_
      try dsimp only
      refine sq_lcS ?_
      refine ⟨_, rfl, lq, _, rfl, .inl (SqL.of hl3), _, rfl, by rw [List.length_map]; omega, by rw [List.length_map]; omega, ?_⟩
      rw [List.length_map, Int.toNat_natCast]
      refine lcRM (fun q => decide (ws.flatten.getD q 0 = kk)) (fun _ v q => v = V.int ((q : Nat) : Int)) (fun _ _ _ _ h _ => h) (fun _ _ _ _ _ _ _ h => h) (by omega) ?_ ?_
      · intro q hq H5 s5 Qy Qn ky kn
        refine ⟨rfl, _, rfl, _, rfl, lq, _, _, _, rfl, rfl, SqL.of (s5 _ _ hl3), atI_nat (iv_get (List.getElem?_eq_getElem hq)), _, rfl, rfl, _, rfl, ?_⟩
        by_cases h2 : ws.flatten.getD q 0 = kk
        · refine iteT' (decide_eq_true (by rw [← h2, getD_lt hq])) ⟨_, rfl, ky (decide_eq_true h2) _ H5 (Same.refl _) rfl⟩
        · exact iteF' (decide_eq_false fun e => h2 (by injection e with e; rw [getD_lt hq, e])) (kn (decide_eq_false h2) H5 (Same.refl _))
      intro D H4 vs hD s4 gD hv
      obtain rfl := all_int hv
      have epl : (List.range ws.flatten.length).filter (fun q => decide (ws.flatten.getD q 0 = kk)) = plc ws.flatten kk := rfl
      rw [epl] at gD
      have s04 := s03.trans s4
      have s34 := s3.trans s4
      have lpl : (iv (nats (plc ws.flatten kk))).length = (plc ws.flatten kk).length := by unfold iv nats; rw [List.length_map, List.length_map]
      refine at_set ?_
      refine ⟨_, rfl, D, _, rfl, .inl (SqL.of gD), _, _, rfl, rfl, _, rfl, ?_⟩
      rw [lpl]
      by_cases h3 : 2 < (plc ws.flatten kk).length
      · refine iteT' (decide_eq_true (by omega)) ?_
        obtain ⟨x, y, z, r, ep⟩ := three_of h3
        have mem : ∀ q ∈ x :: y :: z :: r, q < ws.flatten.length ∧ ws.flatten.getD q 0 = kk := fun q hq => plc_mem.mp (by rw [ep]; exact hq)
        obtain ⟨hx, ex⟩ := mem x (by simp)
        obtain ⟨hy, ey⟩ := mem y (by simp)
        obtain ⟨hz, ez⟩ := mem z (by simp)
        have nd := plc_nodup ws.flatten kk
        rw [ep] at nd gD
        have nxy : x ≠ y := fun e => by subst e; simp at nd
        have nyz : y ≠ z := fun e => by subst e; simp at nd
        have nxz : x ≠ z := fun e => by subst e; simp at nd
        refine ⟨_, rfl, _, rfl, D, _, rfl, SqL.of gD, fun q hq => ?_⟩
        have s5 := same_upd (o := .lst (cutV (iv (nats (x :: y :: z :: r))) none (some 3))) hq
        have ec : cutV (iv (nats (x :: y :: z :: r))) none (some 3) = [.int (x : Int), .int (y : Int), .int (z : Int)] := by
          have := cut_till (xs := iv (nats (x :: y :: z :: r))) (c := 3)
          rw [show (((3 : Nat) : Int)) = 3 from rfl] at this
          rw [this, Nat.min_eq_left (by unfold iv nats; simp)]
          rfl
        have gq : L2.upd H4 q (.lst (cutV (iv (nats (x :: y :: z :: r))) none (some 3))) q = some (.lst [.int (x : Int), .int (y : Int), .int (z : Int)]) := by rw [upd_same, ec]
        refine ⟨q, _, rfl, SqL.of gq, rfl, _, _, rfl, _, _, rfl, _, _, rfl, rfl, ?_⟩
        have s05 := s04.trans s5
        have s35 := s34.trans s5
        generalize L2.upd H4 q (.lst (cutV (iv (nats (x :: y :: z :: r))) none (some 3))) = H5 at s05 s35 gq ⊢
        have exy : ws.flatten.getD x 0 = ws.flatten.getD y 0 := by rw [ex, ey]
        have eyz : ws.flatten.getD y 0 = ws.flatten.getD z 0 := by rw [ey, ez]
        have exz : ws.flatten.getD x 0 = ws.flatten.getD z 0 := by rw [ex, ez]
        have m1 := swpF_mat mok hx hy exy
        have m2 := swpF_mat m1 hy hz eyz
        refine ⟨_, rfl, _, rfl, _, rfl, _, _, _, rfl, .inr ⟨s, rp, xs, ws, mt, "int", "int", rfl, (hS.same s05), ok, mok, .int _, .int _, .inr (.inr ⟨x, y, rfl, rfl, hx, hy, .inr (.inr ⟨nxy, exy, fun q6 H6 s6 S6 => ?_⟩)⟩)⟩⟩
        refine ⟨_, rfl, _, rfl, _, _, _, rfl, .inr ⟨q6, rp, xs, ws, (swpF mt x y), "int", "int", rfl, S6, ok, m1, .int _, .int _, .inr (.inr ⟨y, z, rfl, rfl, hy, hz, .inr (.inr ⟨nyz, eyz, fun q7 H7 s7 S7 => ?_⟩)⟩)⟩⟩
        refine ⟨_, rfl, _, rfl, _, _, _, rfl, .inr ⟨q7, rp, xs, ws, (swpF (swpF mt x y) y z), "int", "int", rfl, S7, ok, m2, .int _, .int _, .inr (.inr ⟨x, y, rfl, rfl, hx, hy, .inr (.inr ⟨nxy, exy, fun q8 H8 s8 S8 => ?_⟩)⟩)⟩⟩
        rw [swpF_three mok.1 hx hy hz nxy nyz nxz] at S8
        have s58 := (s6.trans s7).trans s8
        refine ⟨_, rfl, _, rfl, _, rfl, _, rfl, _, _, _, rfl, .inr ⟨s, rp, xs, ws, mt, "int", "int", rfl, (hS.same (s05.trans s58)), ok, mok, .int _, .int _, .inr (.inr ⟨x, z, rfl, rfl, hx, hz, .inr (.inr ⟨nxz, exz, fun q9 H9 s9 S9 => ?_⟩)⟩)⟩⟩
        refine ⟨q8, q9, _, rfl, rfl, ⟨_, _, _, _, _, _, _, _, S8.same s9, S9, rfl⟩, _, rfl, ?_⟩
        refine iteF' (by rw [decide_eq_true ⟨rfl, rfl⟩]; rfl) ?_
        have S89 := S8.same s9
        have T9 := hS.same (s05.trans (s58.trans s9))
        obtain ⟨e1, e2, e3, e4, i1, i2, i3, i4, i5⟩ := id S89
        obtain ⟨f1, f2, f3, f4, j1, j2, j3, j4, j5⟩ := id T9
        refine ⟨_, rfl, q8, CS, e1, _, _, rfl, i1, O.TS.cl, O.TS.n4, sf_cost, _, rfl, s, CS, f1, _, _, rfl, j1, O.TS.cl, O.TS.n4, sf_cost, _, _, rfl, rfl, _, rfl, by show 3 ≤ sizeLine; decide, fun t12 H12 s12 B12 => ⟨t12, _, rfl, .inr B12.sq, rfl, rfl, _, rfl, ?_⟩⟩
        have cor := swp_corn o3 mok hx hz nxz exz o5
        show if (!inV (.int (costF ws (swpF mt x z) - costF ws mt)) [.int (-2), .int 0, .int 2]) = true then _ else _
        have hin : inV (.int (costF ws (swpF mt x z) - costF ws mt)) [.int (-2), .int 0, .int 2] = true := by
          rcases cor with e | e | e
          · rw [e, show costF ws mt - 2 - costF ws mt = -2 by omega]
            decide
          · rw [e, Int.sub_self]
            decide
          · rw [e, show costF ws mt + 2 - costF ws mt = 2 by omega]
            decide
        refine iteF' (by rw [hin]; rfl) ?_
        exact ⟨_, _, _, _, _, _, rfl, s35.trans ((s58.trans s9).trans s12)⟩
      · refine iteF' (decide_eq_false (by omega)) ?_
        exact ⟨_, _, _, _, _, _, rfl, s34⟩
    · rintro σ H3 ⟨v3, v4, v5, v6, v7, v8, rfl, s3⟩
      have s03 : Same H H3 := s2.trans s3
      have T3 := hS.same s03
      obtain ⟨f1, f2, f3, f4, j1, j2, j3, j4, j5⟩ := id T3
      refine ⟨_, rfl, _, rfl, s, CS, f1, _, _, rfl, j1, O.TS.cl, O.TS.n2, sf_mates, p, f2, us, ws, mt, rfl, s03 _ _ hp, hu.same s03, o3, by omega, .inr j3.sq, mok.1.1, fun H4 s4 => ?_⟩
      have T4 := T3.same s4
      obtain ⟨f1, f2, f3, f4, j1, j2, j3, j4, j5⟩ := id T4
      refine ⟨_, rfl, s, CS, f1, _, _, rfl, j1, O.TS.cl, O.TS.n4, sf_cost, rfl, ?_⟩
      show Q (.bl (decide (V.int (costF ws mt) = V.int (costF ws mt)))) H4
      rw [decide_eq_true rfl]
      exact k H4 (s03.trans s4)
end
end W14
set_option Elab.async false
set_option linter.all false
set_option maxRecDepth 100000
set_option maxHeartbeats 1000000
namespace W14
open PySem L2 PySem.Spec PyProof.Rows WR WB WE WS
/-! ### calls by lambdas: what is kept; what is heard -/
structure FunC (K : PySem.W.Frag) (x : Str) (st : Stmt) (f c : Addr) (fd : FuncData) : Prop where
  ex : ∃ (oc : Value) (od : Option Addr) (kV doc pm : Value) (an : Option Addr) (ct : Value) (osl : Array (Option Value)),
    fd = PySem.W.fnOf x x (defArgs st) (defBody st) (defScope st) .none kV doc pm an (.ref c) ct ∧ K.lookup f = some ⟨oc, od, .func fd, osl⟩ ∧ PySem.W.codeIn K (.ref c) x = true
theorem FunC.okG {P : Program} {w : World} {K : PySem.W.Frag} {mg : Str → Option Value} {base : Heap} {x : Str} {st : Stmt} {f c : Addr} {fd : FuncData} {N ps : List Str} {k : Nat} {sp : Sp} (F : FunC K x st f c fd) (S : FnScope N ps (defScope st)) (many : ∀ zs G R E, sp zs G R E → zs.length = ps.length)
    (B0 : ∀ (B : Around) (fr : List Env) (t : Shared) (G : Hp) (zs : List V) (R : VK) (E : XK), B.guards = some [] → Room k (B.deeper (envOfC x (defScope st) t.heap.objs.size f (.ref c))) → sp zs G R E →
      ∃ tb, PSs (cxOf CX0 P w K mg base N x (defScope st) f (.ref c) B fr t G E).nox (defBody st) tb ∧ tb { nx := fun _ G' => R .non G', rt := R } (L2.start N zs) G) : RG.FnG P w K mg base (k + 1) f fd ps sp := by
  obtain ⟨oc, od, kV, doc, pm, an, ct, osl, rfl, lk, cd⟩ := F.ex
  refine RG.fnG_of lk cd S many fun B fr t G zs R E hg room asked => ?_
  obtain ⟨tb, run, read⟩ := B0 B fr t G zs R E hg room asked
  exact ⟨tb, run.nox, read⟩
structure FaultK (K : PySem.W.Frag) (mg : Str → Option Value) (g : Addr) : Prop where
  mg : mg "_law_fault" = some (.ref g)
  kp : PySem.W.keepIn K (.ref g) = true
  ex : ∃ (oc : Value) (od : Option Addr) (kV doc pm cdv ct : Value) (an : Option Addr) (osl : Array (Option Value)),
    K.lookup g = some ⟨oc, od, .func (PySem.W.fnOf "_law_fault" "_law_fault" (defArgs sFault) (defBody sFault) (defScope sFault) .none kV doc pm an cdv ct), osl⟩ ∧ PySem.W.codeIn K cdv "_law_fault" = true
theorem tabs_kept {T : List (Addr × Str)} {a c : Addr} {n : Nat} {H H' : Hp} (h : HandAt H a c n) (k : Kept a H H') (t : LamX.Tabs T H) : LamX.Tabs T H' := by
  intro p hp
  obtain ⟨ps, h1, h2, h3⟩ := t p hp
  obtain ⟨ns, i, r, ha, _⟩ := h
  have na : ∀ {b : Addr} {o : HO}, H b = some o → (∀ xs, o ≠ .lst xs) → b ≠ a := fun e z q => by
    rw [q, ha] at e
    exact z _ (Option.some.inj e).symm
  refine ⟨ps, k _ _ (na h1 fun xs q => by cases q) h1, h2, fun pos cv hc => ?_⟩
  obtain ⟨d, e1, e2⟩ := h3 pos cv hc
  exact ⟨d, e1, k _ _ (na e2 fun xs q => by
    have q2 : HO.ext _ = HO.lst xs := q
    cases q2) e2⟩
theorem HandAt.ext {H H' : Hp} {a c : Addr} {n : Nat} (h : HandAt H a c n) (s : LamX.ExtN H H') : HandAt H' a c n := by
  obtain ⟨ns, i, r, h1, h2, h3⟩ := h
  exact ⟨ns, i, r, s _ _ h1 (fun ps q => by cases q), s _ _ h2 (fun ps q => by cases q), h3⟩
theorem Drew.tabs {T : List (Addr × Str)} {a c : Addr} {m n : Nat} {H H' : Hp} (d : Drew a c n H H') (h : HandAt H a c m) (t : LamX.Tabs T H) : LamX.Tabs T H' := tabs_kept h d.2 t
/-- a list is changed, the tables stand -/
theorem tabs_put {T : List (Addr × Str)} {l : Addr} {H : Hp} {xs ys : List V} (hl : H l = some (.lst xs)) (t : LamX.Tabs T H) : LamX.Tabs T (L2.upd H l (.lst ys)) := by
  intro p hp
  have kl : Kept l H (L2.upd H l (.lst ys)) := Kept.upd
  obtain ⟨ps, h1, h2, h3⟩ := t p hp
  have na : ∀ {b : Addr} {o : HO}, H b = some o → (∀ xs, o ≠ .lst xs) → b ≠ l := fun e z q => by
    rw [q, hl] at e
    exact z _ (Option.some.inj e).symm
  refine ⟨ps, kl _ _ (na h1 fun xs q => by cases q) h1, h2, fun pos cv hc => ?_⟩
  obtain ⟨d, e1, e2⟩ := h3 pos cv hc
  exact ⟨d, e1, kl _ _ (na e2 fun xs q => by
    have q2 : HO.ext _ = HO.lst xs := q
    cases q2) e2⟩
section
variable {K : PySem.W.Frag} {C CR CS : Addr} {H H' : Hp}
theorem extOf (s : Same H H') : LamX.ExtN H H' := LamX.ExtN.of fun b o e => s b o e
theorem SqT.extN {a : Addr} {xs : List V} (s : LamX.ExtN H H') (h : SqT K H a xs) : SqT K H' a xs :=
  h.elim (fun r => .inl (r.elim (fun r => .inl (s _ _ r fun ps q => by cases q)) fun ⟨o, r⟩ => .inr ⟨o, s _ _ r fun ps q => by cases q⟩)) fun r => .inr r
theorem SqB.extN {a : Addr} {xs : List V} (s : LamX.ExtN H H') (h : SqB K H a xs) : SqB K H' a xs :=
  ⟨SqT.extN s h.sq, let ⟨o, u, e, z⟩ := h.bare; ⟨o, u, s _ _ e (fun ps q => by cases q), z⟩⟩
theorem WordAt.extN {p : Addr} {ns : List Int} (s : LamX.ExtN H H') (h : WordAt K C H p ns) : WordAt K C H' p ns := by
  obtain ⟨dx, tl, tk, ks, h1, h2, h3, h4⟩ := h
  exact ⟨dx, tl, tk, ks, s _ _ h1 (fun ps q => by cases q), SqB.extN s h2, SqT.extN s h3, h4⟩
theorem RimsAt.extN {p : Addr} {xs : List Addr} {ws : List (List Int)} (s : LamX.ExtN H H') (h : RimsAt K C CR H p xs ws) : RimsAt K C CR H' p xs ws := by
  obtain ⟨d2, tw, tl, th, tn, r1, r2, r3, r4, r5, r6⟩ := h
  exact ⟨d2, tw, tl, th, tn, s _ _ r1 (fun ps q => by cases q), SqB.extN s r2, r3.imp fun a ns wa => WordAt.extN s wa, SqB.extN s r4, SqB.extN s r5, SqB.extN s r6⟩
theorem CornAt.extN {a : Addr} {cs : List (List Nat)} (s : LamX.ExtN H H') (h : CornAt K H a cs) : CornAt K H' a cs := by
  obtain ⟨vs, h1, h2⟩ := h
  exact ⟨vs, SqB.extN s h1, h2.imp fun _ _ ⟨q, e, r⟩ => ⟨q, e, SqB.extN s r⟩⟩
theorem SewAt.extN {p rp : Addr} {xs : List Addr} {ws : List (List Int)} {mt : List Int} (s : LamX.ExtN H H') (h : SewAt K C CR CS H p rp xs ws mt) : SewAt K C CR CS H' p rp xs ws mt := by
  obtain ⟨dx, tm, tc, tp, h1, h2, h3, h4, h5⟩ := h
  exact ⟨dx, tm, tc, tp, s _ _ h1 (fun ps q => by cases q), RimsAt.extN s h2, SqB.extN s h3, CornAt.extN s h4, CornAt.extN s h5⟩
/-- what is no Sewing -/
structure XS (K : PySem.W.Frag) (CR CS : Addr) : Prop where
  nN : PySem.W.kitOne K (.type "NoneType") (.ref CS) = some false
  nI : PySem.W.kitOne K (.type "int") (.ref CS) = some false
  nB : PySem.W.kitOne K (.type "bool") (.ref CS) = some false
  nS : PySem.W.kitOne K (.type "str") (.ref CS) = some false
  nL : PySem.W.kitOne K (.type "list") (.ref CS) = some false
  nT : PySem.W.kitOne K (.type "tuple") (.ref CS) = some false
  nR : PySem.W.kitOne K (.ref CR) (.ref CS) = some false
/-- repr shows it, in a str that can be compared -/
def ShS (d : PyData) : Prop := RA.Shw d ∧ PyData.canLay0 (.str d.shown) = true
instance (d : PyData) : Decidable (RA.Shw d) := by unfold RA.Shw; exact inferInstance
instance (d : PyData) : Decidable (ShS d) := by unfold ShS; exact inferInstance
/-- data that is asked for a place -/
inductive Plc (H : Hp) : V → PyData → String → Prop
  | int (i : Int) (h : ShS (.int i)) : Plc H (.int i) (.int i) "int"
  | bl (b : Bool) : Plc H (.bl b) (.bool b) "bool"
  | non : Plc H .non .none "NoneType"
  | str (z : Str) (h : ShS (.str z)) : Plc H (.str z) (.str z) "str"
  | one {p : Addr} (e : H p = some (.lst [.int 0])) : Plc H (.ref p) (.list [.int 0]) "list"
theorem Plc.ext {v : V} {pd : PyData} {t : String} (s : LamX.ExtN H H') (h : Plc H v pd t) : Plc H' v pd t := by
  cases h with
  | int i h => exact .int i h
  | bl b => exact .bl b
  | non => exact .non
  | str z h => exact .str z h
  | one e => exact .one (s _ _ e fun ps q => by cases q)
theorem Plc.typ {v : V} {pd : PyData} {t : String} (h : Plc H v pd t) : Typ H v t := by
  cases h with
  | int i h => exact .int i
  | bl b => exact .bl b
  | non => exact .non
  | str z h => exact .str z
  | one e => exact .lst e
theorem Plc.dp {v : V} {pd : PyData} {t : String} (h : Plc H v pd t) : Dp K H v pd := by
  cases h with
  | int i h => exact .int i
  | bl b => exact .bl b
  | non => exact .non
  | str z h => exact .str z
  | one e => exact .lst (SqL.of e) (.cons (.int 0) .nil)
theorem Plc.shs {v : V} {pd : PyData} {t : String} (h : Plc H v pd t) : ShS pd := by
  cases h with
  | int i h => exact h
  | bl b => cases b <;> decide +kernel
  | non => decide +kernel
  | str z h => exact h
  | one e => decide +kernel
theorem Plc.shw {v : V} {pd : PyData} {t : String} (h : Plc H v pd t) : RA.Shw pd := h.shs.1
theorem shw_nat : ∀ n : Nat, n < 61 → ShS (.int (n : Int)) := by decide +kernel
theorem shw_neg : ∀ n : Nat, n < 61 → ShS (.int (-(n : Int))) := by decide +kernel
/-! ### what is heard -/
variable {CBS CMF CNP CTw : Addr} {T : List (Addr × Str)} {Q : VK} {H1 : Hp}
theorem ef_bad {fl wd r : Str} {D : Addr} {v : V} (s0 : LamX.ExtN H H1) (t1 : LamX.Tabs T H1) (k : ∀ H2 t, LamX.ExtN H H2 → LamX.Tabs T H2 → H2 t = some (.tup [.str wd, .str r]) → Q (.ref t) H2)
    (kind : ∀ H', Same H1 H' → (D = CBS ∧ fl = "part" ∧ wd = "sewing" ∧ V.str r = v) ∨ (D = CMF ∧ fl = "part" ∧ wd = "misfit" ∧ V.str r = v) ∨ (D = CNP ∧ fl = "value" ∧ wd = "place" ∧ ∃ pd, Dp K H' v pd ∧ RA.Shw pd ∧ V.str r = .str pd.shown) ∨ (D = CTw ∧ fl = "value" ∧ wd = "twice" ∧ ∃ pd, Dp K H' v pd ∧ RA.Shw pd ∧ V.str r = .str pd.shown)) : Bad fl D (EF K CBS CMF CNP CTw Q) H1 v := by
  intro H2 s2 d hd
  have s3 := s2.trans (same_upd (o := .xd [(fl, v)]) hd)
  refine ⟨D, d, fl, wd, v, .str r, rfl, rfl, upd_same, kind _ s3, fun H4 s4 t ht => ?_⟩
  have s5 := s3.trans s4
  exact k H4 t (s0.trans (extOf s5)) (fun p hp => (t1 p hp).ext fun b o e => s5 b o e) ht
theorem bad_sew (s0 : LamX.ExtN H H1) (t1 : LamX.Tabs T H1) (k : ∀ H2 t, LamX.ExtN H H2 → LamX.Tabs T H2 → H2 t = some (.tup [.str "sewing", .str "sewing"]) → Q (.ref t) H2) : Bad "part" CBS (EF K CBS CMF CNP CTw Q) H1 (.str "sewing") :=
  ef_bad s0 t1 k fun _ _ => .inl ⟨rfl, rfl, rfl, rfl⟩
theorem bad_mis (s0 : LamX.ExtN H H1) (t1 : LamX.Tabs T H1) (k : ∀ H2 t, LamX.ExtN H H2 → LamX.Tabs T H2 → H2 t = some (.tup [.str "misfit", .str "letters"]) → Q (.ref t) H2) : Bad "part" CMF (EF K CBS CMF CNP CTw Q) H1 (.str "letters") :=
  ef_bad s0 t1 k fun _ _ => .inr (.inl ⟨rfl, rfl, rfl, rfl⟩)
theorem bad_place {v : V} {pd : PyData} {t : String} (pl : Plc H1 v pd t) (s0 : LamX.ExtN H H1) (t1 : LamX.Tabs T H1) (k : ∀ H2 t, LamX.ExtN H H2 → LamX.Tabs T H2 → H2 t = some (.tup [.str "place", .str pd.shown]) → Q (.ref t) H2) : Bad "value" CNP (EF K CBS CMF CNP CTw Q) H1 v :=
  ef_bad s0 t1 k fun _ s => .inr (.inr (.inl ⟨rfl, rfl, rfl, pd, (pl.ext (extOf s)).dp, pl.shw, rfl⟩))
theorem bad_twice {v : V} {pd : PyData} {t : String} (pl : Plc H1 v pd t) (s0 : LamX.ExtN H H1) (t1 : LamX.Tabs T H1) (k : ∀ H2 t, LamX.ExtN H H2 → LamX.Tabs T H2 → H2 t = some (.tup [.str "twice", .str pd.shown]) → Q (.ref t) H2) : Bad "value" CTw (EF K CBS CMF CNP CTw Q) H1 v :=
  ef_bad s0 t1 k fun _ s => .inr (.inr (.inr ⟨rfl, rfl, rfl, pd, (pl.ext (extOf s)).dp, pl.shw, rfl⟩))
/-- the tuples of two strs that a list holds -/
def TwoS (H : Hp) (v : V) (d : Str × Str) : Prop := ∃ t, v = V.ref t ∧ H t = some (.tup [.str d.1, .str d.2])
theorem TwoS.ext {v : V} {d : Str × Str} (s : LamX.ExtN H H') (h : TwoS H v d) : TwoS H' v d := by
  obtain ⟨t, e, g⟩ := h
  exact ⟨t, e, s _ _ g fun ps q => by cases q⟩
theorem TwoS.put {v : V} {d : Str × Str} {l : Addr} {us : List V} {o : HO} (hl : H l = some (.lst us)) (h : TwoS H v d) : TwoS (L2.upd H l o) v d := by
  obtain ⟨t, e, g⟩ := h
  exact ⟨t, e, by rw [upd_ne (fun z => by rw [z, hl] at g; cases g)]; exact g⟩
def dps (ds : List (Str × Str)) : List PyData := ds.map fun d => .tuple [.str d.1, .str d.2]
theorem twoS_dp : ∀ {vs : List V} {ds : List (Str × Str)}, All2 (TwoS H) vs ds → DpAll K H vs (dps ds) := by
  intro vs ds h
  induction h with
  | nil => exact .nil
  | cons h1 _ ih =>
    obtain ⟨t, rfl, g⟩ := h1
    exact .cons (.tup (SqT.of g) (.cons (.str _) (.cons (.str _) .nil))) ih
end
theorem rep_cntK (k : Int) : ∀ c : Nat, c ≤ ((List.replicate c [k, -k]).flatten).count k
  | 0 => Nat.zero_le _
  | c + 1 => by
    have ih := rep_cntK k c
    rw [List.replicate_succ, List.flatten_cons, List.count_append]
    have : 1 ≤ [k, -k].count k := List.count_pos_iff.mpr (by simp)
    omega
theorem dps_eqv : ∀ ds : List (Str × Str), PyData.eqvAll (dps ds) (dps ds) = true
  | [] => rfl
  | (a, b) :: r => by
    show (PyData.eqv (.tuple [.str a, .str b]) (.tuple [.str a, .str b]) && PyData.eqvAll (dps r) (dps r)) = true
    rw [dps_eqv r, Bool.and_true]
    show (a == a && (b == b && true)) = true
    rw [beq_self_eq_true, beq_self_eq_true]
    rfl
theorem dps_lay : ∀ ds : List (Str × Str), (∀ d ∈ ds, PyData.canLay0 (.str d.1) = true ∧ PyData.canLay0 (.str d.2) = true) → PyData.canLayAll0 (dps ds) = true
  | [], _ => rfl
  | (a, b) :: r, h => by
    show ((PyData.canLay0 (.str a) && (PyData.canLay0 (.str b) && true)) && PyData.canLayAll0 (dps r)) = true
    rw [dps_lay r (fun d hd => h d (List.mem_cons_of_mem _ hd)), (h _ List.mem_cons_self).1, (h _ List.mem_cons_self).2]
    rfl
/-- two places of one letter there are -/
theorem couple_of {cs : List Nat} {ws : List (List Int)} {ks : List Int} (h : PlainOk cs ws ks) (h2 : ∃ c r, cs = c :: r ∧ 2 ≤ c) : 0 < (cplF ws.flatten ws.flatten.length).length := by
  obtain ⟨c, r, rfl, hc⟩ := h2
  have hl := h.len
  cases ks with
  | nil => cases hl
  | cons k ks =>
    have e : 2 ≤ ws.flatten.count k := by
      rw [h.pm.count_eq, List.zip_cons_cons]
      show 2 ≤ ((List.replicate c [k, -k]).flatten ++ plF (ks.zip r)).count k
      rw [List.count_append]
      have := rep_cntK k c
      omega
    rw [← plc_len] at e
    have nd := plc_nodup ws.flatten k
    match e1 : plc ws.flatten k, e, nd with
    | x :: y :: _, _, nd =>
      have hx := plc_mem.mp (show x ∈ plc ws.flatten k by rw [e1]; simp)
      have hy := plc_mem.mp (show y ∈ plc ws.flatten k by rw [e1]; simp)
      have : (x, y) ∈ cplF ws.flatten ws.flatten.length := cplF_mem.mpr ⟨hx.1, hy.1, (fun z => by
        have z : x = y := z
        subst z
        simp at nd), by rw [hx.2, hy.2]⟩
      exact List.length_pos_of_mem this
    | [_], e, _ => simp at e
    | [], e, _ => simp at e
end W14
set_option Elab.async false
set_option linter.all false
set_option maxRecDepth 100000
set_option maxHeartbeats 1000000
namespace W14
open PySem L2 PySem.Spec PyProof.Rows WR WB WE WS
/-! ### what is refused -/
theorem RimsAt.kept {K : PySem.W.Frag} {C CR : Addr} {H H' : Hp} {D rp : Addr} {xs : List Addr} {ws : List (List Int)} {us : List V} (hD : H D = some (.lst us)) (d : Kept D H H') (h : RimsAt K C CR H rp xs ws) : RimsAt K C CR H' rp xs ws := by
  have kB : ∀ {a ys}, SqB K H a ys → SqB K H' a ys := fun h => SqB.keptL hD d h
  have kI : ∀ {a C dx fs}, H a = some (.ins C dx fs) → H' a = some (.ins C dx fs) := fun {a C dx fs} e => d _ _ (fun z => by rw [z, hD] at e; cases e) e
  obtain ⟨d2, tw, tl, th, tn, r1, r2, r3, r4, r5, r6⟩ := h
  refine ⟨d2, tw, tl, th, tn, kI r1, kB r2, r3.imp fun a ns wa => ?_, kB r4, kB r5, kB r6⟩
  obtain ⟨dx, tl, tk, ks, w1, w2, w3, w4⟩ := wa
  exact ⟨dx, tl, tk, ks, kI w1, kB w2, SqT.keptL hD d w3, w4⟩
/-- what stands while calls are heard -/
structure RS (K : PySem.W.Frag) (C CR CS : Addr) (T : List (Addr × Str)) (a c : Addr) (n : Nat) (s rp : Addr) (xs : List Addr) (ws : List (List Int)) (mt : List Int) (nv : V) (nd : PyData) (nt : String) (bv : V) (bd : PyData) (bt : String) (hl : Addr) (H : Hp) (us : List V) (ds : List (Str × Str)) : Prop where
  hand : HandAt H a c n
  hla : hl ≠ a
  hlc : hl ≠ c
  sew : SewAt K C CR CS H s rp xs ws mt
  nP : Plc H nv nd nt
  nne : ∀ p, nv = .ref p → p ≠ hl
  bP : Plc H bv bd bt
  bne : ∀ p, bv = .ref p → p ≠ hl
  tab : LamX.Tabs T H
  lst : H hl = some (.lst us)
  all : All2 (TwoS H) us ds
section
variable {K : PySem.W.Frag} {C CR CS : Addr} {T : List (Addr × Str)} {a c : Addr} {n : Nat} {s rp : Addr} {xs : List Addr} {ws : List (List Int)} {mt : List Int} {nv : V} {nd : PyData} {nt : String} {bv : V} {bd : PyData} {bt : String} {hl : Addr} {H H' : Hp} {us : List V} {ds : List (Str × Str)}
theorem RS.ext (r : RS K C CR CS T a c n s rp xs ws mt nv nd nt bv bd bt hl H us ds) (x : LamX.ExtN H H') (t : LamX.Tabs T H') : RS K C CR CS T a c n s rp xs ws mt nv nd nt bv bd bt hl H' us ds :=
  ⟨r.hand.ext x, r.hla, r.hlc, SewAt.extN x r.sew, r.nP.ext x, r.nne, r.bP.ext x, r.bne, t, x _ _ r.lst (fun ps z => by cases z), r.all.imp fun _ _ h => h.ext x⟩
theorem Plc.put {v : V} {pd : PyData} {t : String} {o : HO} (h : Plc H v pd t) (ne : ∀ p, v = .ref p → p ≠ hl) : Plc (L2.upd H hl o) v pd t := by
  cases h with
  | int i h => exact .int i h
  | bl b => exact .bl b
  | non => exact .non
  | str z h => exact .str z h
  | one e => exact .one (by rw [upd_ne (ne _ rfl)]; exact e)
theorem Plc.new {v : V} {pd : PyData} {t : String} (h : Plc H v pd t) (hn : H hl = none) : ∀ p, v = .ref p → p ≠ hl := by
  cases h with
  | int i h => exact fun p z => by cases z
  | bl b => exact fun p z => by cases z
  | non => exact fun p z => by cases z
  | str z h => exact fun p z => by cases z
  | one e =>
    intro p z
    cases z
    exact ne_of_none e hn
theorem all2_snoc {α β : Type} {R : α → β → Prop} {x : α} {y : β} : ∀ {xs : List α} {ys : List β}, All2 R xs ys → R x y → All2 R (xs ++ [x]) (ys ++ [y]) := by
  intro xs ys h r
  induction h with
  | nil => exact .cons r .nil
  | cons h1 _ ih => exact .cons h1 ih
theorem all2_len {α β : Type} {R : α → β → Prop} {xs : List α} {ys : List β} (h : All2 R xs ys) : xs.length = ys.length := by
  induction h with
  | nil => rfl
  | cons h1 _ ih => rw [List.length_cons, List.length_cons, ih]
theorem RS.push {u : Addr} {wd x : Str} (r : RS K C CR CS T a c n s rp xs ws mt nv nd nt bv bd bt hl H us ds) (g : H u = some (.tup [.str wd, .str x])) : RS K C CR CS T a c n s rp xs ws mt nv nd nt bv bd bt hl (L2.upd H hl (.lst (us ++ [.ref u]))) (us ++ [.ref u]) (ds ++ [(wd, x)]) :=
  ⟨r.hand.off r.hla r.hlc, r.hla, r.hlc, r.sew.put r.lst, r.nP.put r.nne, r.nne, r.bP.put r.bne, r.bne, tabs_put r.lst r.tab, upd_same, all2_snoc (r.all.imp fun _ _ h => h.put r.lst) (TwoS.put r.lst ⟨u, rfl, g⟩)⟩
end
def spRR (K : PySem.W.Frag) (C CR CS : Addr) (T : List (Addr × Str)) : Sp := fun vs H Q _ => ∃ (a c s lq rp : Addr) (xs : List Addr) (ws : List (List Int)) (mt : List Int) (n : Nat), vs = [.ref a, .ref s, .ref lq] ∧ HandAt H a c n ∧ n ≤ 6000 ∧ SewAt K C CR CS H s rp xs ws mt ∧ RimOk ws ∧ MatOk ws.flatten mt ∧ H lq = some (.lst (iv ws.flatten)) ∧ LamX.Tabs T H ∧
  ∀ H', HandAt H' a c (n + 4) → LamX.Tabs T H' → Q (.bl true) H'
abbrev qRR : Str := ("_law_refused_right" : Str) ++ ".<locals>." ++ "<lambda>"
abbrev sRR : Stmt := top 80
abbrev nRR : List Str := ["_law_pen_here", "_law_sewing", "_law_letters_here", "_law_odd", "_law_none", "_law_bad", "_law_place", "_law_heard", "_law_due"]
theorem scRR : FnScope nRR ["_law_pen_here", "_law_sewing", "_law_letters_here"] (defScope sRR) := ⟨rfl, rfl, rfl, by decide +kernel, rfl, by decide +kernel, by decide +kernel⟩
section
variable {P : Program} {w : World} {K : PySem.W.Frag} {mg : Str → Option Value} {base : Heap} {C CR CS CBS CNP CTw CMF CH : Addr}
theorem ok_RR {f cd P1 g : Addr} {fd : FuncData} {TT : List (Addr × Str)} (F : FunC K "_law_refused_right" sRR f cd fd) (N : TN mg) (O : SewO P w K mg base C CR CS) (XS_ : XS K CR CS) (BS : ErrC P w K mg base CBS "BadSewing" ["self", "part"] (spI1 "part" CBS)) (MF : ErrC P w K mg base CMF "Misfit" ["self", "part"] (spI1 "part" CMF))
    (NP : ErrC P w K mg base CNP "NoPlace" ["self", "value"] (spI1 "value" CNP)) (TW : ErrC P w K mg base CTw "Twice" ["self", "value"] (spI1 "value" CTw)) (Z : Four K mg CBS CMF CNP CTw CH) (G : FaultK K mg g) (TB : LamX.TabB base mg cd P1) (hT : (P1, qRR) ∈ TT) (hu : ∀ p ∈ TT, p.1 = P1 → p.2 = qRR)
    (G_draw : Cal P w K mg base "_law_draw" 1 ["_law_pen_here", "_law_many"] spTake) (G_pick : Cal P w K mg base "_law_pick" 2 ["_law_pen_here", "_law_some"] spPick) (G_exchanged : CalX P w K mg base "exchanged" 8 ["sewing", "place", "other"] (spExch K C CR CS CBS CNP CTw CMF)) :
    RG.FnG P w K mg base 11 f fd ["_law_pen_here", "_law_sewing", "_law_letters_here"] (spRR K C CR CS TT) := by
  refine F.okG scRR (fun vs H Q E h => ?_) (fun A outer s H vs Q E hg hr h => ?_)
  · obtain ⟨a, c, s, lq, rp, xs, ws, mt, n, rfl, _⟩ := h
    rfl
  · obtain ⟨a, c, s, lq, rp, xs, ws, mt, n, rfl, hH, hn, hS, ok, mok, hl, tT, k⟩ := h
    obtain ⟨oc, od, kV, doc, pm, cdv, ct, an, osl, lk, hcd⟩ := G.ex
    have bG : L2.Binds K (PySem.W.fnOf "_law_fault" "_law_fault" (defArgs sFault) (defBody sFault) (defScope sFault) .none kV doc pm an cdv ct) ["_law_ask"] [] := (fun_mk (st := sFault) lk hcd G.kp).binds (ps := ["_law_ask"]) fun _ _ _ _ _ _ us hl => match us, hl with | [_], _ => rfl
    refine ⟨_, pss_cons (ps_set (i := 3) scRR.nd rfl (Or.inr rfl) (pe_cal G_pick hr (by decide) (by rfl) (pa_cons (pv 0) (pa_cons (pe_lst (pa_cons pe_non (pa_cons pe_int (pa_cons (pe_fld (pv 1) rfl) (pa_cons (pe_fld (pv 1) rfl) (pa_cons (pe_lst (pa_cons (pv 1) pa_nil)) (pa_cons pe_str (pa_cons pe_bl pa_nil)))))))) pa_nil))))
      (pss_cons (ps_asg (pe_tup (pa_cons (pe_cal G_pick hr (by decide) (by rfl) (pa_cons (pv 0) (pa_cons (pe_lst (pa_cons (pe_un un_neg pe_int) (pa_cons (pe_callB call_len_seq (by rfl) N.len PySem.boot_len (pa_cons (pv 2) pa_nil)) (pa_cons pe_non (pa_cons pe_bl (pa_cons pe_str (pa_cons (pe_lst (pa_cons pe_int pa_nil)) (pa_cons (pe_op op_pow pe_int pe_int) pa_nil)))))))) pa_nil))) (pa_cons (pe_cal G_pick hr (by decide) (by rfl) (pa_cons (pv 0) (pa_cons (pe_lst (pa_cons pe_non (pa_cons (pe_un un_neg (pe_callB call_len_seq (by rfl) N.len PySem.boot_len (pa_cons (pv 2) pa_nil))) (pa_cons pe_bl (pa_cons pe_str pa_nil))))) pa_nil))) pa_nil))) (pg_tup (n := 2) rfl (pgs_cons (pg_name (i := 4) scRR.nd rfl (Or.inr rfl)) (pgs_cons (pg_name (i := 5) scRR.nd rfl (Or.inr rfl)) pgs_nil))))
      (pss_cons (ps_set (i := 6) scRR.nd rfl (Or.inr rfl) (pe_cal G_draw hr (by decide) (by rfl) (pa_cons (pv 0) (pa_cons (pe_callB call_len_seq (by rfl) N.len PySem.boot_len (pa_cons (pv 2) pa_nil)) pa_nil))))
      (pss_cons (ps_set (i := 7) scRR.nd rfl (Or.inl rfl) (pe_lst (pa_cons (LamX.pe_lamcall (T := TT) (k := 8) (t := fun E => tCall (spExch K C CR CS CBS CNP CTw CMF) [] E (tCons (tVar 3) (tCons (tVar 4) (tCons (tVar 5) tNil)))) (by rfl) G.mg G.kp lk hcd bG scFault (by rfl) (Or.inl rfl) (fault_gives N BS MF NP TW Z hg (hr.mono (by decide))) TB rfl hT hu hr (LamX.lamS_by (sc := defScope sRR) (by decide +kernel)) (by rfl) (fun q cl pm cv ctv => by rfl) (fun A outer s H E f c' hr2 => pe_calX G_exchanged hr2 (by decide) (passes_call (takes_of rfl rfl rfl rfl) (fun _ _ _ _ h => h)) (by rfl) (pa_cons (pv 3) (pa_cons (pv 4) (pa_cons (pv 5) pa_nil))))) pa_nil)))
      (pss_cons (ps_expr (pe_bm PySem.F.plainAttrs_list PySem.F.slot_list_append PySem.F.type_list_append mt_append (pv 7) (pa_cons (LamX.pe_lamcall (T := TT) (k := 8) (t := fun E => tCall (spExch K C CR CS CBS CNP CTw CMF) [] E (tCons (tVar 1) (tCons (tVar 4) (tCons (tVar 5) tNil)))) (by rfl) G.mg G.kp lk hcd bG scFault (by rfl) (Or.inl rfl) (fault_gives N BS MF NP TW Z hg (hr.mono (by decide))) TB rfl hT hu hr (LamX.lamS_by (sc := defScope sRR) (by decide +kernel)) (by rfl) (fun q cl pm cv ctv => by rfl) (fun A outer s H E f c' hr2 => pe_calX G_exchanged hr2 (by decide) (passes_call (takes_of rfl rfl rfl rfl) (fun _ _ _ _ h => h)) (by rfl) (pa_cons (pv 1) (pa_cons (pv 4) (pa_cons (pv 5) pa_nil))))) pa_nil)))
      (pss_cons (ps_expr (pe_bm PySem.F.plainAttrs_list PySem.F.slot_list_append PySem.F.type_list_append mt_append (pv 7) (pa_cons (LamX.pe_lamcall (T := TT) (k := 8) (t := fun E => tCall (spExch K C CR CS CBS CNP CTw CMF) [] E (tCons (tVar 1) (tCons (tVar 6) (tCons (tVar 5) tNil)))) (by rfl) G.mg G.kp lk hcd bG scFault (by rfl) (Or.inl rfl) (fault_gives N BS MF NP TW Z hg (hr.mono (by decide))) TB rfl hT hu hr (LamX.lamS_by (sc := defScope sRR) (by decide +kernel)) (by rfl) (fun q cl pm cv ctv => by rfl) (fun A outer s H E f c' hr2 => pe_calX G_exchanged hr2 (by decide) (passes_call (takes_of rfl rfl rfl rfl) (fun _ _ _ _ h => h)) (by rfl) (pa_cons (pv 1) (pa_cons (pv 6) (pa_cons (pv 5) pa_nil))))) pa_nil)))
      (pss_cons (ps_expr (pe_bm PySem.F.plainAttrs_list PySem.F.slot_list_append PySem.F.type_list_append mt_append (pv 7) (pa_cons (LamX.pe_lamcall (T := TT) (k := 8) (t := fun E => tCall (spExch K C CR CS CBS CNP CTw CMF) [] E (tCons (tVar 1) (tCons (tVar 6) (tCons (tVar 6) tNil)))) (by rfl) G.mg G.kp lk hcd bG scFault (by rfl) (Or.inl rfl) (fault_gives N BS MF NP TW Z hg (hr.mono (by decide))) TB rfl hT hu hr (LamX.lamS_by (sc := defScope sRR) (by decide +kernel)) (by rfl) (fun q cl pm cv ctv => by rfl) (fun A outer s H E f c' hr2 => pe_calX G_exchanged hr2 (by decide) (passes_call (takes_of rfl rfl rfl rfl) (fun _ _ _ _ h => h)) (by rfl) (pa_cons (pv 1) (pa_cons (pv 6) (pa_cons (pv 6) pa_nil))))) pa_nil)))
      (pss_cons (ps_expr (pe_bm PySem.F.plainAttrs_list PySem.F.slot_list_append PySem.F.type_list_append mt_append (pv 7) (pa_cons (LamX.pe_lamcall (T := TT) (k := 8) (t := fun E => tCall (spExch K C CR CS CBS CNP CTw CMF) [] E (tCons (tVar 1) (tCons (tVar 6) (tCons (tOp (rIxT K) (tFld K (tVar 1) "mates") (tVar 6)) tNil)))) (by rfl) G.mg G.kp lk hcd bG scFault (by rfl) (Or.inl rfl) (fault_gives N BS MF NP TW Z hg (hr.mono (by decide))) TB rfl hT hu hr (LamX.lamS_by (sc := defScope sRR) (by decide +kernel)) (by rfl) (fun q cl pm cv ctv => by rfl) (fun A outer s H E f c' hr2 => pe_calX G_exchanged hr2 (by decide) (passes_call (takes_of rfl rfl rfl rfl) (fun _ _ _ _ h => h)) (by rfl) (pa_cons (pv 1) (pa_cons (pv 6) (pa_cons (pe_ix (ixt (K := K) rfl) (pe_fldK (K := K) rfl (pv 1) rfl) (pv 6) (fun _ _ => rfl)) pa_nil))))) pa_nil)))
      (pss_cons (ps_expr (pe_bm PySem.F.plainAttrs_list PySem.F.slot_list_append PySem.F.type_list_append mt_append (pv 7) (pa_cons (LamX.pe_lamcall (T := TT) (k := 8) (t := fun E => tCall (spExch K C CR CS CBS CNP CTw CMF) [] E (tCons (tVar 1) (tCons (tVar 4) (tCons (tVar 6) tNil)))) (by rfl) G.mg G.kp lk hcd bG scFault (by rfl) (Or.inl rfl) (fault_gives N BS MF NP TW Z hg (hr.mono (by decide))) TB rfl hT hu hr (LamX.lamS_by (sc := defScope sRR) (by decide +kernel)) (by rfl) (fun q cl pm cv ctv => by rfl) (fun A outer s H E f c' hr2 => pe_calX G_exchanged hr2 (by decide) (passes_call (takes_of rfl rfl rfl rfl) (fun _ _ _ _ h => h)) (by rfl) (pa_cons (pv 1) (pa_cons (pv 4) (pa_cons (pv 6) pa_nil))))) pa_nil)))
      (pss_cons (ps_set (i := 8) scRR.nd rfl (Or.inl rfl) (pe_lst (pa_cons (pe_tup (pa_cons pe_str (pa_cons pe_str pa_nil))) (pa_cons (pe_tup (pa_cons pe_str (pa_cons (pe_callB (RA.call_reprA hg (by have hh : _ < cLine := hr.units; exact Nat.lt_of_le_of_lt (Nat.add_le_add_left (by decide : 40 ≤ 64) _) hh)) (by rfl) N.repr (by decide +kernel) (pa_cons (pv 4) pa_nil)) pa_nil))) (pa_cons (pe_tup (pa_cons pe_str (pa_cons (pe_callB (RA.call_reprA hg (by have hh : _ < cLine := hr.units; exact Nat.lt_of_le_of_lt (Nat.add_le_add_left (by decide : 40 ≤ 64) _) hh)) (by rfl) N.repr (by decide +kernel) (pa_cons (pv 5) pa_nil)) pa_nil))) (pa_cons (pe_tup (pa_cons pe_str (pa_cons (pe_callB (RA.call_reprA hg (by have hh : _ < cLine := hr.units; exact Nat.lt_of_le_of_lt (Nat.add_le_add_left (by decide : 40 ≤ 64) _) hh)) (by rfl) N.repr (by decide +kernel) (pa_cons (pv 6) pa_nil)) pa_nil))) (pa_cons (pe_tup (pa_cons pe_str (pa_cons pe_str pa_nil))) pa_nil)))))))
      (pss_one (ps_ret (pe_cmpR (op_eqD hr.units) (pv 7) (pe_op op_cat (pv 8) (pe_lst (pa_cons (pe_tup (pa_cons pe_str (pa_cons (pe_callB (RA.call_reprA hg (by have hh : _ < cLine := hr.units; exact Nat.lt_of_le_of_lt (Nat.add_le_add_left (by decide : 40 ≤ 64) _) hh)) (by rfl) N.repr (by decide +kernel) (pa_cons (pv 4) pa_nil)) pa_nil))) pa_nil))) (nomark _))))))))))))), ?_⟩
    obtain ⟨T, TC, TS, ER, rn, ES⟩ := O
    obtain ⟨dx, tm, tc, tp, h1, R1, h3, h4, h5⟩ := id hS
    -- no sewing
    refine ⟨_, rfl, _, rfl, s, CS, dx, _, _, rfl, h1, TS.cl, TS.n2, sf_mates, _, rfl, s, CS, dx, _, _, rfl, h1, TS.cl, TS.n1, sf_rims, _, rfl, by show 1 ≤ sizeLine; decide, fun l1 hl1 => ⟨by show 7 ≤ sizeLine; decide, fun O1 hO1 => ?_⟩⟩
    have sA := same_upd (o := .lst [.ref s]) hl1
    have gl1 : L2.upd H l1 (.lst [.ref s]) l1 = some (.lst [.ref s]) := upd_same
    obtain ⟨H1, e1⟩ : ∃ H1, H1 = L2.upd H l1 (.lst [.ref s]) := ⟨_, rfl⟩
    rw [← e1] at sA gl1 hO1 ⊢
    have sB := same_upd (o := .lst [.non, .int 5, .ref tm, .ref rp, .ref l1, .str "1 0", .bl true]) hO1
    have gO1 : L2.upd H1 O1 (.lst [.non, .int 5, .ref tm, .ref rp, .ref l1, .str "1 0", .bl true]) O1 = some (.lst [.non, .int 5, .ref tm, .ref rp, .ref l1, .str "1 0", .bl true]) := upd_same
    have gl2 := sB _ _ gl1
    have O1a := (hH.same sA).ne hO1
    obtain ⟨H2, e2⟩ : ∃ H2, H2 = L2.upd H1 O1 (.lst [.non, .int 5, .ref tm, .ref rp, .ref l1, .str "1 0", .bl true]) := ⟨_, rfl⟩
    rw [← e2] at sB gO1 gl2 ⊢
    have s02 := sA.trans sB
    have hH2 := hH.same s02
    have l1a : l1 ≠ a := hH.ne hl1
    refine ⟨a, c, O1, _, n, rfl, hH2, by omega, O1a, gO1, by show 0 < 7; decide, by show 7 ≤ 1000; decide, fun od hod H3 d3 => ?_⟩
    have S3 := (hS.same s02).kept hH2.lst.choose_spec d3.2
    have gl3 := d3.2 _ _ l1a gl2
    have hl3 := d3.2 _ _ (hH2.ne_iv (s02 _ _ hl)) (s02 _ _ hl)
    have t3 := d3.tabs hH2 (tT.ext s02)
    have hH3 := d3.1
    try dsimp only
    refine at_set ?_
    try dsimp only
    -- no place
    refine ⟨_, rfl, _, rfl, _, rfl, lq, _, rfl, .inl (SqL.of hl3), by show 1 ≤ sizeLine; decide, fun l4 hl4 => ?_⟩
    have sC := same_upd (o := .lst [.int 0]) hl4
    have gl4 : L2.upd H3 l4 (.lst [.int 0]) l4 = some (.lst [.int 0]) := upd_same
    obtain ⟨H4, e4⟩ : ∃ H4, H4 = L2.upd H3 l4 (.lst [.int 0]) := ⟨_, rfl⟩
    rw [← e4] at sC gl4 ⊢
    refine ⟨_, _, rfl, rfl, ⟨by decide, by decide, by decide⟩, by show 7 ≤ sizeLine; decide, fun O2 hO2 => ?_⟩
    rw [show ((iv ws.flatten).length : Int) = (ws.flatten.length : Int) by rw [List.length_map]]
    have sD := same_upd (o := .lst [.int (-1), .int (ws.flatten.length : Int), .non, .bl true, .str "0", .ref l4, .int (10 ^ (20 : Int).toNat)]) hO2
    have gO2 : L2.upd H4 O2 (.lst [.int (-1), .int (ws.flatten.length : Int), .non, .bl true, .str "0", .ref l4, .int (10 ^ (20 : Int).toNat)]) O2 = some (.lst [.int (-1), .int (ws.flatten.length : Int), .non, .bl true, .str "0", .ref l4, .int (10 ^ (20 : Int).toNat)]) := upd_same
    have O2a := (hH3.same sC).ne hO2
    have l4a : l4 ≠ a := hH3.ne hl4
    have gl5 := sD _ _ gl4
    obtain ⟨H5, e5⟩ : ∃ H5, H5 = L2.upd H4 O2 (.lst [.int (-1), .int (ws.flatten.length : Int), .non, .bl true, .str "0", .ref l4, .int (10 ^ (20 : Int).toNat)]) := ⟨_, rfl⟩
    rw [← e5] at sD gO2 gl5 ⊢
    have s35 := sC.trans sD
    have hH5 := hH3.same s35
    refine ⟨a, c, O2, _, n + 1, rfl, hH5, by omega, O2a, gO2, by show 0 < 7; decide, by show 7 ≤ 1000; decide, fun nv hnv H6 d6 => ?_⟩
    have gl6 := d6.2 _ _ l4a gl5
    have S6 := (S3.same s35).kept hH5.lst.choose_spec d6.2
    have hl6 := d6.2 _ _ (hH5.ne_iv (s35 _ _ hl3)) (s35 _ _ hl3)
    have t6 := d6.tabs hH5 (t3.ext s35)
    have gl61 := d6.2 _ _ l1a (s35 _ _ gl3)
    have hH6 := d6.1
    -- no other place
    refine ⟨_, rfl, _, rfl, lq, _, rfl, .inl (SqL.of hl6), ?_⟩
    refine ⟨_, rfl, by show 4 ≤ sizeLine; decide, fun O3 hO3 => ?_⟩
    rw [show ((iv ws.flatten).length : Int) = (ws.flatten.length : Int) by rw [List.length_map]]
    have sE := same_upd (o := .lst [.non, .int (-(ws.flatten.length : Int)), .bl false, .str "1"]) hO3
    have gO3 : L2.upd H6 O3 (.lst [.non, .int (-(ws.flatten.length : Int)), .bl false, .str "1"]) O3 = some (.lst [.non, .int (-(ws.flatten.length : Int)), .bl false, .str "1"]) := upd_same
    have O3a := hH6.ne hO3
    have gl7 := sE _ _ gl6
    obtain ⟨H7, e7⟩ : ∃ H7, H7 = L2.upd H6 O3 (.lst [.non, .int (-(ws.flatten.length : Int)), .bl false, .str "1"]) := ⟨_, rfl⟩
    rw [← e7] at sE gO3 gl7 ⊢
    have hH7 := hH6.same sE
    refine ⟨a, c, O3, _, n + 2, rfl, hH7, by omega, O3a, gO3, by show 0 < 4; decide, by show 4 ≤ 1000; decide, fun bv hbv H8 d8 => ?_⟩
    have gl8 := d8.2 _ _ l4a gl7
    have S8 := (S6.same sE).kept hH7.lst.choose_spec d8.2
    have hl8 := d8.2 _ _ (hH7.ne_iv (sE _ _ hl6)) (sE _ _ hl6)
    have t8 := d8.tabs hH7 (t6.ext sE)
    have gl81 := d8.2 _ _ l1a (sE _ _ gl61)
    have hH8 := d8.1
    refine ⟨by show 2 ≤ sizeLine; decide, fun tu htu => ?_⟩
    have sF := same_upd (o := .tup [nv, bv]) htu
    refine ⟨tu, _, rfl, SqT.of upd_same, rfl, _, _, rfl, _, _, rfl, rfl, ?_⟩
    have hH9 := hH8.same sF
    have S9 := S8.same sF
    have hl9 := sF _ _ hl8
    have t9 := t8.ext sF
    have gl9 := sF _ _ gl8
    have gl91 := sF _ _ gl81
    obtain ⟨H9, e9⟩ : ∃ H9, H9 = L2.upd H8 tu (.tup [nv, bv]) := ⟨_, rfl⟩
    rw [← e9] at sF hH9 S9 hl9 t9 gl9 gl91 ⊢
    have kA : Kept a H H9 := (((((Kept.trans (fun b o _ e => s02 b o e) d3.2).trans (fun b o _ e => s35 b o e)).trans d6.2).trans (fun b o _ e => sE b o e)).trans d8.2).trans (fun b o _ e => sF b o e)
    clear e1 e2 e4 e5 e7 e9 gO1 gO2 gO3 sA sB sC sD sE sF d3 d6 d8 hO1 hO2 hO3 htu O1a O2a O3a gl1 gl2 gl4 gl5 gl6 gl7 gl8 gl81 gl61 gl3 S3 S6 S8 hl3 hl6 hl8 t3 t6 t8 hH2 hH3 hH5 hH6 hH7 hH8 s35 hl4 hl1
    -- a place
    obtain ⟨la, hla⟩ := hH.lst
    have m9 : SqB K H9 tm (iv mt) := SqB.keptL hla kA h3
    have r9 : RimsAt K C CR H9 rp xs ws := RimsAt.kept hla kA R1
    have odd : ∀ H', LamX.ExtN H9 H' → NotC K CS H' od := fun H' x => by
      simp only [List.mem_cons, List.mem_nil_iff, or_false] at hod
      rcases hod with rfl | rfl | rfl | rfl | rfl | rfl | rfl
      · exact ⟨_, Typ.non.ty, XS_.nN⟩
      · exact ⟨_, (Typ.int _).ty, XS_.nI⟩
      · exact ⟨_, SqT.tyx (SqB.extN x m9).sq, XS_.nT⟩
      · exact ⟨_, (RimsAt.extN x r9).tyx T TC, XS_.nR⟩
      · exact ⟨_, (Typ.lst (x _ _ gl91 fun ps z => by cases z)).ty, XS_.nL⟩
      · exact ⟨_, (Typ.str _).ty, XS_.nS⟩
      · exact ⟨_, (Typ.bl _).ty, XS_.nB⟩
    have l24 : ws.flatten.length ≤ 24 := ok.2.2.2.1
    have npl : ∃ (pd : PyData) (t : String), Plc H9 nv pd t ∧ plB nv ws.flatten.length = false := by
      simp only [List.mem_cons, List.mem_nil_iff, or_false] at hnv
      rcases hnv with rfl | rfl | rfl | rfl | rfl | rfl | rfl
      · exact ⟨_, _, .int _ (shw_neg 1 (by decide)), rfl⟩
      · exact ⟨_, _, .int _ (shw_nat _ (by omega)), by
          show (decide ((0 : Int) ≤ (ws.flatten.length : Int)) && decide ((ws.flatten.length : Int) ≤ (ws.flatten.length : Int) - 1)) = false
          rw [decide_eq_false (show ¬ (ws.flatten.length : Int) ≤ (ws.flatten.length : Int) - 1 by omega), Bool.and_false]⟩
      · exact ⟨_, _, .non, rfl⟩
      · exact ⟨_, _, .bl _, rfl⟩
      · exact ⟨_, _, .str _ (by decide +kernel), rfl⟩
      · exact ⟨_, _, .one gl9, rfl⟩
      · exact ⟨_, _, .int _ (by decide +kernel), by
          show (decide ((0 : Int) ≤ 10 ^ (20 : Int).toNat) && decide ((10 : Int) ^ (20 : Int).toNat ≤ (ws.flatten.length : Int) - 1)) = false
          rw [decide_eq_false (show ¬ (10 : Int) ^ (20 : Int).toNat ≤ (ws.flatten.length : Int) - 1 by
            rw [show (10 : Int) ^ (20 : Int).toNat = 100000000000000000000 by decide +kernel]
            omega), Bool.and_false]⟩
    have l0 : 0 < ws.flatten.length := by
      obtain ⟨o1, _, o3, _⟩ := ok
      match ws, o1, o3 with
      | w :: r, _, o3 =>
        have := List.length_pos_iff.mpr (o3 w List.mem_cons_self)
        rw [List.flatten_cons, List.length_append]
        omega
    have bpl : ∃ (pd : PyData) (t : String), Plc H9 bv pd t ∧ plB bv ws.flatten.length = false := by
      simp only [List.mem_cons, List.mem_nil_iff, or_false] at hbv
      rcases hbv with rfl | rfl | rfl | rfl
      · exact ⟨_, _, .non, rfl⟩
      · exact ⟨_, _, .int _ (shw_neg _ (by omega)), by
          show (decide ((0 : Int) ≤ -(ws.flatten.length : Int)) && decide (-(ws.flatten.length : Int) ≤ (ws.flatten.length : Int) - 1)) = false
          rw [decide_eq_false (show ¬ (0 : Int) ≤ -(ws.flatten.length : Int) by omega), Bool.false_and]⟩
      · exact ⟨_, _, .bl _, rfl⟩
      · exact ⟨_, _, .str _ (by decide +kernel), rfl⟩
    obtain ⟨nd, nt, nP, nF⟩ := npl
    obtain ⟨bd, bt, bP, bF⟩ := bpl
    refine ⟨_, rfl, _, rfl, lq, _, rfl, .inl (SqL.of hl9), a, c, _, n + 3, rfl, hH9, by omega, by rw [List.length_map]; omega, by rw [List.length_map]; omega, fun H10 q q0 q1 hH10 k10 => ?_⟩
    rw [List.length_map] at q1
    obtain ⟨z, rfl⟩ : ∃ z : Nat, q = (z : Int) := ⟨q.toNat, by omega⟩
    have hz : z < ws.flatten.length := by omega
    have S10 := S9.kept hH9.lst.choose_spec k10
    have t10 := tabs_kept hH9 k10 t9
    have odd10 : ∀ H', LamX.ExtN H10 H' → NotC K CS H' od := fun H' x => by
      simp only [List.mem_cons, List.mem_nil_iff, or_false] at hod
      rcases hod with rfl | rfl | rfl | rfl | rfl | rfl | rfl
      · exact ⟨_, Typ.non.ty, XS_.nN⟩
      · exact ⟨_, (Typ.int _).ty, XS_.nI⟩
      · exact ⟨_, SqT.tyx (SqB.extN x (SqB.keptL hH9.lst.choose_spec k10 m9)).sq, XS_.nT⟩
      · exact ⟨_, (RimsAt.extN x (RimsAt.kept hH9.lst.choose_spec k10 r9)).tyx T TC, XS_.nR⟩
      · exact ⟨_, (Typ.lst (x _ _ (k10 _ _ l1a gl91) fun ps z => by cases z)).ty, XS_.nL⟩
      · exact ⟨_, (Typ.str _).ty, XS_.nS⟩
      · exact ⟨_, (Typ.bl _).ty, XS_.nB⟩
    have nP10 : Plc H10 nv nd nt := by
      have hn : ∀ p, nv = .ref p → p = l4 := fun p e => by
        subst e
        simp only [List.mem_cons, List.mem_nil_iff, or_false, V.ref.injEq, reduceCtorEq, false_or] at hnv
        exact hnv
      cases nP with
      | int i h => exact .int i h
      | bl b => exact .bl b
      | non => exact .non
      | str z h => exact .str z h
      | one e => exact .one (k10 _ _ (by rw [hn _ rfl]; exact l4a) e)
    have bP10 : Plc H10 bv bd bt := by
      cases bP with
      | int i h => exact .int i h
      | bl b => exact .bl b
      | non => exact .non
      | str z h => exact .str z h
      | one e => simp at hbv
    try dsimp only
    refine at_set ?_
    try dsimp only
    clear hod hnv hbv odd nP bP S9 m9 r9 t9 hl9 gl9 gl91 hH9 k10 h1 R1 h3 h4 h5
    refine ⟨t10, fun H11 x11 t11 R hR => ?_⟩
    refine ⟨_, rfl, _, rfl, _, rfl, od, nv, bv, rfl, .inl ⟨odd10 _ x11, bad_sew x11 t11 fun H12 u1 x12 t12 g12 => ?_⟩⟩
    refine ⟨by show 1 ≤ sizeLine; decide, fun hl hhl => ?_⟩
    have s13 := same_upd (o := .lst [.ref u1]) hhl
    have x13 := x12.trans (extOf s13)
    have r1 : RS K C CR CS TT a c (n + 3 + 1) s rp xs ws mt nv nd nt bv bd bt hl (L2.upd H12 hl (.lst [.ref u1])) [.ref u1] [("sewing", "sewing")] :=
      ⟨hH10.ext x13, (hH10.ext x12).ne hhl, (hH10.ext x12).neC hhl, SewAt.extN x13 S10, nP10.ext x13, (nP10.ext x12).new hhl, bP10.ext x13, (bP10.ext x12).new hhl, t12.ext s13, upd_same, .cons ⟨u1, rfl, s13 _ _ g12⟩ .nil⟩
    obtain ⟨H13, e13⟩ : ∃ H13, H13 = L2.upd H12 hl (.lst [.ref u1]) := ⟨_, rfl⟩
    rw [← e13] at r1 ⊢
    clear e13 s13 x13 hhl g12 t12 x12 x11 t11 hR R odd10 S10 t10 nP10 bP10 hH10
    try dsimp only
    refine at_set ?_
    try dsimp only
    -- no place
    refine ⟨_, rfl, .inl ⟨rfl, _, SqL.of r1.lst⟩, r1.tab, fun H14 x14 t14 R hR => ?_⟩
    refine ⟨_, rfl, _, rfl, _, rfl, .ref s, nv, bv, rfl, .inr ⟨s, rp, xs, ws, mt, nt, bt, rfl, SewAt.extN x14 r1.sew, ok, mok, (r1.nP.ext x14).typ, (r1.bP.ext x14).typ, .inl ⟨nF, bad_place (r1.nP.ext x14) x14 t14 fun H15 u2 x15 t15 g15 => ?_⟩⟩⟩
    refine ⟨hl, _, _, rfl, rfl, (r1.ext x15 t15).lst, by show 1 < sizeLine; decide, ?_⟩
    have r2 := (r1.ext x15 t15).push g15
    obtain ⟨H16, e16⟩ : ∃ H16, H16 = L2.upd H15 hl (.lst ([.ref u1] ++ [.ref u2])) := ⟨_, rfl⟩
    rw [← e16] at r2 ⊢
    clear e16 g15 t15 x15 x14 t14 hR R r1
    -- no other place
    refine ⟨_, rfl, .inl ⟨rfl, _, SqL.of r2.lst⟩, r2.tab, fun H17 x17 t17 R hR => ?_⟩
    refine ⟨_, rfl, _, rfl, _, rfl, .ref s, .int z, bv, rfl, .inr ⟨s, rp, xs, ws, mt, "int", bt, rfl, SewAt.extN x17 r2.sew, ok, mok, .int _, (r2.bP.ext x17).typ, .inr (.inl ⟨plB_nat hz, bF, bad_place (r2.bP.ext x17) x17 t17 fun H18 u3 x18 t18 g18 => ?_⟩)⟩⟩
    refine ⟨hl, _, _, rfl, rfl, (r2.ext x18 t18).lst, by show 2 < sizeLine; decide, ?_⟩
    have r3 := (r2.ext x18 t18).push g18
    obtain ⟨H19, e19⟩ : ∃ H19, H19 = L2.upd H18 hl (.lst (([.ref u1] ++ [.ref u2]) ++ [.ref u3])) := ⟨_, rfl⟩
    rw [← e19] at r3 ⊢
    clear e19 g18 t18 x18 x17 t17 hR R r2
    -- twice one
    refine ⟨_, rfl, .inl ⟨rfl, _, SqL.of r3.lst⟩, r3.tab, fun H20 x20 t20 R hR => ?_⟩
    refine ⟨_, rfl, _, rfl, _, rfl, .ref s, .int z, .int z, rfl, .inr ⟨s, rp, xs, ws, mt, "int", "int", rfl, SewAt.extN x20 r3.sew, ok, mok, .int _, .int _, .inr (.inr ⟨z, z, rfl, rfl, hz, hz, .inl ⟨rfl, bad_twice (.int _ (shw_nat z (by omega))) x20 t20 fun H21 u4 x21 t21 g21 => ?_⟩⟩)⟩⟩
    refine ⟨hl, _, _, rfl, rfl, (r3.ext x21 t21).lst, by show 3 < sizeLine; decide, ?_⟩
    have r4 := (r3.ext x21 t21).push g21
    obtain ⟨H22, e22⟩ : ∃ H22, H22 = L2.upd H21 hl (.lst (([.ref u1] ++ [.ref u2] ++ [.ref u3]) ++ [.ref u4])) := ⟨_, rfl⟩
    rw [← e22] at r4 ⊢
    clear e22 g21 t21 x21 x20 t20 hR R r3
    obtain ⟨mz, gz, _⟩ := mtn_at mok.1.1 hz
    have nz : mtn mt z ≠ z := (pair_inv mok.1 hz).2
    have nlz : ws.flatten.getD z 0 ≠ ws.flatten.getD (mtn mt z) 0 := fun e => mate_ne mok ok.2.2.2.2.1 hz e rfl
    -- unlike letters
    refine ⟨_, rfl, .inl ⟨rfl, _, SqL.of r4.lst⟩, r4.tab, fun H23 x23 t23 R hR => ?_⟩
    obtain ⟨dx23, tm23, tc23, tp23, f23, _, m23, _, _⟩ := id (SewAt.extN x23 r4.sew)
    refine ⟨_, rfl, _, rfl, _, rfl, s, CS, dx23, _, _, rfl, f23, TS.cl, TS.n2, sf_mates, _, rfl, tm23, _, _, _, rfl, rfl, m23.sq, atI_nat (iv_get gz), .ref s, .int z, .int (mtn mt z : Int), rfl, .inr ⟨s, rp, xs, ws, mt, "int", "int", rfl, SewAt.extN x23 r4.sew, ok, mok, .int _, .int _, .inr (.inr ⟨z, mtn mt z, rfl, rfl, hz, mz, .inr (.inl ⟨fun e => nz e.symm, nlz, bad_mis x23 t23 fun H24 u5 x24 t24 g24 => ?_⟩)⟩)⟩⟩
    refine ⟨hl, _, _, rfl, rfl, (r4.ext x24 t24).lst, by show 4 < sizeLine; decide, ?_⟩
    have r5 := (r4.ext x24 t24).push g24
    obtain ⟨H25, e25⟩ : ∃ H25, H25 = L2.upd H24 hl (.lst (([.ref u1] ++ [.ref u2] ++ [.ref u3] ++ [.ref u4]) ++ [.ref u5])) := ⟨_, rfl⟩
    rw [← e25] at r5 ⊢
    clear e25 g24 t24 x24 x23 t23 hR R r4
    -- the first of it
    refine ⟨_, rfl, .inl ⟨rfl, _, SqL.of r5.lst⟩, r5.tab, fun H26 x26 t26 R hR => ?_⟩
    refine ⟨_, rfl, _, rfl, _, rfl, .ref s, nv, .int z, rfl, .inr ⟨s, rp, xs, ws, mt, nt, "int", rfl, SewAt.extN x26 r5.sew, ok, mok, (r5.nP.ext x26).typ, .int _, .inl ⟨nF, bad_place (r5.nP.ext x26) x26 t26 fun H27 u6 x27 t27 g27 => ?_⟩⟩⟩
    refine ⟨hl, _, _, rfl, rfl, (r5.ext x27 t27).lst, by show 5 < sizeLine; decide, ?_⟩
    have r6 := (r5.ext x27 t27).push g27
    obtain ⟨H28, e28⟩ : ∃ H28, H28 = L2.upd H27 hl (.lst (([.ref u1] ++ [.ref u2] ++ [.ref u3] ++ [.ref u4] ++ [.ref u5]) ++ [.ref u6])) := ⟨_, rfl⟩
    rw [← e28] at r6 ⊢
    clear e28 g27 t27 x27 x26 t26 hR R r5
    -- what is due
    refine ⟨by show 2 ≤ sizeLine; decide, fun q1 hq1 => ?_⟩
    have aq1 := same_upd (o := .tup [.str "sewing", .str "sewing"]) hq1
    have gq1 : L2.upd H28 q1 (.tup [.str "sewing", .str "sewing"]) q1 = some (.tup [.str "sewing", .str "sewing"]) := upd_same
    obtain ⟨H29, eq1⟩ : ∃ H29, H29 = L2.upd H28 q1 (.tup [.str "sewing", .str "sewing"]) := ⟨_, rfl⟩
    rw [← eq1] at aq1 gq1 ⊢
    refine ⟨_, rfl, nv, nd, rfl, ((r6.nP.ext (extOf (aq1)))).dp, ((r6.nP.ext (extOf (aq1)))).shw, by show 2 ≤ sizeLine; decide, fun q2 hq2 => ?_⟩
    have aq2 := same_upd (o := .tup [.str "place", .str (nd).shown]) hq2
    have gq2 : L2.upd H29 q2 (.tup [.str "place", .str (nd).shown]) q2 = some (.tup [.str "place", .str (nd).shown]) := upd_same
    obtain ⟨H30, eq2⟩ : ∃ H30, H30 = L2.upd H29 q2 (.tup [.str "place", .str (nd).shown]) := ⟨_, rfl⟩
    rw [← eq2] at aq2 gq2 ⊢
    refine ⟨_, rfl, bv, bd, rfl, ((r6.bP.ext (extOf ((aq1).trans aq2)))).dp, ((r6.bP.ext (extOf ((aq1).trans aq2)))).shw, by show 2 ≤ sizeLine; decide, fun q3 hq3 => ?_⟩
    have aq3 := same_upd (o := .tup [.str "place", .str (bd).shown]) hq3
    have gq3 : L2.upd H30 q3 (.tup [.str "place", .str (bd).shown]) q3 = some (.tup [.str "place", .str (bd).shown]) := upd_same
    obtain ⟨H31, eq3⟩ : ∃ H31, H31 = L2.upd H30 q3 (.tup [.str "place", .str (bd).shown]) := ⟨_, rfl⟩
    rw [← eq3] at aq3 gq3 ⊢
    refine ⟨_, rfl, .int z, (PyData.int z), rfl, ((Plc.int (H := H31) _ (shw_nat z (by omega)))).dp, ((Plc.int (H := H31) _ (shw_nat z (by omega)))).shw, by show 2 ≤ sizeLine; decide, fun q4 hq4 => ?_⟩
    have aq4 := same_upd (o := .tup [.str "twice", .str ((PyData.int z)).shown]) hq4
    have gq4 : L2.upd H31 q4 (.tup [.str "twice", .str ((PyData.int z)).shown]) q4 = some (.tup [.str "twice", .str ((PyData.int z)).shown]) := upd_same
    obtain ⟨H32, eq4⟩ : ∃ H32, H32 = L2.upd H31 q4 (.tup [.str "twice", .str ((PyData.int z)).shown]) := ⟨_, rfl⟩
    rw [← eq4] at aq4 gq4 ⊢
    refine ⟨by show 2 ≤ sizeLine; decide, fun q5 hq5 => ?_⟩
    have aq5 := same_upd (o := .tup [.str "misfit", .str "letters"]) hq5
    have gq5 : L2.upd H32 q5 (.tup [.str "misfit", .str "letters"]) q5 = some (.tup [.str "misfit", .str "letters"]) := upd_same
    obtain ⟨H33, eq5⟩ : ∃ H33, H33 = L2.upd H32 q5 (.tup [.str "misfit", .str "letters"]) := ⟨_, rfl⟩
    rw [← eq5] at aq5 gq5 ⊢
    refine ⟨by show 5 ≤ sizeLine; decide, fun O hO => ?_⟩
    have aO := same_upd (o := .lst [.ref q1, .ref q2, .ref q3, .ref q4, .ref q5]) hO
    have gO : L2.upd H33 O (.lst [.ref q1, .ref q2, .ref q3, .ref q4, .ref q5]) O = some (.lst [.ref q1, .ref q2, .ref q3, .ref q4, .ref q5]) := upd_same
    obtain ⟨H34, eO⟩ : ∃ H34, H34 = L2.upd H33 O (.lst [.ref q1, .ref q2, .ref q3, .ref q4, .ref q5]) := ⟨_, rfl⟩
    rw [← eO] at aO gO ⊢
    try dsimp only
    refine at_set ?_
    try dsimp only
    refine ⟨_, rfl, _, rfl, _, rfl, nv, nd, rfl, ((r6.nP.ext (extOf ((((((aq1).trans aq2).trans aq3).trans aq4).trans aq5).trans aO)))).dp, ((r6.nP.ext (extOf ((((((aq1).trans aq2).trans aq3).trans aq4).trans aq5).trans aO)))).shw, by show 2 ≤ sizeLine; decide, fun q6 hq6 => ?_⟩
    have aq6 := same_upd (o := .tup [.str "place", .str (nd).shown]) hq6
    have gq6 : L2.upd H34 q6 (.tup [.str "place", .str (nd).shown]) q6 = some (.tup [.str "place", .str (nd).shown]) := upd_same
    obtain ⟨H35, eq6⟩ : ∃ H35, H35 = L2.upd H34 q6 (.tup [.str "place", .str (nd).shown]) := ⟨_, rfl⟩
    rw [← eq6] at aq6 gq6 ⊢
    refine ⟨by show 1 ≤ sizeLine; decide, fun l6 hl6 => ?_⟩
    have al6 := same_upd (o := .lst [.ref q6]) hl6
    have gl6 : L2.upd H35 l6 (.lst [.ref q6]) l6 = some (.lst [.ref q6]) := upd_same
    obtain ⟨H36, el6⟩ : ∃ H36, H36 = L2.upd H35 l6 (.lst [.ref q6]) := ⟨_, rfl⟩
    rw [← el6] at al6 gl6 ⊢
    refine ⟨O, l6, _, _, rfl, rfl, ((aq6).trans al6) _ _ gO, gl6, Evl.sz_of (by show 6 ≤ _; decide), fun p hp => ?_⟩
    have ap := same_upd (o := .lst ([.ref q1, .ref q2, .ref q3, .ref q4, .ref q5] ++ [.ref q6])) hp
    have b0 : Same H28 (L2.upd H36 p (.lst ([.ref q1, .ref q2, .ref q3, .ref q4, .ref q5] ++ [.ref q6]))) := ((((((((aq1).trans aq2).trans aq3).trans aq4).trans aq5).trans aO).trans aq6).trans al6).trans ap
    have rL := r6.ext (extOf b0) (r6.tab.ext b0)
    have all : All2 (TwoS (L2.upd H36 p (.lst ([.ref q1, .ref q2, .ref q3, .ref q4, .ref q5] ++ [.ref q6])))) [.ref q1, .ref q2, .ref q3, .ref q4, .ref q5, .ref q6] [("sewing", "sewing"), ("place", nd.shown), ("place", bd.shown), ("twice", (PyData.int z).shown), ("misfit", "letters"), ("place", nd.shown)] :=
      .cons ⟨q1, rfl, ((((((((aq2).trans aq3).trans aq4).trans aq5).trans aO).trans aq6).trans al6).trans ap) _ _ gq1⟩ (.cons ⟨q2, rfl, (((((((aq3).trans aq4).trans aq5).trans aO).trans aq6).trans al6).trans ap) _ _ gq2⟩ (.cons ⟨q3, rfl, ((((((aq4).trans aq5).trans aO).trans aq6).trans al6).trans ap) _ _ gq3⟩ (.cons ⟨q4, rfl, (((((aq5).trans aO).trans aq6).trans al6).trans ap) _ _ gq4⟩ (.cons ⟨q5, rfl, ((((aO).trans aq6).trans al6).trans ap) _ _ gq5⟩ (.cons ⟨q6, rfl, ((al6).trans ap) _ _ gq6⟩ .nil)))))
    have lay : ∀ d ∈ ([("sewing", "sewing"), ("place", nd.shown), ("place", bd.shown), ("twice", (PyData.int z).shown), ("misfit", "letters"), ("place", nd.shown)] : List (Str × Str)), PyData.canLay0 (.str d.1) = true ∧ PyData.canLay0 (.str d.2) = true := fun d hd => by
      have hn := r6.nP.shs.2
      have hb := r6.bP.shs.2
      have hzz := (shw_nat z (by omega)).2
      simp only [List.mem_cons, List.mem_nil_iff, or_false] at hd
      rcases hd with rfl | rfl | rfl | rfl | rfl | rfl
      · exact ⟨by decide +kernel, by decide +kernel⟩
      · exact ⟨by show PyData.canLay0 (.str "place") = true; decide +kernel, hn⟩
      · exact ⟨by show PyData.canLay0 (.str "place") = true; decide +kernel, hb⟩
      · exact ⟨by show PyData.canLay0 (.str "twice") = true; decide +kernel, hzz⟩
      · exact ⟨by decide +kernel, by decide +kernel⟩
      · exact ⟨by show PyData.canLay0 (.str "place") = true; decide +kernel, hn⟩
    have sh : SeqAt.shaped (.list (dps [("sewing", "sewing"), ("place", nd.shown), ("place", bd.shown), ("twice", (PyData.int z).shown), ("misfit", "letters"), ("place", nd.shown)])) = true := Bool.and_eq_true_iff.mpr ⟨dps_lay _ lay, by rfl⟩
    have ev : PyData.eqv (.list (dps [("sewing", "sewing"), ("place", nd.shown), ("place", bd.shown), ("twice", (PyData.int z).shown), ("misfit", "letters"), ("place", nd.shown)])) (.list (dps [("sewing", "sewing"), ("place", nd.shown), ("place", bd.shown), ("twice", (PyData.int z).shown), ("misfit", "letters"), ("place", nd.shown)])) = true := dps_eqv [("sewing", "sewing"), ("place", nd.shown), ("place", bd.shown), ("twice", (PyData.int z).shown), ("misfit", "letters"), ("place", nd.shown)]
    have fin := k _ rL.hand rL.tab
    rw [← ev] at fin
    exact ⟨_, _, .lst (SqL.of rL.lst) (twoS_dp rL.all), .lst (SqL.of upd_same) (twoS_dp all), sh, sh, fin⟩
end
end W14
set_option Elab.async false
set_option linter.all false
set_option maxRecDepth 100000
set_option maxHeartbeats 1000000
namespace W14
open PySem L2 PySem.Spec PyProof.Rows WR WB WE WS
/-! ### lists of lists of ints, written out -/
def LitI (ta : TA) (ns : List Int) : Prop := ∀ (σ : L2.St) (H : Hp) (Q : List V → Hp → Prop), Q (iv ns) H → ta σ H Q
def Lits (ta : TA) (cs : List (List Int)) : Prop := ∀ (σ : L2.St) (H : Hp) (Q : List V → Hp → Prop), (∀ us H', Same H H' → LLs H' us cs → Q us H') → ta σ H Q
theorem liti_nil : LitI tNil [] := fun _ _ _ q => q
theorem liti_cons {i : Int} {ns : List Int} {tr : TA} (h : LitI tr ns) : LitI (tCons (tC (.int i)) tr) (i :: ns) := fun σ H Q q => h σ H _ q
theorem lits_nil : Lits tNil [] := fun _ H _ q => q [] H (Same.refl _) .nil
theorem lits_cons {ta tr : TA} {ns : List Int} {cs : List (List Int)} (h1 : LitI ta ns) (hz : ns.length ≤ 1000) (h2 : Lits tr cs) : Lits (tCons (tLst ta) tr) (ns :: cs) := fun σ H Q q => by
  refine h1 σ H _ ⟨by rw [List.length_map]; exact Nat.le_trans hz (by decide), fun l hl => ?_⟩
  have s1 := same_upd (o := .lst (iv ns)) hl
  refine h2 σ _ _ fun us H' s2 hu => q _ _ (s1.trans s2) (.cons ⟨l, rfl, s2 _ _ upd_same⟩ hu)
/-! ### the law -/
def CSs : List (List Int) := [[2], [2, 1], [3], [2, 2], [3, 1, 1], [4], [2, 2, 2], [3, 3], [6], [5, 4, 3], [12], [3, 2]]
theorem CSs_ok : ∀ w ∈ CSs, w = nats (w.map Int.toNat) ∧ (w.map Int.toNat).length ≤ 20 ∧ 1 ≤ (w.map Int.toNat).sum ∧ (w.map Int.toNat).sum ≤ 12 ∧ 2 ≤ (w.map Int.toNat).headD 0 := by decide +kernel
theorem head_two {cs : List Nat} (h : 2 ≤ cs.headD 0) : ∃ c r, cs = c :: r ∧ 2 ≤ c := by
  cases cs with
  | nil => exact absurd h (by decide)
  | cons c r => exact ⟨c, r, rfl, h⟩
theorem ar1 {t : TE} {σ : L2.St} {H : Hp} {Q : List V → Hp → Prop} (h : t σ H fun x H2 => Q [x] H2) : tCons t tNil σ H Q := h
theorem lst_lits {ta : TA} {cs : List (List Int)} {σ : L2.St} {H : Hp} {Q : VK} (hL : Lits ta cs) (h : ∀ us H', Same H H' → LLs H' us cs → us.length ≤ sizeLine ∧ ∀ l, H' l = none → Q (.ref l) (L2.upd H' l (.lst us))) : tLst ta σ H Q := hL σ H _ h
theorem lls_mem {H : Hp} {us : List V} {ws : List (List Int)} (h : LLs H us ws) {v : V} (hv : v ∈ us) : ∃ q, ∃ w ∈ ws, v = .ref q ∧ H q = some (.lst (iv w)) := by
  obtain ⟨i, hi, e⟩ := List.getElem_of_mem hv
  obtain ⟨w, hw, q, e2, g⟩ := h.at (List.getElem?_eq_getElem hi)
  exact ⟨q, w, List.mem_of_getElem? hw, by rw [← e, e2], g⟩
def spLaw (K : PySem.W.Frag) (T : List (Addr × Str)) : Sp := fun vs H Q _ => ∃ (a : Addr) (ns : List Int), vs = [.ref a] ∧ SqL K H a (ns.map V.int) ∧ ns.length ≤ 63 ∧ LamX.Tabs T H ∧ ∀ H', Q (.bl true) H'
abbrev sLaw : Stmt := top 81
abbrev nLaw : List Str := ["_law_script", "_law_pen_here", "_law_turn", "_law_words", "_law_letters_here", "_law_mates_here", "_law_sewing"]
theorem scLaw : FnScope nLaw ["_law_script"] (defScope sLaw) := ⟨rfl, rfl, rfl, by decide +kernel, rfl, by decide +kernel, by decide +kernel⟩
section
variable {P : Program} {w : World} {K : PySem.W.Frag} {mg : Str → Option Value} {base : Heap} {C CR CS CBS CNP CTw CMF CH : Addr}
theorem ok_Law {f : Addr} {fd : FuncData} {TT : List (Addr × Str)} (F : Fun K "law" "law" sLaw f fd) (N : TN mg) (O : SewO P w K mg base C CR CS) (MS : MkS P w K mg base C CR CS)
    (G_pen : Cal P w K mg base "_law_pen" 1 ["_law_script"] (spHand K)) (G_pick : Cal P w K mg base "_law_pick" 2 ["_law_pen_here", "_law_some"] spPick) (G_plain : Cal P w K mg base "_law_plain" 4 ["_law_pen_here", "_law_counts"] spPlain) (G_letters : Cal P w K mg base "_law_letters" 1 ["_law_words"] spLets)
    (G_mates : Cal P w K mg base "_law_mates" 3 ["_law_pen_here", "_law_letters_here"] spMates) (G_rims : Cal P w K mg base "_law_rims" 6 ["_law_words"] (spLRims K C CR)) (G_exchange_right : Cal P w K mg base "_law_exchange_right" 9 ["_law_pen_here", "_law_words", "_law_sewing", "_law_mates_here"] (spER K C CR CS))
    (G_three_right : Cal P w K mg base "_law_three_right" 9 ["_law_words", "_law_sewing", "_law_letters_here"] (spTR K C CR CS)) (G_RR : RG.CalG P w K mg base "_law_refused_right" 11 ["_law_pen_here", "_law_sewing", "_law_letters_here"] (spRR K C CR CS TT)) :
    RG.FnG P w K mg base 12 f fd ["_law_script"] (spLaw K TT) := by
  refine RG.Fun.okG F scLaw (fun vs H Q E h => ?_) (fun cdv A outer s H vs Q E hg hr h => ?_)
  · obtain ⟨a, ns, rfl, _⟩ := h
    rfl
  · obtain ⟨a, ns, rfl, hS, hlen, tT, k⟩ := h
    obtain ⟨T, TC, TS, ER, rn, ES⟩ := id O
    refine ⟨_, pss_cons (ps_set (i := 1) scLaw.nd rfl (Or.inl rfl) (pe_cal G_pen hr (by decide) (by rfl) (pa_cons (pv 0) pa_nil)))
      (pss_cons (ps_for PassesOwn.never rfl (pi_range1 (by rfl) N.range (pa_cons pe_int pa_nil)) (pg_name (i := 2) scLaw.nd rfl (Or.inl rfl))
      (pss_cons (ps_set (i := 3) scLaw.nd rfl (Or.inl rfl) (pe_cal G_plain hr (by decide) (by rfl) (pa_cons (pv 1) (pa_cons (pe_cal G_pick hr (by decide) (by rfl) (pa_cons (pv 1) (pa_cons (pe_lst (pa_cons (pe_lst (pa_cons pe_int pa_nil)) (pa_cons (pe_lst (pa_cons pe_int (pa_cons pe_int pa_nil))) (pa_cons (pe_lst (pa_cons pe_int pa_nil)) (pa_cons (pe_lst (pa_cons pe_int (pa_cons pe_int pa_nil))) (pa_cons (pe_lst (pa_cons pe_int (pa_cons pe_int (pa_cons pe_int pa_nil)))) (pa_cons (pe_lst (pa_cons pe_int pa_nil)) (pa_cons (pe_lst (pa_cons pe_int (pa_cons pe_int (pa_cons pe_int pa_nil)))) (pa_cons (pe_lst (pa_cons pe_int (pa_cons pe_int pa_nil))) (pa_cons (pe_lst (pa_cons pe_int pa_nil)) (pa_cons (pe_lst (pa_cons pe_int (pa_cons pe_int (pa_cons pe_int pa_nil)))) (pa_cons (pe_lst (pa_cons pe_int pa_nil)) (pa_cons (pe_lst (pa_cons pe_int (pa_cons pe_int pa_nil))) pa_nil))))))))))))) pa_nil))) pa_nil))))
      (pss_cons (ps_set (i := 4) scLaw.nd rfl (Or.inl rfl) (pe_cal G_letters hr (by decide) (by rfl) (pa_cons (pv 3) pa_nil)))
      (pss_cons (ps_set (i := 5) scLaw.nd rfl (Or.inl rfl) (pe_cal G_mates hr (by decide) (by rfl) (pa_cons (pv 1) (pa_cons (pv 4) pa_nil))))
      (pss_cons (ps_set (i := 6) scLaw.nd rfl (Or.inl rfl) (pe_sewK rfl MS TS hr (by decide) (by rfl) (pa_cons (pe_cal G_rims hr (by decide) (by rfl) (pa_cons (pv 3) pa_nil)) (pa_cons (pv 5) pa_nil))))
      (pss_cons (ps_if (PW.pt (pw_or (pt_not (pt_val (pe_cal G_exchange_right hr (by decide) (by rfl) (pa_cons (pv 1) (pa_cons (pv 3) (pa_cons (pv 6) (pa_cons (pv 5) pa_nil))))))) (pw_or1 (pt_not (pt_val (pe_cal G_three_right hr (by decide) (by rfl) (pa_cons (pv 3) (pa_cons (pv 6) (pa_cons (pv 4) pa_nil))))))))) (pss_one (ps_ret pe_bl)) pss_nil)
      (pss_one (ps_if (pt_not (pt_val (RG.pe_calG G_RR hg hr (by decide) (by rfl) (pa_cons (pv 1) (pa_cons (pv 6) (pa_cons (pv 4) pa_nil)))))) (pss_one (ps_ret pe_bl)) pss_nil))))))))
      (pss_one (ps_ret pe_bl))), ?_⟩
    refine ⟨_, rfl, a, ns, rfl, hS, by omega, fun H1 h c s1 hn cn hH1 => ?_⟩
    have t1 := tT.ext s1
    refine ⟨3, rfl, by decide, by decide, for_range (lo := 0) (n := 3) (fun i σ H' => (∃ v2 v3 v4 v5 v6 : Option V, σ = [some (.ref a), some (.ref h), v2, v3, v4, v5, v6]) ∧ HandAt H' h c (400 * i) ∧ LamX.Tabs TT H') ⟨⟨none, none, none, none, none, rfl⟩, hH1, t1⟩ ?_ ?_⟩
    · rintro i σ H2 hi ⟨⟨v2, v3, v4, v5, v6, rfl⟩, hH2, t2⟩
      refine ⟨_, rfl, _, rfl, ar1 (lst_lits (cs := CSs) (lits_cons (liti_cons liti_nil) (by decide) (lits_cons (liti_cons (liti_cons liti_nil)) (by decide) (lits_cons (liti_cons liti_nil) (by decide) (lits_cons (liti_cons (liti_cons liti_nil)) (by decide) (lits_cons (liti_cons (liti_cons (liti_cons liti_nil))) (by decide) (lits_cons (liti_cons liti_nil) (by decide) (lits_cons (liti_cons (liti_cons (liti_cons liti_nil))) (by decide) (lits_cons (liti_cons (liti_cons liti_nil)) (by decide) (lits_cons (liti_cons liti_nil) (by decide) (lits_cons (liti_cons (liti_cons (liti_cons liti_nil))) (by decide) (lits_cons (liti_cons liti_nil) (by decide) (lits_cons (liti_cons (liti_cons liti_nil)) (by decide) lits_nil)))))))))))) fun us H3 s3 hu => ⟨by rw [hu.length]; decide, fun O hO => ?_⟩)⟩
      have lu : us.length = 12 := hu.length
      have s4 := same_upd (o := .lst us) hO
      have gO : L2.upd H3 O (.lst us) O = some (.lst us) := upd_same
      have s24 := s3.trans s4
      have hH4 := hH2.same s24
      have Oh := (hH2.same s3).ne hO
      have hu4 := hu.same s4
      have t4 := t2.ext s24
      generalize L2.upd H3 O (.lst us) = H4 at s4 gO s24 hH4 hu4 t4 ⊢
      refine ⟨h, c, O, us, 400 * i, rfl, hH4, by omega, Oh, gO, by omega, by omega, fun v hv H5 d5 => ?_⟩
      obtain ⟨cq, cw, hcw, rfl, gq4⟩ := lls_mem hu4 hv
      have gq5 := d5.2 _ _ (hH4.ne_iv gq4) gq4
      have cqh := d5.1.ne_iv gq5
      have t5 := d5.tabs hH4 t4
      obtain ⟨k1, k2, k3, k4, k5⟩ := CSs_ok cw hcw
      refine ⟨h, c, cq, cw.map Int.toNat, 400 * i + 1, rfl, d5.1, cqh, by rw [← k1]; exact gq5, k2, k3, by omega, by omega, fun p H6 ws_ wl ks hp6 d6 gp6 L6 pok => ?_⟩
      have t6 := d6.tabs d5.1 t5
      have rok := pok.ok k4
      have cpl := couple_of pok (head_two k5)
      have bal : ∀ z, (wl.flatten.count z : Int) = wl.flatten.count (-z) := fun z => by
        rw [pok.pm.count_eq, pok.pm.count_eq]
        exact plF_cnt0 z _
      have l24 : wl.flatten.length ≤ 24 := rok.2.2.2.1
      have lts := rok.2.2.2.2.1
      have nph := d6.1.ne_refs gp6 L6.refs
      try dsimp only
      refine at_set ?_
      try dsimp only
      -- its letters
      refine ⟨_, rfl, p, ws_, wl, rfl, gp6, L6, by omega, fun lq H7 hlq s7 gl7 => ?_⟩
      have gp7 := s7 _ _ gp6
      have L7 := L6.same s7
      have hH7 := d6.1.same s7
      have t7 := t6.ext s7
      try dsimp only
      refine at_set ?_
      try dsimp only
      -- its mates
      refine ⟨_, rfl, _, rfl, h, c, lq, wl.flatten, 400 * i + 1 + 200, rfl, hH7, hH7.ne_iv gl7, gl7, by omega, lts, bal, by omega, fun m H8 mt hm8 d8 gm8 mok => ?_⟩
      have gp8 := d8.2 _ _ (hH7.ne_refs gp7 L7.refs) gp7
      have L8 := L7.drew hH7 d8
      have gl8 := d8.2 _ _ (hH7.ne_iv gl7) gl7
      have t8 := d8.tabs hH7 t7
      try dsimp only
      refine at_set ?_
      try dsimp only
      -- a sewing
      refine ⟨_, rfl, p, ws_, wl, rfl, gp8, L8, rok, fun rp H9 xs s9 R9 => ?_⟩
      have gm9 := s9 _ _ gm8
      refine ⟨_, rfl, ?_⟩
      intro q dq nq ndq _
      refine sew_at nq ndq R9 rok (.inl (SqL.of gm9)) mok fun H10 s10 S10 => ?_
      have s8a := s9.trans s10
      have hHa := d8.1.same s8a
      have ta := t8.ext s8a
      have gpa := s8a _ _ gp8
      have La := L8.same s8a
      have gla := s8a _ _ gl8
      have gma := s8a _ _ gm8
      try dsimp only
      refine at_set ?_
      try dsimp only
      refine ⟨_, rfl, _, rfl, _, rfl, _, rfl, h, c, p, q, m, rp, ws_, xs, wl, mt, 400 * i + 1 + 200 + 100, rfl, hHa, by omega, gpa, La, rok, S10, mok, gma, cpl, fun Hb db => ⟨_, rfl, iteF ?_⟩⟩
      have gpb := db.2 _ _ (hHa.ne_refs gpa La.refs) gpa
      have Lb := La.drew hHa db
      have glb := db.2 _ _ (hHa.ne_iv gla) gla
      have tb := db.tabs hHa ta
      have Sb := S10.kept hHa.lst.choose_spec db.2
      refine ⟨_, rfl, _, rfl, _, rfl, p, q, lq, rp, ws_, xs, wl, mt, rfl, gpb, Lb, rok, Sb, mok, glb, fun Hc sc => ⟨_, rfl, iteF ?_⟩⟩
      refine ⟨_, rfl, _, rfl, _, rfl, h, c, q, lq, rp, xs, wl, mt, 400 * i + 1 + 200 + 100 + 4, rfl, db.1.same sc, by omega, Sb.same sc, rok, mok, sc _ _ glb, tb.ext sc, fun Hd hd td => ⟨_, rfl, iteF ?_⟩⟩
      exact ⟨⟨_, _, _, _, _, rfl⟩, hd.mono (by omega), td⟩
    · rintro σ H' _
      exact k _
end
end W14
set_option Elab.async false
set_option linter.all false
set_option maxRecDepth 100000
set_option maxHeartbeats 1000000
/-! the law's own call: no repr is under way, and lambdas' tables stand empty. -/
namespace RG
open PySem L2 PySem.Spec PyProof.Rows
section
variable {P : Program} {w : World} {K : PySem.W.Frag} {s : Shared} {a : Addr} {vs : List Value} {ns : List Int} {cs : List (Addr × Addr)}
def tblO : Obj := { cls := .none, data := .fields #[] }
/-- the script and the tables -/
def startT (K : PySem.W.Frag) (cs : List (Addr × Addr)) (a : Addr) (vs : List Value) (ns : List Int) : Hp := fun b => if b ∈ cs.map (·.2) then some (.tbl #[]) else startH K a vs ns b
structure Tbls (K : PySem.W.Frag) (h : Heap) (cs : List (Addr × Addr)) : Prop where
  at_ : ∀ p ∈ cs, h.get? p.2 = some tblO
  out : ∀ p ∈ cs, K.lookup p.2 = none
  hd : ∀ p ∈ cs, PySem.W.CodeHd h p.1 p.2
theorem startT_in {b : Addr} (h : b ∈ cs.map (·.2)) : startT K cs a vs ns b = some (.tbl #[]) := if_pos h
theorem startT_out {b : Addr} (h : b ∉ cs.map (·.2)) : startT K cs a vs ns b = startH K a vs ns b := if_neg h
theorem Tbls.mem {h : Heap} (T : Tbls K h cs) {b : Addr} (hb : b ∈ cs.map (·.2)) : h.get? b = some tblO ∧ K.lookup b = none := by
  obtain ⟨p, hp, rfl⟩ := List.mem_map.mp hb
  exact ⟨T.at_ p hp, T.out p hp⟩
/-- what is neither a list nor a table is not told of -/
theorem startT_no (T : Tbls K s.heap cs) (at_ : s.heap.get? a = some (scriptO vs)) {b : Addr} {o : Obj} (e : s.heap.get? b = some o) (n1 : ∀ xs n, o.data ≠ .seq xs n) (n2 : o.data ≠ .fields #[]) : startT K cs a vs ns b = none := by
  by_cases hb : b ∈ cs.map (·.2)
  · have := (T.mem hb).1
    rw [e] at this
    cases this
    exact absurd rfl n2
  · rw [startT_out hb]
    cases q : startH K a vs ns b with
    | none => rfl
    | some u =>
      obtain ⟨rfl, _⟩ := startH_some q
      rw [at_] at e
      cases e
      exact absurd rfl (n1 _ _)
theorem startT_ns (T : Tbls K s.heap cs) (at_ : s.heap.get? a = some (scriptO vs)) {b : Addr} {m : Str → Option Value} (h : s.heap.Ns b m) : (hidT s.heap (startT K cs a vs ns)).Ns b m := by
  obtain ⟨o, es, ep, get, data, rest⟩ := h
  exact ⟨o, es, ep, hidT_get get (startT_no T at_ get (fun xs n z => by rw [data] at z; cases z) fun z => by rw [data] at z; cases z), data, rest⟩
theorem startT_kin (T : Tbls K s.heap cs) (KX : K.In s.heap) : K.In (hidT s.heap (startT K cs a vs ns)) := fun b o e => by
  refine hidT_get (KX b o e) ?_
  have hb : b ∉ cs.map (·.2) := fun z => by
    rw [(T.mem z).2] at e
    cases e
  rw [startT_out hb]
  cases q : startH K a vs ns b with
  | none => rfl
  | some u =>
    obtain ⟨rfl, none_, _⟩ := startH_some q
    rw [none_] at e
    cases e
theorem startT_ok (T : Tbls K s.heap cs) (at_ : s.heap.get? a = some (scriptO vs)) (whole : IntsAre vs ns) (few : ns.length ≤ sizeLine) : HOk P w (startT K cs a vs ns) s.heap := fun b u h => by
  by_cases hb : b ∈ cs.map (·.2)
  · rw [startT_in hb] at h
    cases h
    exact (T.mem hb).1
  · rw [startT_out hb] at h
    obtain ⟨rfl, _, rfl⟩ := startH_some h
    exact ⟨at_, (by rw [List.length_map]; exact few), vs, _, vals_ints whole, at_⟩
theorem startT_seq (T : Tbls K s.heap cs) (KX : K.In s.heap) (at_ : s.heap.get? a = some (scriptO vs)) (whole : IntsAre vs ns) (few : ns.length ≤ sizeLine) : SqL K (startT K cs a vs ns) a (ns.map V.int) := by
  have ha : a ∉ cs.map (·.2) := fun z => by
    have := (T.mem z).1
    rw [at_] at this
    have z' : Data.seq vs.toArray _ = Data.fields #[] := congrArg Obj.data (Option.some.inj this)
    cases z'
  rcases startH_seq KX at_ whole few with h | h
  · refine .inl ?_
    rcases h with h | ⟨o, h⟩
    · exact .inl ((startT_out ha).trans h)
    · exact .inr ⟨o, (startT_out ha).trans h⟩
  · exact .inr h
theorem startT_tab (T : Tbls K s.heap cs) (at_ : s.heap.get? a = some (scriptO vs)) {mg : Str → Option Value} (top : s.heap.Ns mainGlobals mg)
    (hbm : ∃ (bm : Addr) (ob : Obj), mg "__builtins__" = some (.ref bm) ∧ bm ≠ builtinsNs ∧ s.heap.get? bm = some ob ∧ ob.cls = .type "module" ∧ ob.dict = some builtinsNs ∧ ob.data = .plain) : ∀ p ∈ cs, LamX.TabB (hidT s.heap (startT K cs a vs ns)) mg p.1 p.2 := fun p hp => by
  have tp := T.at_ p hp
  obtain ⟨go, ges, gep, gget, gdata, _⟩ := top
  obtain ⟨bm, ob, b1, b2, b3, b4, b5, b6⟩ := hbm
  constructor
  · obtain ⟨o, us, file, tf, flags, tg, inF, text, tt, e1, r1, r2, r3, rest⟩ := T.hd p hp
    refine ⟨o, us, file, tf, flags, tg, inF, text, tt, hidT_get e1 (startT_no T at_ e1 (fun xs n z => by rw [r2] at z; cases z) fun z => ?_), r1, r2, r3, rest⟩
    rw [r2] at z
    cases z
    simp at r3
  · refine ⟨bm, ob, b1, b2, fun q => ?_, fun q => ?_, hidT_get b3 (startT_no T at_ b3 (fun xs n z => by rw [b6] at z; cases z) fun z => by rw [b6] at z; cases z), b4, b5, b6⟩
    · rw [q, gget] at b3
      cases b3
      rw [gdata] at b6
      cases b6
    · rw [q, tp] at b3
      cases b3
      cases b6
  · intro z
    rw [z, tp] at gget
    cases gget
    cases gdata
theorem law_callGT {mg mb : Str → Option Value} {k : Nat} {fa : Addr} {fd : FuncData} {x : Str} {sp : Sp} (KX : K.In s.heap) (top : s.heap.Ns mainGlobals mg) (bi : s.heap.Ns builtinsNs mb) (bib : ∀ x : Str, x ≠ "__name__" → mb x = bootBuiltins x) (lim : s.heap.NoLimit) (gens : s.gens = #[])
    (T : Tbls K s.heap cs) (hbm : ∃ (bm : Addr) (ob : Obj), mg "__builtins__" = some (.ref bm) ∧ bm ≠ builtinsNs ∧ s.heap.get? bm = some ob ∧ ob.cls = .type "module" ∧ ob.dict = some builtinsNs ∧ ob.data = .plain)
    (at_ : s.heap.get? a = some (scriptO vs)) (whole : IntsAre vs ns) (few : ns.length ≤ sizeLine) (room : Room k callerA) (F : ∀ base : Heap, K.In base → base.Ns mainGlobals mg → (∀ p ∈ cs, LamX.TabB base mg p.1 p.2) → FnG P w K mg base k fa fd [x] sp)
    (bind : ∀ (s : Shared) (u : Value), BindsTo s fd ⟨[u], []⟩ [(x, u)]) (ask : ∀ H : Hp, (∀ p ∈ cs, H p.2 = some (.tbl #[])) → SqL K H a (ns.map V.int) → sp [.ref a] H (fun v _ => v = .bl true) E0) :
    codeAny (model P w) callerA (.call (.ref fa) ⟨[.ref a], []⟩) (fun r s' => r = .ok (.ret (.bool true)) ∧ OldK s.heap s'.heap ∧ s'.os = s.os ∧ AllBare s'.gens) s := by
  have kin := startT_kin (a := a) (vs := vs) (ns := ns) T KX
  have top' := startT_ns (ns := ns) T at_ top
  obtain ⟨mc, l1, l2⟩ := lim
  have env : Env0 P w K mg (hidT s.heap (startT K cs a vs ns)) callerA [] s (startT K cs a vs ns) :=
    { frames := rfl, mod := ⟨kin, top', ⟨mb, startT_ns T at_ bi, bib⟩, ⟨mc, startT_ns T at_ l1, l2⟩⟩, bs := fun _ _ => of_hidT, bsz := Nat.le_of_eq (hidT_size _ _), funs := trivial, frf := (fun b hb => nomatch (show b ∈ ([] : List Addr) from hb)), hok := startT_ok T at_ whole few, bare := AllBare.of_eq gens }
  refine codeAny_mono ((F _ kin top' (startT_tab T at_ top hbm)).does callerA [] s _ ⟨[.ref a], []⟩ [.ref a] [.ref a] _ _ rfl room env (bind s (.ref a)) (.cons rfl .nil) (ask _ (fun p hp => startT_in (List.mem_map.mpr ⟨p, hp, rfl⟩)) (startT_seq T KX at_ whole few))) ?_
  intro r t z
  match r, z with
  | .ok (.ret u), ⟨v, G, os, bare, un, ok', rel, (q : v = .bl true)⟩ =>
    subst q
    obtain rfl : u = Value.bool true := rel
    -- what is told of at the end stands as it is told
    have stay : ∀ b o, b ∉ cs.map (·.2) → s.heap.get? b = some o → t.heap.get? b = some o := fun b o hb get => by
      cases c : startT K cs a vs ns b with
      | none => exact un.keep b o get c (fun m => nomatch (show b ∈ ([] : List Addr) from m)) (fun m => nomatch m)
      | some u =>
        have c2 := (startT_out hb).symm.trans c
        obtain ⟨rfl, _, rfl⟩ := startH_some c2
        have eo : o = scriptO vs := Option.some.inj (get.symm.trans at_)
        rw [eo]
        exact (ok' b _ (un.frzs b _ _ c)).1
    have more : ∀ p ∈ cs, ∃ es : Array Value, t.heap.get? p.2 = some { cls := .none, data := .fields es } := fun p hp => by
      obtain ⟨es, z⟩ := un.tbls p.2 #[] (startT_in (List.mem_map.mpr ⟨p, hp, rfl⟩))
      exact ⟨_, ok' p.2 _ z⟩
    refine ⟨rfl, ⟨fun b o get => ?_, fun b o get => ?_⟩, os, bare⟩
    · by_cases hb : b ∈ cs.map (·.2)
      · obtain ⟨p, hp, rfl⟩ := List.mem_map.mp hb
        obtain ⟨es, he⟩ := more p hp
        have e2 := T.at_ p hp
        rw [get] at e2
        cases e2
        exact .inr (.inl ⟨((T.hd p hp).tab get).isCodeTable, rfl, #[], es, rfl, by rw [Array.empty_append]; exact he⟩)
      · exact .inl (stay b o hb get)
    · by_cases hb : b ∈ cs.map (·.2)
      · obtain ⟨p, hp, rfl⟩ := List.mem_map.mp hb
        obtain ⟨es, he⟩ := more p hp
        exact ⟨_, he⟩
      · exact ⟨o, stay b o hb get⟩
end
/-- what is known of the law at the head's heap h -/
def LawAtG (l : PySem.W.OpenLaw) (w : World) (K : PySem.W.Frag) (k n : Nat) (x : Str) (mg : Str → Option Value) (fa : Addr) (h : Heap) : Prop :=
  ∃ (fd : FuncData) (cs : List (Addr × Addr)) (sp : Sp), Tbls K h cs ∧ (∀ (s : Shared) (u : Value), BindsTo s fd ⟨[u], []⟩ [(x, u)]) ∧
    (∀ (H : Hp) (a : Addr) (ns : List Int), ns.length ≤ n → (∀ p ∈ cs, H p.2 = some (.tbl #[])) → SqL K H a (ns.map V.int) → sp [.ref a] H (fun v _ => v = .bl true) E0) ∧
    ∀ base : Heap, K.In base → base.Ns mainGlobals mg → (∀ p ∈ cs, LamX.TabB base mg p.1 p.2) → FnG l.prog w K mg base k fa fd [x] sp
theorem walkGT {l : PySem.W.OpenLaw} {n k : Nat} {q : Program} {loose : List Str} {XP : (Str → Option Value) → Heap → Prop} {YP : World → Heap → Prop} {d : DefRec} {K : Params → PySem.W.Frag} {x : Str} (hn : l.most = some n) (hz : n ≤ sizeLine) (hdf : d.params.defaults = []) (room : Room k callerA)
    (hY : ∀ (w : World) (h : Heap), YP w h → (K w.params).In h)
    (F : ∀ (w : World) (mg : Str → Option Value) (fa : Addr) (h : Heap), YP w h → (K w.params).In h → h.Ns mainGlobals mg → mg d.name = some (.ref fa) → LawAtG l w (K w.params) k n x mg fa h) : PySem.W.WalkO q loose XP YP l.row.toRowW d [] (fun f vs => PySem.call f vs) := by
  refine Att.attach_callB hn hdf fun w s0 s mg mb fa o pm cd doc a vs ns G Y _ _ _ hm at_ whole few _ gens => ?_
  obtain ⟨fd, cs, sp, T, bind, ask, B⟩ := F w mg fa _ Y (hY w _ Y) G.T.g hm
  exact law_callGT (hY w _ Y) G.T.g G.T.b G.T.builtins G.T.nolimit gens T G.T.bmain at_ whole (Nat.le_trans few hz) room B bind fun H hH hS => ask H a ns few hH hS
end RG
set_option Elab.async false
set_option linter.all false
set_option maxRecDepth 100000
set_option maxHeartbeats 1000000
namespace W14
open PySem L2 PySem.Spec PyProof.Rows WR WB WE WS
/-! ### what the top has written -/
structure FF (K : PySem.W.Frag) (mg : Str → Option Value) (x : Str) (st : Stmt) : Prop where
  ex : ∃ (f : Addr) (oc : Value) (od : Option Addr) (kV doc pm cdv ct : Value) (an : Option Addr) (osl : Array (Option Value)),
    K.lookup f = some ⟨oc, od, .func (PySem.W.fnOf x x (defArgs st) (defBody st) (defScope st) .none kV doc pm an cdv ct), osl⟩ ∧ PySem.W.codeIn K cdv x = true ∧ PySem.W.keepIn K (.ref f) = true ∧ mg x = some (.ref f)
theorem ff_mk {K : PySem.W.Frag} {mg : Str → Option Value} {h : Heap} {x : Str} {st : Stmt} {f : Addr} {oc : Value} {od an : Option Addr} {kV doc pm cdv ct : Value} {osl : Array (Option Value)} (X : K.In h) (G : h.Ns mainGlobals mg)
    (a : PySem.W.nsIn K mainGlobals x = some (some (.ref f))) (l : K.lookup f = some ⟨oc, od, .func (PySem.W.fnOf x x (defArgs st) (defBody st) (defScope st) .none kV doc pm an cdv ct), osl⟩) (c : PySem.W.codeIn K cdv x = true) (k : PySem.W.keepIn K (.ref f) = true) : FF K mg x st :=
  ⟨f, oc, od, kV, doc, pm, cdv, ct, an, osl, l, c, k, PySem.W.mg_of X G a⟩
/-- a def in the class's body, held by the class -/
structure FM (K : PySem.W.Frag) (C : Addr) (m q : Str) (st : Stmt) : Prop where
  ex : ∃ (f : Addr) (oc : Value) (od : Option Addr) (kV doc pm cdv ct : Value) (an : Option Addr) (osl : Array (Option Value)),
    PySem.W.findIn K (.ref C) m = some (some (.ref f)) ∧ PySem.W.isFn K (.ref f) = true ∧
    K.lookup f = some ⟨oc, od, .func (PySem.W.fnOf m q (defArgs st) (defBody st) (defScope st) .none kV doc pm an cdv ct), osl⟩ ∧ PySem.W.codeIn K cdv q = true ∧ PySem.W.keepIn K (.ref f) = true
theorem fm_mk {K : PySem.W.Frag} {C : Addr} {m q : Str} {st : Stmt} {f : Addr} {oc : Value} {od an : Option Addr} {kV doc pm cdv ct : Value} {osl : Array (Option Value)}
    (a : PySem.W.findIn K (.ref C) m = some (some (.ref f))) (i : PySem.W.isFn K (.ref f) = true) (l : K.lookup f = some ⟨oc, od, .func (PySem.W.fnOf m q (defArgs st) (defBody st) (defScope st) .none kV doc pm an cdv ct), osl⟩) (c : PySem.W.codeIn K cdv q = true) (k : PySem.W.keepIn K (.ref f) = true) : FM K C m q st :=
  ⟨f, oc, od, kV, doc, pm, cdv, ct, an, osl, a, i, l, c, k⟩
section
variable {P : Program} {w : World} {K : PySem.W.Frag} {mg : Str → Option Value} {base : Heap} {x m q : Str} {C : Addr} {st : Stmt} {k : Nat} {ps ks : List Str} {sp : Sp}
theorem FF.cal (F : FF K mg x st) (ok : ∀ f fd, Fun K x x st f fd → FnOk P w K mg base CX0 k f fd ps sp)
    (hb : ∀ (kV doc pm : Value) (an : Option Addr) (cdv ct : Value) (us : List Value), us.length = ps.length → bindArgs (PySem.W.fnOf x x (defArgs st) (defBody st) (defScope st) .none kV doc pm an cdv ct) ⟨us, []⟩ = pure (ps.zip us)) : Cal P w K mg base x k ps sp := by
  obtain ⟨f, oc, od, kV, doc, pm, cdv, ct, an, osl, l, c, kp, m⟩ := F.ex
  exact ⟨f, _, ok f _ (fun_mk l c kp), m, kp, (fun_mk l c kp).binds hb⟩
/-- a def that calls itself: its promise may use where it stands -/
theorem FF.calR (F : FF K mg x st) (ok : ∀ f fd, Fun K x x st f fd → mg x = some (.ref f) → Binds K fd ps [] → FnOk P w K mg base CX0 k f fd ps sp)
    (hb : ∀ (kV doc pm : Value) (an : Option Addr) (cdv ct : Value) (us : List Value), us.length = ps.length → bindArgs (PySem.W.fnOf x x (defArgs st) (defBody st) (defScope st) .none kV doc pm an cdv ct) ⟨us, []⟩ = pure (ps.zip us)) : Cal P w K mg base x k ps sp := by
  obtain ⟨f, oc, od, kV, doc, pm, cdv, ct, an, osl, l, c, kp, m⟩ := F.ex
  exact ⟨f, _, ok f _ (fun_mk l c kp) m ((fun_mk l c kp).binds hb), m, kp, (fun_mk l c kp).binds hb⟩
/-- a class's __init__ -/
theorem FM.made (F : FM K C m q st) (hm : m = "__init__") (mks : PySem.W.makesIn K C = true) (kc : PySem.W.keepIn K (.ref C) = true) (ok : ∀ f fd, Fun K m q st f fd → FnOk P w K mg base CX0 k f fd ps sp)
    (hb : ∀ (kV doc pm : Value) (an : Option Addr) (cdv ct : Value) (us : List Value), us.length = ps.length → bindArgs (PySem.W.fnOf m q (defArgs st) (defBody st) (defScope st) .none kV doc pm an cdv ct) ⟨us, []⟩ = pure (ps.zip us)) : ∃ (f : Addr) (fd : FuncData), Mk K C f ∧ FnOk P w K mg base CX0 k f fd ps sp ∧ Binds K fd ps [] := by
  subst hm
  obtain ⟨f, oc, od, kV, doc, pm, cdv, ct, an, osl, a, i, l, c, kp⟩ := F.ex
  exact ⟨f, _, ⟨mks, a, i, kc⟩, ok f _ (fun_mk l c kp), (fun_mk l c kp).binds hb⟩
theorem FF.calX (F : FF K mg x st) (ok : ∀ f fd, Fun K x x st f fd → FnOk P w K mg base (L2.CX P w) k f fd ps sp)
    (hb : ∀ (kV doc pm : Value) (an : Option Addr) (cdv ct : Value) (us : List Value), us.length = ps.length → bindArgs (PySem.W.fnOf x x (defArgs st) (defBody st) (defScope st) .none kV doc pm an cdv ct) ⟨us, []⟩ = pure (ps.zip us)) : CalX P w K mg base x k ps sp := by
  obtain ⟨f, oc, od, kV, doc, pm, cdv, ct, an, osl, l, c, kp, m⟩ := F.ex
  exact ⟨f, _, ok f _ (fun_mk l c kp), m, kp, (fun_mk l c kp).binds hb⟩
theorem FF.calKX (F : FF K mg x st) (g : List Value → List Value) (gV : List V → List V) (ok : ∀ f fd, Fun K x x st f fd → FnOk P w K mg base (L2.CX P w) k f fd ps sp)
    (hb : ∀ (kV doc pm : Value) (an : Option Addr) (cdv ct : Value) (ws : List Value), ws.length = ks.length → bindArgs (PySem.W.fnOf x x (defArgs st) (defBody st) (defScope st) .none kV doc pm an cdv ct) ⟨[], ks.zip ws⟩ = pure (ps.zip (g ws)))
    (hr : ∀ {zs : List V} {ws : List Value}, Vals zs ws → Vals (gV zs) (g ws)) : CalKX P w K mg base x k ps ks gV sp := by
  obtain ⟨f, oc, od, kV, doc, pm, cdv, ct, an, osl, l, c, kp, m⟩ := F.ex
  refine ⟨f, _, g, ok f _ (fun_mk l c kp), m, kp, ⟨fun s us ws _ h0 h1 => ?_, fun _ r => hr r⟩⟩
  obtain rfl : us = [] := List.length_eq_zero_iff.mp h0
  exact .of_eq (hb kV doc pm an cdv ct ws h1)
end
def gEx (zs : List Value) : List Value := match zs with | [a, b, c] => [c, a, b] | _ => []
theorem gv_vals {zs : List V} {ws : List Value} (r : Vals zs ws) : Vals (gvEx zs) (gEx ws) := by
  cases r with
  | nil => exact .nil
  | cons h1 r => cases r with
    | nil => exact .nil
    | cons h2 r => cases r with
      | nil => exact .nil
      | cons h3 r => cases r with
        | nil => exact .cons h3 (.cons h1 (.cons h2 .nil))
        | cons h4 r => exact .nil
/-- what is to be known of an error's class -/
structure ErrW (K : PySem.W.Frag) (mg : Str → Option Value) (C : Addr) (x q : Str) (st : Stmt) : Prop where
  oex : OexC K C
  xf : XfC K C
  ini : FM K C "__init__" q st
  ty : ∀ f : Addr, PySem.W.findIn K (.ref C) "__init__" = some (some (.ref f)) → PySem.W.typeIn K (.ref f) = some (.type "function")
  g : mg x = some (.ref C)
  te : PySem.W.exmOne K (.ref C) (.ref C) = some true
structure Names (mg : Str → Option Value) : Prop where
  isinstance : mg "isinstance" = none
  int : mg "int" = none
  bool : mg "bool" = none
  str : mg "str" = none
  list : mg "list" = none
  tuple : mg "tuple" = none
  all : mg "all" = none
  len : mg "len" = none
  abs : mg "abs" = none
  range : mg "range" = none
  sorted : mg "sorted" = none
  set : mg "set" = none
  enumerate : mg "enumerate" = none
  max : mg "max" = none
  min : mg "min" = none
  zip : mg "zip" = none
  repr : mg "repr" = none
  kind : ∃ t, mg "MOST_KIND" = some (.int 26 t)
  most : ∃ t, mg "MOST_LETTERS" = some (.int 500 t)
  words : ∃ t, mg "MOST_WORDS" = some (.int 4 t)
  places : ∃ t, mg "MOST_PLACES" = some (.int 24 t)
structure Defs (K : PySem.W.Frag) (mg : Str → Option Value) (C CR CS : Addr) : Prop where
  d_sIsInt : FF K mg "is_integer" sIsInt
  d_sWithin : FF K mg "is_within" sWithin
  d_sLetter : FF K mg "is_letter" sLetter
  d_sListed : FF K mg "is_listed" sListed
  d_sAreI : FF K mg "are_integers" sAreI
  d_sShr : FF K mg "shortened_letters" sShr
  d_sRnd : FF K mg "rounded_letters" sRnd
  d_sKinds : FF K mg "kinds_of" sKinds
  d_sBalOf : FF K mg "balance_of" sBalOf
  d_sPaired : FF K mg "are_paired" sPaired
  d_sJoined : FF K mg "joined" sJoined
  d_sFilled : FF K mg "is_filled" sFilled
  d_sFew : FF K mg "need_few_letters" sFew
  d_sNeedB : FF K mg "need_balanced" sNeedB
  d_sNeedR : FF K mg "need_rims" sNeedR
  d_sFewP : FF K mg "need_few_places" sFewP
  d_sNexts : FF K mg "nexts_of" sNexts
  d_sAreM : FF K mg "are_mates" sAreM
  d_sCorn : FF K mg "corners_of" sCorn
  d_sPieces : FF K mg "pieces_of" sPieces
  d_sNeedS : FF K mg "need_sewing" sNeedS
  d_sNeedPX : FF K mg "need_place" sNeedPX
  d_sMex : FF K mg "mates_exchanged" sMex
  d_sExch : FF K mg "exchanged" sExch
  d_sJar : FF K mg "_law_pen" sJar
  d_sDraw : FF K mg "_law_draw" sDraw
  d_sPick : FF K mg "_law_pick" sPick
  d_sMixed : FF K mg "_law_mixed" sMixed
  d_sCut : FF K mg "_law_cut" sCut
  d_sPlain : FF K mg "_law_plain" sPlain
  d_sLRims : FF K mg "_law_rims" sLRims
  d_sNx : FF K mg "_law_nexts" sNx
  d_sCorL : FF K mg "_law_corners" sCorL
  d_sLets : FF K mg "_law_letters" sLets
  d_sMates : FF K mg "_law_mates" sMates
  d_sFault : FF K mg "_law_fault" sFault
  d_sSwp : FF K mg "_law_swapped" sSwp
  d_sCpl : FF K mg "_law_couples" sCpl
  d_sCost : FF K mg "_law_cost" sCost
  d_sER : FF K mg "_law_exchange_right" sER
  d_sTR : FF K mg "_law_three_right" sTR
  d_sLaw : FF K mg "law" sLaw
  m_sInit : FM K C "__init__" "Word.__init__" sInit
  m_sEq : FM K C "__eq__" "Word.__eq__" sEq
  m_sInitR : FM K CR "__init__" "Rims.__init__" sInitR
  m_sEqR : FM K CR "__eq__" "Rims.__eq__" sEqR
  m_sInitS : FM K CS "__init__" "Sewing.__init__" sInitS
  m_sEqSx : FM K CS "__eq__" "Sewing.__eq__" sEqSx
structure ClsC (K : PySem.W.Frag) (mg : Str → Option Value) (C : Addr) : Prop where
  cl : Cls K C
  n1 : NoAttr K C "letters"
  n2 : NoAttr K C "length"
  n3 : NoAttr K C "kinds"
  n4 : NoAttr K C "is_short"
  n5 : NoAttr K C "is_short_round"
  ca : PySem.W.findIn K (.ref C) "__class__" = some (some (.builtin "object.__class__"))
  cm : PySem.W.mroIn K C (.type "object") = some true
  mks : PySem.W.makesIn K C = true
  kc : PySem.W.keepIn K (.ref C) = true
  mgC : mg "Word" = some (.ref C)
  cn : PySem.W.specialIn K (.builtin "object.__class__") "__get__" = some (some (.builtin "getset_descriptor.__get__"))
  ct : PySem.W.takesIn K (.builtin "object.__class__") = some true
structure ClsCR (K : PySem.W.Frag) (mg : Str → Option Value) (C : Addr) : Prop where
  cl : Cls K C
  n1 : NoAttr K C "words"
  n2 : NoAttr K C "letters"
  n3 : NoAttr K C "many"
  n4 : NoAttr K C "bands"
  n5 : NoAttr K C "is_short"
  n6 : NoAttr K C "homes"
  n7 : NoAttr K C "nexts"
  ca : PySem.W.findIn K (.ref C) "__class__" = some (some (.builtin "object.__class__"))
  cm : PySem.W.mroIn K C (.type "object") = some true
  mks : PySem.W.makesIn K C = true
  kc : PySem.W.keepIn K (.ref C) = true
  mgC : mg "Rims" = some (.ref C)
structure ClsCS (K : PySem.W.Frag) (mg : Str → Option Value) (C : Addr) : Prop where
  cl : Cls K C
  n1 : NoAttr K C "rims"
  n2 : NoAttr K C "mates"
  n3 : NoAttr K C "corners"
  n4 : NoAttr K C "cost"
  n5 : NoAttr K C "pieces"
  n6 : NoAttr K C "handles"
  ca : PySem.W.findIn K (.ref C) "__class__" = some (some (.builtin "object.__class__"))
  cm : PySem.W.mroIn K C (.type "object") = some true
  mks : PySem.W.makesIn K C = true
  kc : PySem.W.keepIn K (.ref C) = true
  mgC : mg "Sewing" = some (.ref C)
/-- the facts of an error's class -/
structure ErrF (K : PySem.W.Frag) (C : Addr) : Prop where
  oex : OexC K C
  xf : XfC K C
  sub : PySem.W.subIn K (.ref C) (.type "BaseException") = some true
  icl : PySem.W.isClsIn K C = true
  tyC : PySem.W.typeIn K (.ref C) = some (.type "type")
/-- and of what is asked of it -/
structure ErrX (K : PySem.W.Frag) (mg : Str → Option Value) (CH C : Addr) (x q : Str) (st : Stmt) (fl : Str) : Prop where
  w : ErrW K mg C x q st
  f : ErrF K C
  fl : PySem.W.findIn K (.ref C) fl = some none
  nt : PySem.W.kitOne K (.type "NoneType") (.ref C) = some false
  cc : PySem.W.findIn K (.ref C) "__class__" = some (some (.builtin "object.__class__"))
  mo : PySem.W.mroIn K C (.type "object") = some true
  sb : PySem.W.subIn K (.ref C) (.ref CH) = some true
theorem exm_two {K : PySem.W.Frag} {S U : Addr} {b : Bool} (g1 : PySem.W.subIn K (.ref U) (.type "BaseException") = some true) (g2 : PySem.W.isClsIn K U = true) (g3 : PySem.W.typeIn K (.ref U) = some (.type "type")) (h4 : PySem.W.subIn K (.ref S) (.ref U) = some b) :
    PySem.W.exmOne K (.ref S) (.ref U) = some b := by
  have e1 : (PySem.W.subIn K (.ref U) (.type "BaseException") == some true) = true := by rw [g1] <;> rfl
  have e2 : ((PySem.W.clsIn K U).isSome && PySem.W.typeIn K (.ref U) == some (.type "type")) = true := by
    have h2' : (PySem.W.clsIn K U).isSome = true := g2
    rw [h2', g3] <;> rfl
  show (if (PySem.W.subIn K (.ref U) (.type "BaseException") == some true) = true then (if ((PySem.W.clsIn K U).isSome && PySem.W.typeIn K (.ref U) == some (.type "type")) = true then PySem.W.subIn K (.ref S) (.ref U) else none) else none) = some b
  rw [if_pos e1, if_pos e2]
  exact h4
/-- Missing's own __init__ -/
structure MissF (K : PySem.W.Frag) (mg : Str → Option Value) (CM g : Addr) (mc : Value) : Prop where
  at_ : mg "Missing" = some (.ref CM)
  c : CF.CFn K CM mc "__init__" g
  ex : ∃ (oc : Value) (od : Option Addr) (kV doc pm cdv ct : Value) (an : Option Addr) (osl : Array (Option Value)), K.lookup g = some ⟨oc, od, .func (PySem.W.fnOf "__init__" "Missing.__init__" (defArgs sInitMi) (defBody sInitMi) (defScope sInitMi) .none kV doc pm an cdv ct), osl⟩ ∧ PySem.W.codeIn K cdv "Missing.__init__" = true
theorem law_mk {P : Program} {w : World} {K : PySem.W.Frag} {mg : Str → Option Value} {base : Heap} {C CR CS CBS CMF CNP CTw CH CM gM fR cR P1 fL : Addr} {mcM : Value} {fdL fdR : FuncData} (N : Names mg) (D : Defs K mg C CR CS) (WC : ClsC K mg C) (WCR : ClsCR K mg CR) (WCS : ClsCS K mg CS) (X1 : XS K CR CS)
    (neR : PySem.W.findIn K (.ref CR) "__ne__" = some (some (.builtin "object.__ne__"))) (neS : PySem.W.findIn K (.ref CS) "__ne__" = some (some (.builtin "object.__ne__")))
    (EBS : ErrX K mg CH CBS "BadSewing" "BadSewing.__init__" sInitBS "part") (EMF : ErrX K mg CH CMF "Misfit" "Misfit.__init__" sInitMF "part") (ENP : ErrX K mg CH CNP "NoPlace" "NoPlace.__init__" sInitNP "value") (ETw : ErrX K mg CH CTw "Twice" "Twice.__init__" sInitTw "value")
    (MI : MissF K mg CM gM mcM) (Z : Four K mg CBS CMF CNP CTw CH)
    (FR : FunC K "_law_refused_right" sRR fR cR fdR) (gR : mg "_law_refused_right" = some (.ref fR)) (kR : PySem.W.keepIn K (.ref fR) = true) (bR : Binds K fdR ["_law_pen_here", "_law_sewing", "_law_letters_here"] []) (TB : LamX.TabB base mg cR P1)
    (FL : Fun K "law" "law" sLaw fL fdL) : RG.FnG P w K mg base 12 fL fdL ["_law_script"] (spLaw K [(P1, qRR)]) := by
  have tA : TxA mg := ⟨N.tuple, N.len⟩
  have tB : TxB mg := ⟨N.sorted, N.abs⟩
  have tC : TxC mg := ⟨N.kind, N.all⟩
  have tI : TxI mg := ⟨N.isinstance, N.int, N.bool, N.str, N.list, N.tuple⟩
  have tL : TxL mg := ⟨N.int, N.len, N.abs⟩
  have tR : TxR mg := ⟨N.words, N.places, N.range, N.enumerate⟩
  have tW : TxW K mg C := ⟨WC.cl, WC.n1, WC.n2, WC.n3, WC.n4, WC.n5, WC.ca, WC.cn, WC.ct, WC.cm, WC.mgC, N.most, N.isinstance, N.all⟩
  have tRC : TxRC K mg CR := ⟨WCR.cl, WCR.n1, WCR.n2, WCR.n3, WCR.n4, WCR.n5, WCR.n6, WCR.n7, WCR.mgC, WCR.ca, WCR.cm⟩
  have tSC : TxSC K mg CS := ⟨WCS.cl, WCS.n1, WCS.n2, WCS.n3, WCS.n4, WCS.n5, WCS.n6, WCS.mgC, WCS.ca, WCS.cm⟩
  have cInt : Cal P w K mg base "is_integer" 1 ["value"] spIsInt := D.d_sIsInt.cal (fun f fd F => ok_isInt F tI) (fun _ _ _ _ _ _ us hl => match us, hl with | [_], _ => rfl)
  have cWithin : Cal P w K mg base "is_within" 2 ["value", "least", "most"] spWithin := D.d_sWithin.cal (fun f fd F => ok_within F cInt) (fun _ _ _ _ _ _ us hl => match us, hl with | [_, _, _], _ => rfl)
  have cLetter : Cal P w K mg base "is_letter" 3 ["value"] spLetter := D.d_sLetter.cal (fun f fd F => ok_letter F cWithin tC) (fun _ _ _ _ _ _ us hl => match us, hl with | [_], _ => rfl)
  have cListE : Cal P w K mg base "is_listed" 1 ["value"] (spListE K) := D.d_sListed.cal (fun f fd F => ok_listE F tI) (fun _ _ _ _ _ _ us hl => match us, hl with | [_], _ => rfl)
  have cFew : Cal P w K mg base "need_few_letters" 1 ["many"] spFew := D.d_sFew.cal (fun f fd F => ok_few F tW) (fun _ _ _ _ _ _ us hl => match us, hl with | [_], _ => rfl)
  have cKinds : Cal P w K mg base "kinds_of" 1 ["letters"] (spKinds K) := D.d_sKinds.cal (fun f fd F => ok_kinds F tA tB) (fun _ _ _ _ _ _ us hl => match us, hl with | [_], _ => rfl)
  have cShr : Cal P w K mg base "shortened_letters" 1 ["letters"] (spShr K) := D.d_sShr.cal (fun f fd F => ok_shr F tA) (fun _ _ _ _ _ _ us hl => match us, hl with | [_], _ => rfl)
  have cRnd : Cal P w K mg base "rounded_letters" 2 ["letters"] (spRnd K) := D.d_sRnd.cal (fun f fd F => ok_rnd F cShr tA) (fun _ _ _ _ _ _ us hl => match us, hl with | [_], _ => rfl)
  have mW : MkW P w K mg base C := ⟨D.m_sInit.made rfl WC.mks WC.kc (fun f fd F => ok_init F tW tA cListE cLetter cFew cKinds cShr cRnd) (fun _ _ _ _ _ _ us hl => match us, hl with | [_, _], _ => rfl)⟩
  have cBal : Cal P w K mg base "balance_of" 2 ["letters"] (spBalOf K) := D.d_sBalOf.cal (fun f fd F => ok_balOf F tA cKinds) (fun _ _ _ _ _ _ us hl => match us, hl with | [_], _ => rfl)
  have cFilled : Cal P w K mg base "is_filled" 1 ["value"] (spFilled K C) := D.d_sFilled.cal (fun f fd F => ok_filled F tW) (fun _ _ _ _ _ _ us hl => match us, hl with | [_], _ => rfl)
  have cFewP : Cal P w K mg base "need_few_places" 1 ["many"] spFewP := D.d_sFewP.cal (fun f fd F => ok_fewP F tR) (fun _ _ _ _ _ _ us hl => match us, hl with | [_], _ => rfl)
  have cNeedB : Cal P w K mg base "need_balanced" 3 ["letters"] (spNeedB K) := D.d_sNeedB.cal (fun f fd F => ok_needB F cBal) (fun _ _ _ _ _ _ us hl => match us, hl with | [_], _ => rfl)
  have cNexts : Cal P w K mg base "nexts_of" 1 ["words"] (spNexts K C) := D.d_sNexts.cal (fun f fd F => ok_nexts F tW tA tR) (fun _ _ _ _ _ _ us hl => match us, hl with | [_], _ => rfl)
  have mR : MkR P w K mg base C CR := ⟨D.m_sInitR.made rfl WCR.mks WCR.kc (fun f fd F => ok_initR F tW tRC tA tR cListE cFilled cFewP cNeedB cNexts) (fun _ _ _ _ _ _ us hl => match us, hl with | [_, _], _ => rfl)⟩
  have cNeedR : Cal P w K mg base "need_rims" 1 ["value", "part"] (spNeedR K C CR) := D.d_sNeedR.cal (fun f fd F => ok_needR F tW tRC) (fun _ _ _ _ _ _ us hl => match us, hl with | [_, _], _ => rfl)
  have cAreI : Cal P w K mg base "are_integers" 2 ["value"] (spAreI K) := D.d_sAreI.cal (fun f fd F => ok_areI F N.all cListE cInt) (fun _ _ _ _ _ _ us hl => match us, hl with | [_], _ => rfl)
  have cPaired : Cal P w K mg base "are_paired" 3 ["value", "many"] (spPaired K) := D.d_sPaired.cal (fun f fd F => ok_paired F tA tR cAreI) (fun _ _ _ _ _ _ us hl => match us, hl with | [_, _], _ => rfl)
  have cAreM : Cal P w K mg base "are_mates" 4 ["letters", "value"] (spAreM K) := D.d_sAreM.cal (fun f fd F => ok_areM F tA tR N.all cPaired) (fun _ _ _ _ _ _ us hl => match us, hl with | [_, _], _ => rfl)
  have cCorn : Cal P w K mg base "corners_of" 1 ["rims", "mates"] (spCorn K C CR) := D.d_sCorn.cal (fun f fd F => ok_corn F tRC tA tR N.set) (fun _ _ _ _ _ _ us hl => match us, hl with | [_, _], _ => rfl)
  have cJoined : Cal P w K mg base "joined" 1 ["many", "pairs"] (spJoined K) := D.d_sJoined.cal (fun f fd F => ok_joined F tA tR N.list N.max N.min) (fun _ _ _ _ _ _ us hl => match us, hl with | [_, _], _ => rfl)
  have cPieces : Cal P w K mg base "pieces_of" 2 ["rims", "mates"] (spPieces K C CR) := D.d_sPieces.cal (fun f fd F => ok_pieces F tRC tA tR cJoined) (fun _ _ _ _ _ _ us hl => match us, hl with | [_, _], _ => rfl)
  have mS : MkS P w K mg base C CR CS := ⟨D.m_sInitS.made rfl WCS.mks WCS.kc (fun f fd F => ok_initS F tRC tSC tA cNeedR cAreM cCorn cPieces) (fun _ _ _ _ _ _ us hl => match us, hl with | [_, _, _], _ => rfl)⟩
  have N_ : TN mg := ⟨N.len, N.range, N.list, N.tuple, N.int, N.abs, N.min, N.sorted, N.set, N.enumerate, N.zip, N.isinstance, N.repr⟩
  have eW : EqW P w K mg base C := by
    obtain ⟨f, oc, od, kV, doc, pm, cdv, ct, an, osl, a, i, l, c, kp⟩ := D.m_sEq.ex
    exact ⟨f, _, ok_eq (fun_mk l c kp) tW, a, i, (fun_mk l c kp).binds (fun _ _ _ _ _ _ us hl => match us, hl with | [_, _], _ => rfl)⟩
  have eR : EqR P w K mg base C CR := by
    obtain ⟨f, oc, od, kV, doc, pm, cdv, ct, an, osl, a, i, l, c, kp⟩ := D.m_sEqR.ex
    exact ⟨f, _, ok_eqR (fun_mk l c kp) tW tRC eW, a, i, (fun_mk l c kp).binds (fun _ _ _ _ _ _ us hl => match us, hl with | [_, _], _ => rfl)⟩
  have eS : OE.Eq P w K mg base CS 4 (SewEq K C CR CS) := by
    obtain ⟨f, oc, od, kV, doc, pm, cdv, ct, an, osl, a, i, l, c, kp⟩ := D.m_sEqSx.ex
    refine ⟨⟨f, _, ok_EqSx (fun_mk l c kp) N_ tW tRC tSC eR, a, i, (fun_mk l c kp).binds (fun _ _ _ _ _ _ us hl => match us, hl with | [_, _], _ => rfl)⟩, fun H p q b h => ?_, neS, WCS.cm⟩
    obtain ⟨_, _, _, _, _, _, _, _, ⟨dx, _, _, _, h1, _⟩, ⟨dy, _, _, _, h2, _⟩, _⟩ := h
    exact ⟨⟨dx, _, h1⟩, dy, _, h2⟩
  have O : SewO P w K mg base C CR CS := ⟨tW, tRC, tSC, eR, neR, eS⟩
  have BS : ErrC P w K mg base CBS "BadSewing" ["self", "part"] (spI1 "part" CBS) := by
    obtain ⟨f, oc, od, kV, doc, pm, cdv, ct, an, osl, a, i, l, c, kp⟩ := EBS.w.ini.ex
    exact ⟨EBS.w.oex, ⟨f, _, a, EBS.w.ty f a, (ok_initBS (fun_mk l c kp) EBS.w.oex EBS.fl).mono (by decide), (fun_mk l c kp).binds (fun _ _ _ _ _ _ us hl => match us, hl with | [_, _], _ => rfl)⟩, EBS.w.g, EBS.w.xf, EBS.w.te⟩
  have MF : ErrC P w K mg base CMF "Misfit" ["self", "part"] (spI1 "part" CMF) := by
    obtain ⟨f, oc, od, kV, doc, pm, cdv, ct, an, osl, a, i, l, c, kp⟩ := EMF.w.ini.ex
    exact ⟨EMF.w.oex, ⟨f, _, a, EMF.w.ty f a, (ok_initMF (fun_mk l c kp) EMF.w.oex EMF.fl).mono (by decide), (fun_mk l c kp).binds (fun _ _ _ _ _ _ us hl => match us, hl with | [_, _], _ => rfl)⟩, EMF.w.g, EMF.w.xf, EMF.w.te⟩
  have TW : ErrC P w K mg base CTw "Twice" ["self", "value"] (spI1 "value" CTw) := by
    obtain ⟨f, oc, od, kV, doc, pm, cdv, ct, an, osl, a, i, l, c, kp⟩ := ETw.w.ini.ex
    exact ⟨ETw.w.oex, ⟨f, _, a, ETw.w.ty f a, (ok_initTw (fun_mk l c kp) ETw.w.oex ETw.fl).mono (by decide), (fun_mk l c kp).binds (fun _ _ _ _ _ _ us hl => match us, hl with | [_, _], _ => rfl)⟩, ETw.w.g, ETw.w.xf, ETw.w.te⟩
  have NP : ErrC P w K mg base CNP "NoPlace" ["self", "value"] (spI1 "value" CNP) := by
    obtain ⟨f, oc, od, kV, doc, pm, cdv, ct, an, osl, a, i, l, c, kp⟩ := ENP.w.ini.ex
    obtain ⟨oc2, od2, kV2, doc2, pm2, cdv2, ct2, an2, osl2, l2, c2⟩ := MI.ex
    exact ⟨ENP.w.oex, ⟨f, _, a, ENP.w.ty f a, ok_initNP (fun_mk l c kp) MI.at_ MI.c (ok_initMi (fun_mk (st := sInitMi) l2 c2 MI.c.kp) ENP.w.oex ENP.fl) ((fun_mk (st := sInitMi) l2 c2 MI.c.kp).binds (fun _ _ _ _ _ _ us hl => match us, hl with | [_, _], _ => rfl)), (fun_mk l c kp).binds (fun _ _ _ _ _ _ us hl => match us, hl with | [_, _], _ => rfl)⟩, ENP.w.g, ENP.w.xf, ENP.w.te⟩
  have cPen : Cal P w K mg base "_law_pen" 1 ["_law_script"] (spHand K) := D.d_sJar.cal (fun f fd F => ok_hand F tL) (fun _ _ _ _ _ _ us hl => match us, hl with | [_], _ => rfl)
  have cDraw : Cal P w K mg base "_law_draw" 1 ["_law_pen_here", "_law_many"] spTake := D.d_sDraw.cal (fun f fd F => ok_take F tL) (fun _ _ _ _ _ _ us hl => match us, hl with | [_, _], _ => rfl)
  have cPick : Cal P w K mg base "_law_pick" 2 ["_law_pen_here", "_law_some"] spPick := D.d_sPick.cal (fun f fd F => ok_pick F cDraw tL) (fun _ _ _ _ _ _ us hl => match us, hl with | [_, _], _ => rfl)
  have cMixed : Cal P w K mg base "_law_mixed" 2 ["_law_pen_here", "_law_some"] spMixed := D.d_sMixed.cal (fun f fd F => ok_Mixed F N_ cDraw) (fun _ _ _ _ _ _ us hl => match us, hl with | [_, _], _ => rfl)
  have cCut : Cal P w K mg base "_law_cut" 3 ["_law_pen_here", "_law_letters_here"] spCut := D.d_sCut.cal (fun f fd F => ok_Cut F N_ cDraw cMixed) (fun _ _ _ _ _ _ us hl => match us, hl with | [_, _], _ => rfl)
  have cPlain : Cal P w K mg base "_law_plain" 4 ["_law_pen_here", "_law_counts"] spPlain := D.d_sPlain.cal (fun f fd F => ok_Plain F N_ cCut cMixed) (fun _ _ _ _ _ _ us hl => match us, hl with | [_, _], _ => rfl)
  have cRims : Cal P w K mg base "_law_rims" 6 ["_law_words"] (spLRims K C CR) := D.d_sLRims.cal (fun f fd F => ok_LRims F N_ tW tRC mW mR) (fun _ _ _ _ _ _ us hl => match us, hl with | [_], _ => rfl)
  have cNx : Cal P w K mg base "_law_nexts" 1 ["_law_words"] spNx := D.d_sNx.cal (fun f fd F => ok_Nx F N_) (fun _ _ _ _ _ _ us hl => match us, hl with | [_], _ => rfl)
  have cLets : Cal P w K mg base "_law_letters" 1 ["_law_words"] spLets := D.d_sLets.cal (fun f fd F => ok_Lets F N_) (fun _ _ _ _ _ _ us hl => match us, hl with | [_], _ => rfl)
  have cCorL : Cal P w K mg base "_law_corners" 2 ["_law_words", "_law_mates_here"] (spCorL K) := D.d_sCorL.cal (fun f fd F => ok_CorL F N_ cNx) (fun _ _ _ _ _ _ us hl => match us, hl with | [_, _], _ => rfl)
  have cCost : Cal P w K mg base "_law_cost" 3 ["_law_words", "_law_mates_here"] (spCost K) := D.d_sCost.cal (fun f fd F => ok_Cost F N_ cCorL) (fun _ _ _ _ _ _ us hl => match us, hl with | [_, _], _ => rfl)
  have cMates : Cal P w K mg base "_law_mates" 3 ["_law_pen_here", "_law_letters_here"] spMates := D.d_sMates.cal (fun f fd F => ok_Mates F N_ cMixed) (fun _ _ _ _ _ _ us hl => match us, hl with | [_, _], _ => rfl)
  have cSwp : Cal P w K mg base "_law_swapped" 1 ["_law_mates_here", "_law_one", "_law_other"] (spSwp K) := D.d_sSwp.cal (fun f fd F => ok_Swp F N_) (fun _ _ _ _ _ _ us hl => match us, hl with | [_, _, _], _ => rfl)
  have cCpl : Cal P w K mg base "_law_couples" 1 ["_law_letters_here"] (spCpl K) := D.d_sCpl.cal (fun f fd F => ok_Cpl F N_) (fun _ _ _ _ _ _ us hl => match us, hl with | [_], _ => rfl)
  have cNeedS : CalX P w K mg base "need_sewing" 4 ["value", "part"] (spNeedS K C CR CS CBS) := D.d_sNeedS.calX (fun f fd F => ok_NeedS F N_ tW tSC BS) (fun _ _ _ _ _ _ us hl => match us, hl with | [_, _], _ => rfl)
  have cNeedP : CalX P w K mg base "need_place" 4 ["rims", "value"] (spNeedPX K C CR CNP) := D.d_sNeedPX.calX (fun f fd F => ok_NeedPX F N_ tRC NP cWithin) (fun _ _ _ _ _ _ us hl => match us, hl with | [_, _], _ => rfl)
  have cMex : Cal P w K mg base "mates_exchanged" 1 ["mates", "place", "other"] (spMex K) := D.d_sMex.cal (fun f fd F => ok_Mex F N_) (fun _ _ _ _ _ _ us hl => match us, hl with | [_, _, _], _ => rfl)
  have cExch : CalX P w K mg base "exchanged" 8 ["sewing", "place", "other"] (spExch K C CR CS CBS CNP CTw CMF) := D.d_sExch.calX (fun f fd F => ok_Exch F N_ tW tRC tSC mS TW MF cNeedS cNeedP cMex) (fun _ _ _ _ _ _ us hl => match us, hl with | [_, _, _], _ => rfl)
  have cExK : CalKX P w K mg base "exchanged" 8 ["sewing", "place", "other"] ["place", "other", "sewing"] gvEx (spExch K C CR CS CBS CNP CTw CMF) := D.d_sExch.calKX gEx gvEx (fun f fd F => ok_Exch F N_ tW tRC tSC mS TW MF cNeedS cNeedP cMex) (fun _ _ _ _ _ _ us hl => match us, hl with | [_, _, _], _ => rfl) gv_vals
  have cER : Cal P w K mg base "_law_exchange_right" 9 ["_law_pen_here", "_law_words", "_law_sewing", "_law_mates_here"] (spER K C CR CS) := D.d_sER.cal (fun f fd F => ok_ER F N_ O cExK cLets cPick cCpl cExch cSwp cCost) (fun _ _ _ _ _ _ us hl => match us, hl with | [_, _, _, _], _ => rfl)
  have cTR : Cal P w K mg base "_law_three_right" 9 ["_law_words", "_law_sewing", "_law_letters_here"] (spTR K C CR CS) := D.d_sTR.cal (fun f fd F => ok_TR F N_ O cCost cExch) (fun _ _ _ _ _ _ us hl => match us, hl with | [_, _, _], _ => rfl)
  obtain ⟨g, oc, od, kV, doc, pm, cdv, ct, an, osl, lg, cg, kg, mg1⟩ := D.d_sFault.ex
  have hG : FaultK K mg g := ⟨mg1, kg, ⟨oc, od, kV, doc, pm, cdv, ct, an, osl, lg, cg⟩⟩
  have u1 : ∀ p ∈ [(P1, qRR)], p.1 = P1 → p.2 = qRR := by
    intro p hp _
    rw [List.mem_singleton.mp hp]
  have cRR : RG.CalG P w K mg base "_law_refused_right" 11 ["_law_pen_here", "_law_sewing", "_law_letters_here"] (spRR K C CR CS [(P1, qRR)]) := ⟨fR, fdR, ok_RR FR N_ O X1 BS MF NP TW Z hG TB List.mem_cons_self u1 cDraw cPick cExch, gR, kR, bR⟩
  exact ok_Law FL N_ O mS cPen cPick cPlain cLets cMates cRims cER cTR cRR
theorem at_mk {l : PySem.W.OpenLaw} {w : World} {K : PySem.W.Frag} {h : Heap} {mg : Str → Option Value} {fa C CR CS CBS CMF CNP CTw CH CM gM P1 : Addr} (X : K.In h) (G : h.Ns mainGlobals mg) (hfa : mg "law" = some (.ref fa)) (N : Names mg) (D : Defs K mg C CR CS) (WC : ClsC K mg C) (WCR : ClsCR K mg CR) (WCS : ClsCS K mg CS) (X1 : XS K CR CS)
    (neR : PySem.W.findIn K (.ref CR) "__ne__" = some (some (.builtin "object.__ne__"))) (neS : PySem.W.findIn K (.ref CS) "__ne__" = some (some (.builtin "object.__ne__")))
    (EBS : ErrX K mg CH CBS "BadSewing" "BadSewing.__init__" sInitBS "part") (EMF : ErrX K mg CH CMF "Misfit" "Misfit.__init__" sInitMF "part") (ENP : ErrX K mg CH CNP "NoPlace" "NoPlace.__init__" sInitNP "value") (ETw : ErrX K mg CH CTw "Twice" "Twice.__init__" sInitTw "value")
    (aH : PySem.W.nsIn K mainGlobals "HandleError" = some (some (.ref CH))) (h1 : PySem.W.subIn K (.ref CH) (.type "BaseException") = some true) (h2 : PySem.W.isClsIn K CH = true) (h3 : PySem.W.typeIn K (.ref CH) = some (.type "type"))
    (k1 : PySem.W.kitOne K (.ref CMF) (.ref CBS) = some false) (k2 : PySem.W.kitOne K (.ref CNP) (.ref CBS) = some false) (k3 : PySem.W.kitOne K (.ref CNP) (.ref CMF) = some false) (k4 : PySem.W.kitOne K (.ref CTw) (.ref CBS) = some false) (k5 : PySem.W.kitOne K (.ref CTw) (.ref CMF) = some false) (k6 : PySem.W.kitOne K (.ref CTw) (.ref CNP) = some false)
    (aM : PySem.W.nsIn K mainGlobals "Missing" = some (some (.ref CM))) (m0 : PySem.W.findIn K (.ref CM) "__init__" = some (some (.ref gM))) (m1 : PySem.W.readsIn K CM (.type "type") = true) (m2 : PySem.W.specialIn K (.ref CM) "__getattribute__" = some (some (.builtin "type.__getattribute__"))) (m3 : PySem.W.findCls K (.ref CM) (.type "type") "__init__" = some (.val (.ref gM))) (m4 : PySem.W.keepIn K (.ref gM) = true)
    {ocM kVM dcM pmM cdM ctM : Value} {odM anM : Option Addr} {slM : Array (Option Value)} (lM : K.lookup gM = some ⟨ocM, odM, .func (PySem.W.fnOf "__init__" "Missing.__init__" (defArgs sInitMi) (defBody sInitMi) (defScope sInitMi) .none kVM dcM pmM anM cdM ctM), slM⟩) (cM : PySem.W.codeIn K cdM "Missing.__init__" = true)
    (t1 : h.get? P1 = some { cls := .none, data := .fields #[] })
    {fD cD : Addr} {od1 an1 : Option Addr} {sl1 : Array (Option Value)} {oc1 kV1 dc1 pm1 ct1 : Value}
    (aD : PySem.W.nsIn K mainGlobals "_law_refused_right" = some (some (.ref fD))) (lD : K.lookup fD = some ⟨oc1, od1, .func (PySem.W.fnOf "_law_refused_right" "_law_refused_right" (defArgs sRR) (defBody sRR) (defScope sRR) .none kV1 dc1 pm1 an1 (.ref cD) ct1), sl1⟩)
    (eD : PySem.W.codeIn K (.ref cD) "_law_refused_right" = true) (kD : PySem.W.keepIn K (.ref fD) = true) (hD : PySem.W.codeHdIn K cD P1 = true) (nD : K.lookup P1 = none) : RG.LawAtG l w K 12 63 "_law_script" mg fa h := by
  obtain ⟨f, oc, od, kV, doc, pm, cdv, ct, an, osl, lL, c, kp, m⟩ := D.d_sLaw.ex
  have e := hfa.symm.trans m
  cases e
  have EX : ∀ {C : Addr} {x q : Str} {st : Stmt} {fl : Str}, ErrX K mg CH C x q st fl → L2.ExcC K C := fun E => ⟨E.f.xf.ga, E.f.xf.gg, E.f.sub, E.f.xf.hdC, E.cc, WC.cn, WC.ct, E.mo⟩
  have Z : Four K mg CBS CMF CNP CTw CH := ⟨PySem.W.mg_of X G aH, exm_two h1 h2 h3 EBS.sb, exm_two h1 h2 h3 EMF.sb, exm_two h1 h2 h3 ENP.sb, exm_two h1 h2 h3 ETw.sb, EBS.fl, EMF.fl, ENP.fl, ETw.fl, EX EBS, EX EMF, EX ENP, EX ETw, EBS.nt, EMF.nt, ENP.nt, ETw.nt, k1, k2, k3, k4, k5, k6⟩
  have FR : FunC K "_law_refused_right" sRR fD cD _ := ⟨oc1, od1, kV1, dc1, pm1, an1, ct1, sl1, rfl, lD, eD⟩
  have bR : Binds K (PySem.W.fnOf "_law_refused_right" "_law_refused_right" (defArgs sRR) (defBody sRR) (defScope sRR) .none kV1 dc1 pm1 an1 (.ref cD) ct1) ["_law_pen_here", "_law_sewing", "_law_letters_here"] [] := (fun_mk (st := sRR) lD eD kD).binds (ps := ["_law_pen_here", "_law_sewing", "_law_letters_here"]) (fun _ _ _ _ _ _ us hl => match us, hl with | [_, _, _], _ => rfl)
  have one : ∀ {Z : Addr × Addr → Prop}, Z (cD, P1) → ∀ p ∈ [(cD, P1)], Z p := by
    intro Z h2 p hp
    rw [List.mem_singleton.mp hp]
    exact h2
  refine ⟨PySem.W.fnOf "law" "law" (defArgs sLaw) (defBody sLaw) (defScope sLaw) .none kV doc pm an cdv ct, [(cD, P1)], spLaw K [(P1, qRR)], ⟨one t1, one nD, one (PySem.W.codeHd_of_K X hD)⟩, fun s v => .of_eq rfl, ?_, fun base _ _ T => ?_⟩
  · intro H a ns hl hH hS
    refine ⟨a, ns, rfl, hS, hl, fun p hp => ?_, fun _ => rfl⟩
    rw [List.mem_singleton.mp hp]
    exact .nil (hH (cD, P1) List.mem_cons_self)
  · exact law_mk N D WC WCR WCS X1 neR neS EBS EMF ENP ETw ⟨PySem.W.mg_of X G aM, ⟨m1, m2, m3, m4⟩, ⟨ocM, odM, kVM, dcM, pmM, cdM, ctM, anM, slM, lM, cM⟩⟩ Z FR (PySem.W.mg_of X G aD) kD bR (T (cD, P1) List.mem_cons_self) (fun_mk lL c kp)
end W14
set_option Elab.async false
set_option linter.all false
set_option maxRecDepth 100000
set_option maxHeartbeats 4000000
namespace W14
open PySem L2 PySem.Spec PyProof.Rows WR WB WE WS
theorem err_mk {K : PySem.W.Frag} {h : Heap} {mg : Str → Option Value} {C f : Addr} {x q : Str} {st : Stmt} (X : K.In h) (G : h.Ns mainGlobals mg)
    {nm q2 : Str} {N : Addr} {bs bm : List Value} {sn : List Str} {sub : List Value} {ab : Bool} {col : Option Bool} {dd : Option Addr} {m0 m1 m2 m3 m5 : Option Value} {oc : Value} {od an : Option Addr} {kV doc pm cdv ct : Value} {osl : Array (Option Value)}
    (aC : PySem.W.nsIn K mainGlobals x = some (some (.ref C)))
    (xL : K.lookup C = some (excClassObj nm q2 C N bs bm true sn sub ab col dd m0 m1 m2 m3 m5 "ValueError.__new__")) (rv : PySem.HandSPX.refsVE bm = true)
    (sa : PySem.W.findIn K (.ref C) "__setattr__" = some (some (.builtin "object.__setattr__"))) (ga : PySem.W.findIn K (.ref C) "__getattribute__" = some (some (.builtin "BaseException.__getattribute__"))) (gg : PySem.W.findIn K (.ref C) "__getattr__" = some none)
    (i1 : PySem.W.findIn K (.ref C) "__init__" = some (some (.ref f))) (t1 : PySem.W.typeIn K (.ref f) = some (.type "function")) (fn : PySem.W.isFn K (.ref f) = true)
    (l1 : K.lookup f = some ⟨oc, od, .func (PySem.W.fnOf "__init__" q (defArgs st) (defBody st) (defScope st) .none kV doc pm an cdv ct), osl⟩) (c1 : PySem.W.codeIn K cdv q = true) (k1 : PySem.W.keepIn K (.ref f) = true)
    (kC : PySem.W.keepIn K (.ref C) = true) (eC : PySem.W.subIn K (.ref C) (.type "BaseException") = some true) (tC : PySem.W.typeIn K (.ref C) = some (.type "type")) (hC : PySem.W.hasDictIn K C = true) (iC : PySem.W.isClsIn K C = true) (sC : PySem.W.subIn K (.ref C) (.ref C) = some true) : ErrW K mg C x q st ∧ ErrF K C :=
  have O : OexC K C := ⟨⟨nm, q2, N, bs, bm, sn, sub, ab, col, dd, m0, m1, m2, m3, m5, xL, rv⟩, sa, eC, tC, kC⟩
  have F : XfC K C := ⟨ga, gg, eC, hC⟩
  ⟨⟨O, F, ⟨f, oc, od, kV, doc, pm, cdv, ct, an, osl, i1, fn, l1, c1, k1⟩, fun f' e => by
    rw [i1] at e
    cases e
    exact t1, PySem.W.mg_of X G aC, exm_two eC iC tC sC⟩, ⟨O, F, eC, iC, tC⟩⟩
theorem errx_mk {K : PySem.W.Frag} {h : Heap} {mg : Str → Option Value} {CH C f : Addr} {x q fl : Str} {st : Stmt} (X : K.In h) (G : h.Ns mainGlobals mg)
    {nm q2 : Str} {N : Addr} {bs bm : List Value} {sn : List Str} {sub : List Value} {ab : Bool} {col : Option Bool} {dd : Option Addr} {m0 m1 m2 m3 m5 : Option Value} {oc : Value} {od an : Option Addr} {kV doc pm cdv ct : Value} {osl : Array (Option Value)}
    (aC : PySem.W.nsIn K mainGlobals x = some (some (.ref C)))
    (xL : K.lookup C = some (excClassObj nm q2 C N bs bm true sn sub ab col dd m0 m1 m2 m3 m5 "ValueError.__new__")) (rv : PySem.HandSPX.refsVE bm = true)
    (sa : PySem.W.findIn K (.ref C) "__setattr__" = some (some (.builtin "object.__setattr__"))) (ga : PySem.W.findIn K (.ref C) "__getattribute__" = some (some (.builtin "BaseException.__getattribute__"))) (gg : PySem.W.findIn K (.ref C) "__getattr__" = some none)
    (i1 : PySem.W.findIn K (.ref C) "__init__" = some (some (.ref f))) (t1 : PySem.W.typeIn K (.ref f) = some (.type "function")) (fn : PySem.W.isFn K (.ref f) = true)
    (l1 : K.lookup f = some ⟨oc, od, .func (PySem.W.fnOf "__init__" q (defArgs st) (defBody st) (defScope st) .none kV doc pm an cdv ct), osl⟩) (c1 : PySem.W.codeIn K cdv q = true) (k1 : PySem.W.keepIn K (.ref f) = true)
    (kC : PySem.W.keepIn K (.ref C) = true) (eC : PySem.W.subIn K (.ref C) (.type "BaseException") = some true) (tC : PySem.W.typeIn K (.ref C) = some (.type "type")) (hC : PySem.W.hasDictIn K C = true) (iC : PySem.W.isClsIn K C = true) (sC : PySem.W.subIn K (.ref C) (.ref C) = some true)
    (fl_ : PySem.W.findIn K (.ref C) fl = some none) (nt : PySem.W.kitOne K (.type "NoneType") (.ref C) = some false) (cc : PySem.W.findIn K (.ref C) "__class__" = some (some (.builtin "object.__class__"))) (mo : PySem.W.mroIn K C (.type "object") = some true) (sb : PySem.W.subIn K (.ref C) (.ref CH) = some true) : ErrX K mg CH C x q st fl :=
  have r := err_mk X G aC xL rv sa ga gg i1 t1 fn l1 c1 k1 kC eC tC hC iC sC
  ⟨r.1, r.2, fl_, nt, cc, mo, sb⟩
theorem names_mk {K : PySem.W.Frag} {h : Heap} {mg : Str → Option Value} {u0 : Tok} {u1 : Tok} {u2 : Tok} {u3 : Tok} (X : K.In h) (G : h.Ns mainGlobals mg)
    (n0 : PySem.W.nsIn K mainGlobals "isinstance" = some none) (n1 : PySem.W.nsIn K mainGlobals "int" = some none) (n2 : PySem.W.nsIn K mainGlobals "bool" = some none) (n3 : PySem.W.nsIn K mainGlobals "str" = some none) (n4 : PySem.W.nsIn K mainGlobals "list" = some none) (n5 : PySem.W.nsIn K mainGlobals "tuple" = some none) (n6 : PySem.W.nsIn K mainGlobals "all" = some none) (n7 : PySem.W.nsIn K mainGlobals "len" = some none) (n8 : PySem.W.nsIn K mainGlobals "abs" = some none) (n9 : PySem.W.nsIn K mainGlobals "range" = some none) (n10 : PySem.W.nsIn K mainGlobals "sorted" = some none) (n11 : PySem.W.nsIn K mainGlobals "set" = some none) (n12 : PySem.W.nsIn K mainGlobals "enumerate" = some none) (n13 : PySem.W.nsIn K mainGlobals "max" = some none) (n14 : PySem.W.nsIn K mainGlobals "min" = some none) (n15 : PySem.W.nsIn K mainGlobals "zip" = some none) (n16 : PySem.W.nsIn K mainGlobals "repr" = some none) (g0 : PySem.W.nsIn K mainGlobals "MOST_KIND" = some (some (.int 26 u0))) (g1 : PySem.W.nsIn K mainGlobals "MOST_LETTERS" = some (some (.int 500 u1))) (g2 : PySem.W.nsIn K mainGlobals "MOST_WORDS" = some (some (.int 4 u2))) (g3 : PySem.W.nsIn K mainGlobals "MOST_PLACES" = some (some (.int 24 u3))) : Names mg :=
  ⟨PySem.W.mg_none_of X G n0, PySem.W.mg_none_of X G n1, PySem.W.mg_none_of X G n2, PySem.W.mg_none_of X G n3, PySem.W.mg_none_of X G n4, PySem.W.mg_none_of X G n5, PySem.W.mg_none_of X G n6, PySem.W.mg_none_of X G n7, PySem.W.mg_none_of X G n8, PySem.W.mg_none_of X G n9, PySem.W.mg_none_of X G n10, PySem.W.mg_none_of X G n11, PySem.W.mg_none_of X G n12, PySem.W.mg_none_of X G n13, PySem.W.mg_none_of X G n14, PySem.W.mg_none_of X G n15, PySem.W.mg_none_of X G n16, ⟨_, PySem.W.mg_of X G g0⟩, ⟨_, PySem.W.mg_of X G g1⟩, ⟨_, PySem.W.mg_of X G g2⟩, ⟨_, PySem.W.mg_of X G g3⟩⟩
theorem cls_mkC {K : PySem.W.Frag} {h : Heap} {mg : Str → Option Value} {C : Addr} (X : K.In h) (G : h.Ns mainGlobals mg) (aC : PySem.W.nsIn K mainGlobals "Word" = some (some (.ref C)))
    (pg : PySem.W.plainGet K C Str.empty = true) (hd : PySem.W.hasDictIn K C = true) (po : PySem.W.plainOver K C = true) (sa : PySem.W.findIn K (.ref C) "__setattr__" = some (some (.builtin "object.__setattr__")))
    (n1 : PySem.W.findIn K (.ref C) "letters" = some none) (n2 : PySem.W.findIn K (.ref C) "length" = some none) (n3 : PySem.W.findIn K (.ref C) "kinds" = some none) (n4 : PySem.W.findIn K (.ref C) "is_short" = some none) (n5 : PySem.W.findIn K (.ref C) "is_short_round" = some none)
    (ca : PySem.W.findIn K (.ref C) "__class__" = some (some (.builtin "object.__class__"))) (cm : PySem.W.mroIn K C (.type "object") = some true) (mk : PySem.W.makesIn K C = true) (kc : PySem.W.keepIn K (.ref C) = true)
    (cn : PySem.W.specialIn K (.builtin "object.__class__") "__get__" = some (some (.builtin "getset_descriptor.__get__"))) (ct : PySem.W.takesIn K (.builtin "object.__class__") = some true) : ClsC K mg C :=
  ⟨⟨pg, hd, po, sa⟩, n1, n2, n3, n4, n5, ca, cm, mk, kc, PySem.W.mg_of X G aC, cn, ct⟩
theorem cls_mkCR {K : PySem.W.Frag} {h : Heap} {mg : Str → Option Value} {C : Addr} (X : K.In h) (G : h.Ns mainGlobals mg) (aC : PySem.W.nsIn K mainGlobals "Rims" = some (some (.ref C)))
    (pg : PySem.W.plainGet K C Str.empty = true) (hd : PySem.W.hasDictIn K C = true) (po : PySem.W.plainOver K C = true) (sa : PySem.W.findIn K (.ref C) "__setattr__" = some (some (.builtin "object.__setattr__")))
    (n1 : PySem.W.findIn K (.ref C) "words" = some none) (n2 : PySem.W.findIn K (.ref C) "letters" = some none) (n3 : PySem.W.findIn K (.ref C) "many" = some none) (n4 : PySem.W.findIn K (.ref C) "bands" = some none) (n5 : PySem.W.findIn K (.ref C) "is_short" = some none) (n6 : PySem.W.findIn K (.ref C) "homes" = some none) (n7 : PySem.W.findIn K (.ref C) "nexts" = some none)
    (ca : PySem.W.findIn K (.ref C) "__class__" = some (some (.builtin "object.__class__"))) (cm : PySem.W.mroIn K C (.type "object") = some true) (mk : PySem.W.makesIn K C = true) (kc : PySem.W.keepIn K (.ref C) = true) : ClsCR K mg C :=
  ⟨⟨pg, hd, po, sa⟩, n1, n2, n3, n4, n5, n6, n7, ca, cm, mk, kc, PySem.W.mg_of X G aC⟩
theorem cls_mkCS {K : PySem.W.Frag} {h : Heap} {mg : Str → Option Value} {C : Addr} (X : K.In h) (G : h.Ns mainGlobals mg) (aC : PySem.W.nsIn K mainGlobals "Sewing" = some (some (.ref C)))
    (pg : PySem.W.plainGet K C Str.empty = true) (hd : PySem.W.hasDictIn K C = true) (po : PySem.W.plainOver K C = true) (sa : PySem.W.findIn K (.ref C) "__setattr__" = some (some (.builtin "object.__setattr__")))
    (n1 : PySem.W.findIn K (.ref C) "rims" = some none) (n2 : PySem.W.findIn K (.ref C) "mates" = some none) (n3 : PySem.W.findIn K (.ref C) "corners" = some none) (n4 : PySem.W.findIn K (.ref C) "cost" = some none) (n5 : PySem.W.findIn K (.ref C) "pieces" = some none) (n6 : PySem.W.findIn K (.ref C) "handles" = some none)
    (ca : PySem.W.findIn K (.ref C) "__class__" = some (some (.builtin "object.__class__"))) (cm : PySem.W.mroIn K C (.type "object") = some true) (mk : PySem.W.makesIn K C = true) (kc : PySem.W.keepIn K (.ref C) = true) : ClsCS K mg C :=
  ⟨⟨pg, hd, po, sa⟩, n1, n2, n3, n4, n5, n6, ca, cm, mk, kc, PySem.W.mg_of X G aC⟩
end W14

open PySem PySem.W PyProof.Rows in
set_option maxRecDepth 100000 in
set_option maxHeartbeats 0 in
theorem PySem.Challenge.cw_handlerims_k14_mates_exchanged_holds : PySem.Challenge.rw_handlerims_k14_mates_exchanged.Holds := by
  w_on; o_law; k_head; (case hw => w_witness2)
  k_fill
  refine RG.walkGT (l := PySem.Challenge.rw_handlerims_k14_mates_exchanged) (n := 63) (k := 12) (x := "_law_script") rfl (by decide) rfl ⟨rfl, by decide, by decide⟩ (fun w h Y => PySem.W.km_in_of Y) ?F
  case F =>
    intro w mg fa h Y KX G hmg
    have tabs := PySem.W.km_tabs_of Y
    have hlaw : mg "law" = some (.ref fa) := hmg
    clear hmg
    have hN : W14.Names mg := by
      refine' W14.names_mk KX G ?q_n0 ?q_n1 ?q_n2 ?q_n3 ?q_n4 ?q_n5 ?q_n6 ?q_n7 ?q_n8 ?q_n9 ?q_n10 ?q_n11 ?q_n12 ?q_n13 ?q_n14 ?q_n15 ?q_n16 ?q_g0 ?q_g1 ?q_g2 ?q_g3
      (case q_n0 => k_is)
      (case q_n1 => k_is)
      (case q_n2 => k_is)
      (case q_n3 => k_is)
      (case q_n4 => k_is)
      (case q_n5 => k_is)
      (case q_n6 => k_is)
      (case q_n7 => k_is)
      (case q_n8 => k_is)
      (case q_n9 => k_is)
      (case q_n10 => k_is)
      (case q_n11 => k_is)
      (case q_n12 => k_is)
      (case q_n13 => k_is)
      (case q_n14 => k_is)
      (case q_n15 => k_is)
      (case q_n16 => k_is)
      (case q_g0 => k_is)
      (case q_g1 => k_is)
      (case q_g2 => k_is)
      (case q_g3 => k_is)
    refine' W14.at_mk (P1 := 727) KX G hlaw hN ?q_D ?q_WC ?q_WCR ?q_WCS ?q_XS ?q_neR ?q_neS ?q_EB ?q_EM ?q_EN ?q_ET ?q_aH ?q_h1 ?q_h2 ?q_h3 ?q_kit1 ?q_kit2 ?q_kit3 ?q_kit4 ?q_kit5 ?q_kit6 ?q_aM ?q_m0 ?q_m1 ?q_m2 ?q_m3 ?q_m4 ?q_lM ?q_cM (tabs 727 (by decide)) ?q_aD ?q_lD ?q_eD ?q_kD ?q_hD ?q_nD
    case q_WC =>
      refine' W14.cls_mkC KX G ?q_CaC ?q_Cpg ?q_Chd ?q_Cpo ?q_Csa ?q_Cn1 ?q_Cn2 ?q_Cn3 ?q_Cn4 ?q_Cn5 ?q_Cca ?q_Ccm ?q_Cmk ?q_Ckc ?q_Ccn ?q_Cct
      (case q_CaC => first | k_is | kernel_rfl)
      (case q_Cpg => first | k_is | kernel_rfl)
      (case q_Chd => first | k_is | kernel_rfl)
      (case q_Cpo => first | k_is | kernel_rfl)
      (case q_Csa => first | k_is | kernel_rfl)
      (case q_Cn1 => first | k_is | kernel_rfl)
      (case q_Cn2 => first | k_is | kernel_rfl)
      (case q_Cn3 => first | k_is | kernel_rfl)
      (case q_Cn4 => first | k_is | kernel_rfl)
      (case q_Cn5 => first | k_is | kernel_rfl)
      (case q_Cca => first | k_is | kernel_rfl)
      (case q_Ccm => first | k_is | kernel_rfl)
      (case q_Cmk => first | k_is | kernel_rfl)
      (case q_Ckc => first | k_is | kernel_rfl)
      (case q_Ccn => first | k_is | kernel_rfl)
      (case q_Cct => first | k_is | kernel_rfl)
    case q_WCR =>
      refine' W14.cls_mkCR KX G ?q_CRaC ?q_CRpg ?q_CRhd ?q_CRpo ?q_CRsa ?q_CRn1 ?q_CRn2 ?q_CRn3 ?q_CRn4 ?q_CRn5 ?q_CRn6 ?q_CRn7 ?q_CRca ?q_CRcm ?q_CRmk ?q_CRkc
      (case q_CRaC => first | k_is | kernel_rfl)
      (case q_CRpg => first | k_is | kernel_rfl)
      (case q_CRhd => first | k_is | kernel_rfl)
      (case q_CRpo => first | k_is | kernel_rfl)
      (case q_CRsa => first | k_is | kernel_rfl)
      (case q_CRn1 => first | k_is | kernel_rfl)
      (case q_CRn2 => first | k_is | kernel_rfl)
      (case q_CRn3 => first | k_is | kernel_rfl)
      (case q_CRn4 => first | k_is | kernel_rfl)
      (case q_CRn5 => first | k_is | kernel_rfl)
      (case q_CRn6 => first | k_is | kernel_rfl)
      (case q_CRn7 => first | k_is | kernel_rfl)
      (case q_CRca => first | k_is | kernel_rfl)
      (case q_CRcm => first | k_is | kernel_rfl)
      (case q_CRmk => first | k_is | kernel_rfl)
      (case q_CRkc => first | k_is | kernel_rfl)
    case q_WCS =>
      refine' W14.cls_mkCS KX G ?q_CSaC ?q_CSpg ?q_CShd ?q_CSpo ?q_CSsa ?q_CSn1 ?q_CSn2 ?q_CSn3 ?q_CSn4 ?q_CSn5 ?q_CSn6 ?q_CSca ?q_CScm ?q_CSmk ?q_CSkc
      (case q_CSaC => first | k_is | kernel_rfl)
      (case q_CSpg => first | k_is | kernel_rfl)
      (case q_CShd => first | k_is | kernel_rfl)
      (case q_CSpo => first | k_is | kernel_rfl)
      (case q_CSsa => first | k_is | kernel_rfl)
      (case q_CSn1 => first | k_is | kernel_rfl)
      (case q_CSn2 => first | k_is | kernel_rfl)
      (case q_CSn3 => first | k_is | kernel_rfl)
      (case q_CSn4 => first | k_is | kernel_rfl)
      (case q_CSn5 => first | k_is | kernel_rfl)
      (case q_CSn6 => first | k_is | kernel_rfl)
      (case q_CSca => first | k_is | kernel_rfl)
      (case q_CScm => first | k_is | kernel_rfl)
      (case q_CSmk => first | k_is | kernel_rfl)
      (case q_CSkc => first | k_is | kernel_rfl)
    case q_D =>
      refine' { d_sIsInt := W14.ff_mk KX G ?q_a0 ?q_l0 ?q_c0 ?q_k0, d_sWithin := W14.ff_mk KX G ?q_a1 ?q_l1 ?q_c1 ?q_k1, d_sLetter := W14.ff_mk KX G ?q_a2 ?q_l2 ?q_c2 ?q_k2, d_sListed := W14.ff_mk KX G ?q_a3 ?q_l3 ?q_c3 ?q_k3, d_sAreI := W14.ff_mk KX G ?q_a4 ?q_l4 ?q_c4 ?q_k4, d_sShr := W14.ff_mk KX G ?q_a5 ?q_l5 ?q_c5 ?q_k5, d_sRnd := W14.ff_mk KX G ?q_a6 ?q_l6 ?q_c6 ?q_k6, d_sKinds := W14.ff_mk KX G ?q_a7 ?q_l7 ?q_c7 ?q_k7, d_sBalOf := W14.ff_mk KX G ?q_a8 ?q_l8 ?q_c8 ?q_k8, d_sPaired := W14.ff_mk KX G ?q_a9 ?q_l9 ?q_c9 ?q_k9, d_sJoined := W14.ff_mk KX G ?q_a10 ?q_l10 ?q_c10 ?q_k10, d_sFilled := W14.ff_mk KX G ?q_a11 ?q_l11 ?q_c11 ?q_k11, d_sFew := W14.ff_mk KX G ?q_a12 ?q_l12 ?q_c12 ?q_k12, d_sNeedB := W14.ff_mk KX G ?q_a13 ?q_l13 ?q_c13 ?q_k13, d_sNeedR := W14.ff_mk KX G ?q_a14 ?q_l14 ?q_c14 ?q_k14, d_sFewP := W14.ff_mk KX G ?q_a15 ?q_l15 ?q_c15 ?q_k15, d_sNexts := W14.ff_mk KX G ?q_a16 ?q_l16 ?q_c16 ?q_k16, d_sAreM := W14.ff_mk KX G ?q_a17 ?q_l17 ?q_c17 ?q_k17, d_sCorn := W14.ff_mk KX G ?q_a18 ?q_l18 ?q_c18 ?q_k18, d_sPieces := W14.ff_mk KX G ?q_a19 ?q_l19 ?q_c19 ?q_k19, d_sNeedS := W14.ff_mk KX G ?q_a20 ?q_l20 ?q_c20 ?q_k20, d_sNeedPX := W14.ff_mk KX G ?q_a21 ?q_l21 ?q_c21 ?q_k21, d_sMex := W14.ff_mk KX G ?q_a22 ?q_l22 ?q_c22 ?q_k22, d_sExch := W14.ff_mk KX G ?q_a23 ?q_l23 ?q_c23 ?q_k23, d_sJar := W14.ff_mk KX G ?q_a24 ?q_l24 ?q_c24 ?q_k24, d_sDraw := W14.ff_mk KX G ?q_a25 ?q_l25 ?q_c25 ?q_k25, d_sPick := W14.ff_mk KX G ?q_a26 ?q_l26 ?q_c26 ?q_k26, d_sMixed := W14.ff_mk KX G ?q_a27 ?q_l27 ?q_c27 ?q_k27, d_sCut := W14.ff_mk KX G ?q_a28 ?q_l28 ?q_c28 ?q_k28, d_sPlain := W14.ff_mk KX G ?q_a29 ?q_l29 ?q_c29 ?q_k29, d_sLRims := W14.ff_mk KX G ?q_a30 ?q_l30 ?q_c30 ?q_k30, d_sNx := W14.ff_mk KX G ?q_a31 ?q_l31 ?q_c31 ?q_k31, d_sCorL := W14.ff_mk KX G ?q_a32 ?q_l32 ?q_c32 ?q_k32, d_sLets := W14.ff_mk KX G ?q_a33 ?q_l33 ?q_c33 ?q_k33, d_sMates := W14.ff_mk KX G ?q_a34 ?q_l34 ?q_c34 ?q_k34, d_sFault := W14.ff_mk KX G ?q_a35 ?q_l35 ?q_c35 ?q_k35, d_sSwp := W14.ff_mk KX G ?q_a36 ?q_l36 ?q_c36 ?q_k36, d_sCpl := W14.ff_mk KX G ?q_a37 ?q_l37 ?q_c37 ?q_k37, d_sCost := W14.ff_mk KX G ?q_a38 ?q_l38 ?q_c38 ?q_k38, d_sER := W14.ff_mk KX G ?q_a39 ?q_l39 ?q_c39 ?q_k39, d_sTR := W14.ff_mk KX G ?q_a40 ?q_l40 ?q_c40 ?q_k40, d_sLaw := W14.ff_mk KX G ?q_a41 ?q_l41 ?q_c41 ?q_k41, m_sInit := W14.fm_mk ?q_ma0 ?q_mi0 ?q_ml0 ?q_mc0 ?q_mk0, m_sEq := W14.fm_mk ?q_ma1 ?q_mi1 ?q_ml1 ?q_mc1 ?q_mk1, m_sInitR := W14.fm_mk ?q_ma2 ?q_mi2 ?q_ml2 ?q_mc2 ?q_mk2, m_sEqR := W14.fm_mk ?q_ma3 ?q_mi3 ?q_ml3 ?q_mc3 ?q_mk3, m_sInitS := W14.fm_mk ?q_ma4 ?q_mi4 ?q_ml4 ?q_mc4 ?q_mk4, m_sEqSx := W14.fm_mk ?q_ma5 ?q_mi5 ?q_ml5 ?q_mc5 ?q_mk5 }
      (case q_a0 => k_is); (case q_l0 => k_is); (case q_c0 => k_is); (case q_k0 => k_is)
      (case q_a1 => k_is); (case q_l1 => k_is); (case q_c1 => k_is); (case q_k1 => k_is)
      (case q_a2 => k_is); (case q_l2 => k_is); (case q_c2 => k_is); (case q_k2 => k_is)
      (case q_a3 => k_is); (case q_l3 => k_is); (case q_c3 => k_is); (case q_k3 => k_is)
      (case q_a4 => k_is); (case q_l4 => k_is); (case q_c4 => k_is); (case q_k4 => k_is)
      (case q_a5 => k_is); (case q_l5 => k_is); (case q_c5 => k_is); (case q_k5 => k_is)
      (case q_a6 => k_is); (case q_l6 => k_is); (case q_c6 => k_is); (case q_k6 => k_is)
      (case q_a7 => k_is); (case q_l7 => k_is); (case q_c7 => k_is); (case q_k7 => k_is)
      (case q_a8 => k_is); (case q_l8 => k_is); (case q_c8 => k_is); (case q_k8 => k_is)
      (case q_a9 => k_is); (case q_l9 => k_is); (case q_c9 => k_is); (case q_k9 => k_is)
      (case q_a10 => k_is); (case q_l10 => k_is); (case q_c10 => k_is); (case q_k10 => k_is)
      (case q_a11 => k_is); (case q_l11 => k_is); (case q_c11 => k_is); (case q_k11 => k_is)
      (case q_a12 => k_is); (case q_l12 => k_is); (case q_c12 => k_is); (case q_k12 => k_is)
      (case q_a13 => k_is); (case q_l13 => k_is); (case q_c13 => k_is); (case q_k13 => k_is)
      (case q_a14 => k_is); (case q_l14 => k_is); (case q_c14 => k_is); (case q_k14 => k_is)
      (case q_a15 => k_is); (case q_l15 => k_is); (case q_c15 => k_is); (case q_k15 => k_is)
      (case q_a16 => k_is); (case q_l16 => k_is); (case q_c16 => k_is); (case q_k16 => k_is)
      (case q_a17 => k_is); (case q_l17 => k_is); (case q_c17 => k_is); (case q_k17 => k_is)
      (case q_a18 => k_is); (case q_l18 => k_is); (case q_c18 => k_is); (case q_k18 => k_is)
      (case q_a19 => k_is); (case q_l19 => k_is); (case q_c19 => k_is); (case q_k19 => k_is)
      (case q_a20 => k_is); (case q_l20 => k_is); (case q_c20 => k_is); (case q_k20 => k_is)
      (case q_a21 => k_is); (case q_l21 => k_is); (case q_c21 => k_is); (case q_k21 => k_is)
      (case q_a22 => k_is); (case q_l22 => k_is); (case q_c22 => k_is); (case q_k22 => k_is)
      (case q_a23 => k_is); (case q_l23 => k_is); (case q_c23 => k_is); (case q_k23 => k_is)
      (case q_a24 => k_is); (case q_l24 => k_is); (case q_c24 => k_is); (case q_k24 => k_is)
      (case q_a25 => k_is); (case q_l25 => k_is); (case q_c25 => k_is); (case q_k25 => k_is)
      (case q_a26 => k_is); (case q_l26 => k_is); (case q_c26 => k_is); (case q_k26 => k_is)
      (case q_a27 => k_is); (case q_l27 => k_is); (case q_c27 => k_is); (case q_k27 => k_is)
      (case q_a28 => k_is); (case q_l28 => k_is); (case q_c28 => k_is); (case q_k28 => k_is)
      (case q_a29 => k_is); (case q_l29 => k_is); (case q_c29 => k_is); (case q_k29 => k_is)
      (case q_a30 => k_is); (case q_l30 => k_is); (case q_c30 => k_is); (case q_k30 => k_is)
      (case q_a31 => k_is); (case q_l31 => k_is); (case q_c31 => k_is); (case q_k31 => k_is)
      (case q_a32 => k_is); (case q_l32 => k_is); (case q_c32 => k_is); (case q_k32 => k_is)
      (case q_a33 => k_is); (case q_l33 => k_is); (case q_c33 => k_is); (case q_k33 => k_is)
      (case q_a34 => k_is); (case q_l34 => k_is); (case q_c34 => k_is); (case q_k34 => k_is)
      (case q_a35 => k_is); (case q_l35 => k_is); (case q_c35 => k_is); (case q_k35 => k_is)
      (case q_a36 => k_is); (case q_l36 => k_is); (case q_c36 => k_is); (case q_k36 => k_is)
      (case q_a37 => k_is); (case q_l37 => k_is); (case q_c37 => k_is); (case q_k37 => k_is)
      (case q_a38 => k_is); (case q_l38 => k_is); (case q_c38 => k_is); (case q_k38 => k_is)
      (case q_a39 => k_is); (case q_l39 => k_is); (case q_c39 => k_is); (case q_k39 => k_is)
      (case q_a40 => k_is); (case q_l40 => k_is); (case q_c40 => k_is); (case q_k40 => k_is)
      (case q_a41 => k_is); (case q_l41 => k_is); (case q_c41 => k_is); (case q_k41 => k_is)
      (case q_ma0 => k_is); (case q_mi0 => k_is); (case q_ml0 => k_is); (case q_mc0 => k_is); (case q_mk0 => k_is)
      (case q_ma1 => k_is); (case q_mi1 => k_is); (case q_ml1 => k_is); (case q_mc1 => k_is); (case q_mk1 => k_is)
      (case q_ma2 => k_is); (case q_mi2 => k_is); (case q_ml2 => k_is); (case q_mc2 => k_is); (case q_mk2 => k_is)
      (case q_ma3 => k_is); (case q_mi3 => k_is); (case q_ml3 => k_is); (case q_mc3 => k_is); (case q_mk3 => k_is)
      (case q_ma4 => k_is); (case q_mi4 => k_is); (case q_ml4 => k_is); (case q_mc4 => k_is); (case q_mk4 => k_is)
      (case q_ma5 => k_is); (case q_mi5 => k_is); (case q_ml5 => k_is); (case q_mc5 => k_is); (case q_mk5 => k_is)
    (case q_neR => first | k_is | kernel_rfl | rfl)
    (case q_neS => first | k_is | kernel_rfl | rfl)
    case q_XS =>
      refine' ⟨?q_x0, ?q_x1, ?q_x2, ?q_x3, ?q_x4, ?q_x5, ?q_x6⟩
      (case q_x0 => first | k_is | kernel_rfl | rfl)
      (case q_x1 => first | k_is | kernel_rfl | rfl)
      (case q_x2 => first | k_is | kernel_rfl | rfl)
      (case q_x3 => first | k_is | kernel_rfl | rfl)
      (case q_x4 => first | k_is | kernel_rfl | rfl)
      (case q_x5 => first | k_is | kernel_rfl | rfl)
      (case q_x6 => first | k_is | kernel_rfl | rfl)
    (case q_aH => k_is); (case q_h1 => k_is); (case q_h2 => k_is); (case q_h3 => k_is)
    case q_EB =>
      refine' W14.errx_mk KX G ?q_BaC ?q_BxL ?q_Brv ?q_Bsa ?q_Bga ?q_Bgg ?q_Bi1 ?q_Bt1 ?q_Bfn ?q_Bl1 ?q_Bc1 ?q_Bk1 ?q_BkC ?q_BeC ?q_BtC ?q_BhC ?q_BiC ?q_BsC ?q_Bfl ?q_Bnt ?q_Bcc ?q_Bmo ?q_Bsb
      (case q_BaC => first | k_is | decide +kernel | kernel_rfl | rfl)
      (case q_BxL => first | k_is | decide +kernel | kernel_rfl | rfl)
      (case q_Brv => first | k_is | decide +kernel | kernel_rfl | rfl)
      (case q_Bsa => first | k_is | decide +kernel | kernel_rfl | rfl)
      (case q_Bga => first | k_is | decide +kernel | kernel_rfl | rfl)
      (case q_Bgg => first | k_is | decide +kernel | kernel_rfl | rfl)
      (case q_Bi1 => first | k_is | decide +kernel | kernel_rfl | rfl)
      (case q_Bt1 => first | k_is | decide +kernel | kernel_rfl | rfl)
      (case q_Bfn => first | k_is | decide +kernel | kernel_rfl | rfl)
      (case q_Bl1 => first | k_is | decide +kernel | kernel_rfl | rfl)
      (case q_Bc1 => first | k_is | decide +kernel | kernel_rfl | rfl)
      (case q_Bk1 => first | k_is | decide +kernel | kernel_rfl | rfl)
      (case q_BkC => first | k_is | decide +kernel | kernel_rfl | rfl)
      (case q_BeC => first | k_is | decide +kernel | kernel_rfl | rfl)
      (case q_BtC => first | k_is | decide +kernel | kernel_rfl | rfl)
      (case q_BhC => first | k_is | decide +kernel | kernel_rfl | rfl)
      (case q_BiC => first | k_is | decide +kernel | kernel_rfl | rfl)
      (case q_BsC => first | k_is | decide +kernel | kernel_rfl | rfl)
      (case q_Bfl => first | k_is | decide +kernel | kernel_rfl | rfl)
      (case q_Bnt => first | k_is | decide +kernel | kernel_rfl | rfl)
      (case q_Bcc => first | k_is | decide +kernel | kernel_rfl | rfl)
      (case q_Bmo => first | k_is | decide +kernel | kernel_rfl | rfl)
      (case q_Bsb => first | k_is | kernel_rfl | rfl)
    case q_EM =>
      refine' W14.errx_mk KX G ?q_MaC ?q_MxL ?q_Mrv ?q_Msa ?q_Mga ?q_Mgg ?q_Mi1 ?q_Mt1 ?q_Mfn ?q_Ml1 ?q_Mc1 ?q_Mk1 ?q_MkC ?q_MeC ?q_MtC ?q_MhC ?q_MiC ?q_MsC ?q_Mfl ?q_Mnt ?q_Mcc ?q_Mmo ?q_Msb
      (case q_MaC => first | k_is | decide +kernel | kernel_rfl | rfl)
      (case q_MxL => first | k_is | decide +kernel | kernel_rfl | rfl)
      (case q_Mrv => first | k_is | decide +kernel | kernel_rfl | rfl)
      (case q_Msa => first | k_is | decide +kernel | kernel_rfl | rfl)
      (case q_Mga => first | k_is | decide +kernel | kernel_rfl | rfl)
      (case q_Mgg => first | k_is | decide +kernel | kernel_rfl | rfl)
      (case q_Mi1 => first | k_is | decide +kernel | kernel_rfl | rfl)
      (case q_Mt1 => first | k_is | decide +kernel | kernel_rfl | rfl)
      (case q_Mfn => first | k_is | decide +kernel | kernel_rfl | rfl)
      (case q_Ml1 => first | k_is | decide +kernel | kernel_rfl | rfl)
      (case q_Mc1 => first | k_is | decide +kernel | kernel_rfl | rfl)
      (case q_Mk1 => first | k_is | decide +kernel | kernel_rfl | rfl)
      (case q_MkC => first | k_is | decide +kernel | kernel_rfl | rfl)
      (case q_MeC => first | k_is | decide +kernel | kernel_rfl | rfl)
      (case q_MtC => first | k_is | decide +kernel | kernel_rfl | rfl)
      (case q_MhC => first | k_is | decide +kernel | kernel_rfl | rfl)
      (case q_MiC => first | k_is | decide +kernel | kernel_rfl | rfl)
      (case q_MsC => first | k_is | decide +kernel | kernel_rfl | rfl)
      (case q_Mfl => first | k_is | decide +kernel | kernel_rfl | rfl)
      (case q_Mnt => first | k_is | decide +kernel | kernel_rfl | rfl)
      (case q_Mcc => first | k_is | decide +kernel | kernel_rfl | rfl)
      (case q_Mmo => first | k_is | decide +kernel | kernel_rfl | rfl)
      (case q_Msb => first | k_is | kernel_rfl | rfl)
    case q_EN =>
      refine' W14.errx_mk KX G ?q_NaC ?q_NxL ?q_Nrv ?q_Nsa ?q_Nga ?q_Ngg ?q_Ni1 ?q_Nt1 ?q_Nfn ?q_Nl1 ?q_Nc1 ?q_Nk1 ?q_NkC ?q_NeC ?q_NtC ?q_NhC ?q_NiC ?q_NsC ?q_Nfl ?q_Nnt ?q_Ncc ?q_Nmo ?q_Nsb
      (case q_NaC => first | k_is | decide +kernel | kernel_rfl | rfl)
      (case q_NxL => first | k_is | decide +kernel | kernel_rfl | rfl)
      (case q_Nrv => first | k_is | decide +kernel | kernel_rfl | rfl)
      (case q_Nsa => first | k_is | decide +kernel | kernel_rfl | rfl)
      (case q_Nga => first | k_is | decide +kernel | kernel_rfl | rfl)
      (case q_Ngg => first | k_is | decide +kernel | kernel_rfl | rfl)
      (case q_Ni1 => first | k_is | decide +kernel | kernel_rfl | rfl)
      (case q_Nt1 => first | k_is | decide +kernel | kernel_rfl | rfl)
      (case q_Nfn => first | k_is | decide +kernel | kernel_rfl | rfl)
      (case q_Nl1 => first | k_is | decide +kernel | kernel_rfl | rfl)
      (case q_Nc1 => first | k_is | decide +kernel | kernel_rfl | rfl)
      (case q_Nk1 => first | k_is | decide +kernel | kernel_rfl | rfl)
      (case q_NkC => first | k_is | decide +kernel | kernel_rfl | rfl)
      (case q_NeC => first | k_is | decide +kernel | kernel_rfl | rfl)
      (case q_NtC => first | k_is | decide +kernel | kernel_rfl | rfl)
      (case q_NhC => first | k_is | decide +kernel | kernel_rfl | rfl)
      (case q_NiC => first | k_is | decide +kernel | kernel_rfl | rfl)
      (case q_NsC => first | k_is | decide +kernel | kernel_rfl | rfl)
      (case q_Nfl => first | k_is | decide +kernel | kernel_rfl | rfl)
      (case q_Nnt => first | k_is | decide +kernel | kernel_rfl | rfl)
      (case q_Ncc => first | k_is | decide +kernel | kernel_rfl | rfl)
      (case q_Nmo => first | k_is | decide +kernel | kernel_rfl | rfl)
      (case q_Nsb => first | k_is | kernel_rfl | rfl)
    case q_ET =>
      refine' W14.errx_mk KX G ?q_TaC ?q_TxL ?q_Trv ?q_Tsa ?q_Tga ?q_Tgg ?q_Ti1 ?q_Tt1 ?q_Tfn ?q_Tl1 ?q_Tc1 ?q_Tk1 ?q_TkC ?q_TeC ?q_TtC ?q_ThC ?q_TiC ?q_TsC ?q_Tfl ?q_Tnt ?q_Tcc ?q_Tmo ?q_Tsb
      (case q_TaC => first | k_is | decide +kernel | kernel_rfl | rfl)
      (case q_TxL => first | k_is | decide +kernel | kernel_rfl | rfl)
      (case q_Trv => first | k_is | decide +kernel | kernel_rfl | rfl)
      (case q_Tsa => first | k_is | decide +kernel | kernel_rfl | rfl)
      (case q_Tga => first | k_is | decide +kernel | kernel_rfl | rfl)
      (case q_Tgg => first | k_is | decide +kernel | kernel_rfl | rfl)
      (case q_Ti1 => first | k_is | decide +kernel | kernel_rfl | rfl)
      (case q_Tt1 => first | k_is | decide +kernel | kernel_rfl | rfl)
      (case q_Tfn => first | k_is | decide +kernel | kernel_rfl | rfl)
      (case q_Tl1 => first | k_is | decide +kernel | kernel_rfl | rfl)
      (case q_Tc1 => first | k_is | decide +kernel | kernel_rfl | rfl)
      (case q_Tk1 => first | k_is | decide +kernel | kernel_rfl | rfl)
      (case q_TkC => first | k_is | decide +kernel | kernel_rfl | rfl)
      (case q_TeC => first | k_is | decide +kernel | kernel_rfl | rfl)
      (case q_TtC => first | k_is | decide +kernel | kernel_rfl | rfl)
      (case q_ThC => first | k_is | decide +kernel | kernel_rfl | rfl)
      (case q_TiC => first | k_is | decide +kernel | kernel_rfl | rfl)
      (case q_TsC => first | k_is | decide +kernel | kernel_rfl | rfl)
      (case q_Tfl => first | k_is | decide +kernel | kernel_rfl | rfl)
      (case q_Tnt => first | k_is | decide +kernel | kernel_rfl | rfl)
      (case q_Tcc => first | k_is | decide +kernel | kernel_rfl | rfl)
      (case q_Tmo => first | k_is | decide +kernel | kernel_rfl | rfl)
      (case q_Tsb => first | k_is | kernel_rfl | rfl)
    (case q_kit1 => first | k_is | kernel_rfl | rfl)
    (case q_kit2 => first | k_is | kernel_rfl | rfl)
    (case q_kit3 => first | k_is | kernel_rfl | rfl)
    (case q_kit4 => first | k_is | kernel_rfl | rfl)
    (case q_kit5 => first | k_is | kernel_rfl | rfl)
    (case q_kit6 => first | k_is | kernel_rfl | rfl)
    (case q_aM => k_is); (case q_m0 => k_is); (case q_m2 => k_is); (case q_m1 => first | k_is | kernel_rfl | rfl); (case q_m3 => first | k_is | kernel_rfl | rfl); (case q_m4 => k_is); (case q_lM => k_is); (case q_cM => k_is)
    (case q_aD => k_is); (case q_lD => k_is); (case q_eD => k_is); (case q_kD => k_is); (case q_hD => first | kernel_rfl | with_unfolding_all rfl); (case q_nD => first | rfl | k_is)
