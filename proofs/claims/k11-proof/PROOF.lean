import PyProof.Rows.All
import Wide.All
import OpenK.AllK
import Wide.FinOn
import HandS.ForMost
import HandS.Strs
import HandS.SetBool
import HandS.TupAny
import HandS.TupMul
import KE.KRevSl
import HandS.Exc
import HandS.TryOnly
import HandS.ExcOwn
import HandS.WordsExc
import HandS.Wide
import HandS.IsInst
import HandS.Style
import HandS.Flow
import HandS.Evl
import HandS.MakeKwOnly
import HandS.Walk
import KE.KEqSeq
import HandS.OwnEq
import HandS.More
import PyProof.InstNe
import HandS.ClsMeth
import OpenK.KDescr
import KE.KCallOwn
import PyProof.StrLawsChain
import HandS.Codes
import PyProof.ReprRoads
import HandS.SetFor
import HandS.TupSets
import HandS.SetKeys
import HandS.Dict
import HandS.Iter
import HandS.Deep
import HandS.ReCall
import HandS.Conv
import KE.GoesMore
import HandS.Gcd
import HandS.Base
import HandS.Call
import HandS.Zip
import HandS.ExcInit
import HandS.ExcField
import HandS.ExcIs
import HandS.ExcValue
import HandS.RaiseMore
import PyProof.CallFns
import HandS.Lambda
import HandS.EndTab
import KE.KNestM
import HandS.StrMore
import PySem.Challenge.RW_handlerims_k11_rims_made_read_and_refuse
set_option Elab.async false
set_option linter.all false
/-! Rows of letters, shortened: neighbours that are contraries taken out. -/
namespace Fr

/-- a letter laid on what is left, its last one in front -/
def push : List Int → Int → List Int
  | [], a => [a]
  | b :: t, a => if b = -a then t else a :: b :: t

def act (s : List Int) (xs : List Int) : List Int := xs.foldl push s

/-- no neighbours are contraries -/
def Rd : List Int → Prop
  | [] => True
  | [_] => True
  | a :: b :: t => a ≠ -b ∧ Rd (b :: t)

/-- what is left of a row of letters -/
def shr (xs : List Int) : List Int := (act [] xs).reverse

/-- the contraries, the last one first -/
def con (xs : List Int) : List Int := xs.reverse.map (fun a => -a)

/-- so many times -/
def rep : Nat → List Int → List Int
  | 0, _ => []
  | n + 1, xs => xs ++ rep n xs

theorem Rd.tail {a : Int} {t : List Int} (h : Rd (a :: t)) : Rd t := by
  cases t with
  | nil => trivial
  | cons b u => exact h.2

theorem push_rd {s : List Int} (a : Int) (h : Rd s) : Rd (push s a) := by
  cases s with
  | nil => trivial
  | cons b t =>
    show Rd (if b = -a then t else a :: b :: t)
    by_cases e : b = -a
    · rw [if_pos e]; exact h.tail
    · rw [if_neg e]
      refine ⟨?_, h⟩
      omega

theorem push_push {s : List Int} (a : Int) (h : Rd s) : push (push s a) (-a) = s := by
  cases s with
  | nil => simp [push]
  | cons b t =>
    by_cases e : b = -a
    · have h1 : push (b :: t) a = t := by simp [push, e]
      rw [h1]
      cases t with
      | nil => simp [push, e]
      | cons c u =>
        have hc : c ≠ - -a := by
          intro hc
          exact h.1 (by omega)
        simp [push, e]
        omega
    · have h1 : push (b :: t) a = a :: b :: t := by simp [push, e]
      rw [h1]
      simp [push]

theorem push_push' {s : List Int} (a : Int) (h : Rd s) : push (push s (-a)) a = s := by
  have := push_push (-a) h
  rwa [Int.neg_neg] at this

theorem act_nil (s : List Int) : act s [] = s := rfl
theorem act_cons (s : List Int) (a : Int) (t : List Int) : act s (a :: t) = act (push s a) t := rfl
theorem act_append (s xs ys : List Int) : act s (xs ++ ys) = act (act s xs) ys := List.foldl_append
theorem act_snoc (s xs : List Int) (a : Int) : act s (xs ++ [a]) = push (act s xs) a := act_append s xs [a]

theorem act_rd : ∀ {xs s : List Int}, Rd s → Rd (act s xs)
  | [], _, h => h
  | a :: t, _, h => act_rd (xs := t) (push_rd a h)

/-- two rows are one and the same when they act alike -/
def Sm (xs ys : List Int) : Prop := ∀ s, Rd s → act s xs = act s ys

theorem Sm.refl (xs : List Int) : Sm xs xs := fun _ _ => rfl
theorem Sm.symm {xs ys : List Int} (h : Sm xs ys) : Sm ys xs := fun s r => (h s r).symm
theorem Sm.trans {xs ys zs : List Int} (h : Sm xs ys) (k : Sm ys zs) : Sm xs zs := fun s r => (h s r).trans (k s r)
theorem Sm.app {xs ys us vs : List Int} (h : Sm xs ys) (k : Sm us vs) : Sm (xs ++ us) (ys ++ vs) := fun s r => by
  rw [act_append, act_append, h s r, k _ (act_rd r)]
theorem Sm.out (a : Int) : Sm [a, -a] [] := fun s r => push_push a r
theorem Sm.out' (a : Int) : Sm [-a, a] [] := fun s r => push_push' a r
theorem Sm.mid {xs us vs ys : List Int} (h : Sm us vs) : Sm (xs ++ us ++ ys) (xs ++ vs ++ ys) := ((Sm.refl xs).app h).app (Sm.refl ys)

/-- what is left acts as the whole did -/
theorem sm_stack : ∀ xs : List Int, Sm (act [] xs).reverse xs := by
  intro xs
  have gen : ∀ (n : Nat) (xs : List Int), xs.length = n → Sm (act [] xs).reverse xs := by
    intro n
    induction n with
    | zero =>
      intro xs h
      cases xs with
      | nil => exact Sm.refl _
      | cons a t => simp at h
    | succ n ih =>
      intro xs h
      obtain ⟨ys, a, rfl⟩ : ∃ ys a, xs = ys ++ [a] := by
        refine ⟨xs.dropLast, xs.getLast (by intro e; rw [e] at h; simp at h), ?_⟩
        exact (List.dropLast_concat_getLast _).symm
      have hy : ys.length = n := by simp at h; exact h
      have k := ih ys hy
      intro s r
      rw [act_snoc, act_snoc]
      cases e : act [] ys with
      | nil =>
        have k2 := k s r
        rw [e] at k2
        rw [← k2]
        rfl
      | cons b t =>
        have k2 := k s r
        rw [e, List.reverse_cons, act_snoc] at k2
        rw [← k2]
        by_cases eb : b = -a
        · have h1 : push (b :: t) a = t := by simp [push, eb]
          rw [h1, eb]
          exact (push_push' a (act_rd r)).symm
        · have h1 : push (b :: t) a = a :: b :: t := by simp [push, eb]
          rw [h1, List.reverse_cons, List.reverse_cons, act_snoc, act_snoc]
  exact gen _ xs rfl

theorem sm_shr (xs : List Int) : Sm (shr xs) xs := sm_stack xs
theorem shr_of_sm {xs ys : List Int} (h : Sm xs ys) : shr xs = shr ys := by
  unfold shr
  rw [h [] trivial]
theorem sm_of_shr {xs ys : List Int} (h : shr xs = shr ys) : Sm xs ys := by
  refine (sm_shr xs).symm.trans ?_
  rw [h]
  exact sm_shr ys
theorem shr_shr (xs : List Int) : shr (shr xs) = shr xs := shr_of_sm (sm_shr xs)
theorem shr_app (xs ys : List Int) : shr (shr xs ++ shr ys) = shr (xs ++ ys) := shr_of_sm ((sm_shr xs).app (sm_shr ys))
theorem shr_out (xs : List Int) (a : Int) (ys : List Int) : shr (xs ++ a :: -a :: ys) = shr (xs ++ ys) := by
  refine shr_of_sm ?_
  have h : Sm (xs ++ [a, -a] ++ ys) (xs ++ [] ++ ys) := Sm.mid (Sm.out a)
  simpa using h

/-! ### short ones -/
theorem rd_cons {a : Int} {t : List Int} : Rd (a :: t) ↔ (∀ b, t.head? = some b → a ≠ -b) ∧ Rd t := by
  cases t with
  | nil => simp [Rd]
  | cons b u => simp [Rd]
theorem rd_append {xs ys : List Int} : Rd (xs ++ ys) ↔ Rd xs ∧ Rd ys ∧ ∀ a b, xs.getLast? = some a → ys.head? = some b → a ≠ -b := by
  induction xs with
  | nil => simp [Rd]
  | cons x t ih =>
    rw [List.cons_append, rd_cons, rd_cons, ih]
    cases t with
    | nil =>
      simp [Rd]
      constructor
      · rintro ⟨h1, h2⟩
        exact ⟨h2, fun a b ha hb => ha ▸ h1 b hb⟩
      · rintro ⟨h1, h2⟩
        exact ⟨fun b hb => h2 x b rfl hb, h1⟩
    | cons y u =>
      simp [List.getLast?_cons_cons]
      constructor
      · rintro ⟨h1, h2, h3, h4⟩
        exact ⟨⟨h1, h2⟩, h3, h4⟩
      · rintro ⟨⟨h1, h2⟩, h3, h4⟩
        exact ⟨h1, h2, h3, h4⟩
theorem rd_reverse {xs : List Int} : Rd xs.reverse ↔ Rd xs := by
  induction xs with
  | nil => simp [Rd]
  | cons x t ih =>
    rw [List.reverse_cons, rd_append, ih, rd_cons (a := x) (t := t)]
    have one : Rd [x] := trivial
    simp [one]
    constructor
    · rintro ⟨h1, h2⟩
      refine ⟨fun b hb => ?_, h1⟩
      have := h2 b hb
      omega
    · rintro ⟨h1, h2⟩
      refine ⟨h2, fun b hb => ?_⟩
      have := h1 b hb
      omega
theorem rd_shr (xs : List Int) : Rd (shr xs) := rd_reverse.2 (act_rd trivial)
theorem act_short : ∀ (xs s : List Int), Rd (s.reverse ++ xs) → act s xs = xs.reverse ++ s
  | [], s, _ => by simp [act]
  | a :: t, s, h => by
    rw [act_cons]
    have hp : push s a = a :: s := by
      cases s with
      | nil => rfl
      | cons b u =>
        have h3 := (rd_append.1 h).2.2 b a (by simp) (by simp)
        show (if b = -a then u else a :: b :: u) = _
        rw [if_neg h3]
    rw [hp, act_short t (a :: s) (by simpa using h)]
    simp
theorem shr_short {xs : List Int} (h : Rd xs) : shr xs = xs := by
  unfold shr
  rw [act_short xs [] (by simpa using h)]
  simp
theorem shr_iff {xs : List Int} : shr xs = xs ↔ Rd xs := ⟨fun h => h ▸ rd_shr xs, shr_short⟩
/-- a short one that acts alike is what is left -/
theorem shr_eq {xs ys : List Int} (h : Sm xs ys) (r : Rd ys) : shr xs = ys := (shr_of_sm h).trans (shr_short r)

/-! ### contraries -/
theorem con_nil : con [] = [] := rfl
theorem con_cons (a : Int) (t : List Int) : con (a :: t) = con t ++ [-a] := by simp [con]
theorem con_append (xs ys : List Int) : con (xs ++ ys) = con ys ++ con xs := by simp [con]
theorem con_con (xs : List Int) : con (con xs) = xs := by
  simp [con, List.map_reverse, Function.comp_def]
theorem con_length (xs : List Int) : (con xs).length = xs.length := by simp [con]
theorem con_head (xs : List Int) : (con xs).head? = xs.getLast?.map fun a => -a := by
  simp [con]
theorem con_last (xs : List Int) : (con xs).getLast? = xs.head?.map fun a => -a := by
  simp [con, List.map_reverse]
theorem sm_con : ∀ xs : List Int, Sm (xs ++ con xs) []
  | [] => Sm.refl _
  | a :: t => by
    rw [con_cons]
    have h : Sm ([a] ++ (t ++ con t) ++ [-a]) ([a] ++ [] ++ [-a]) := Sm.mid (sm_con t)
    have k : Sm ([a] ++ [] ++ [-a]) [] := Sm.out a
    have := h.trans k
    simpa using this
theorem sm_con' (xs : List Int) : Sm (con xs ++ xs) [] := by
  have := sm_con (con xs)
  rwa [con_con] at this
theorem Sm.con {xs ys : List Int} (h : Sm xs ys) : Sm (con xs) (con ys) := by
  have h1 : Sm (Fr.con xs ++ (ys ++ Fr.con ys)) (Fr.con xs ++ []) := (Sm.refl _).app (sm_con ys)
  have h2 : Sm (Fr.con xs ++ ys ++ Fr.con ys) (Fr.con xs ++ xs ++ Fr.con ys) := Sm.mid h.symm
  have h3 : Sm (Fr.con xs ++ xs ++ Fr.con ys) ([] ++ Fr.con ys) := (sm_con' xs).app (Sm.refl _)
  rw [List.append_nil, ← List.append_assoc] at h1
  exact (h1.symm.trans h2).trans h3
theorem rd_con {xs : List Int} : Rd (con xs) ↔ Rd xs := by
  have one : ∀ xs : List Int, Rd xs → Rd (con xs) := by
    intro xs
    induction xs with
    | nil => exact fun _ => trivial
    | cons a t ih =>
      intro h
      rw [con_cons, rd_append]
      refine ⟨ih h.tail, trivial, fun x y hx hy => ?_⟩
      rw [con_last] at hx
      cases t with
      | nil => simp at hx
      | cons b u =>
        simp at hx hy
        have := h.1
        omega
  refine ⟨fun h => ?_, one xs⟩
  have := one _ h
  rwa [con_con] at this
theorem shr_con (xs : List Int) : shr (con xs) = con (shr xs) := shr_eq (sm_shr xs).con.symm (rd_con.2 (rd_shr xs))

/-! ### so many times -/
theorem rep_zero (xs : List Int) : rep 0 xs = [] := rfl
theorem rep_succ (n : Nat) (xs : List Int) : rep (n + 1) xs = xs ++ rep n xs := rfl
theorem rep_one (xs : List Int) : rep 1 xs = xs := by simp [rep]
theorem rep_add (m n : Nat) (xs : List Int) : rep (m + n) xs = rep m xs ++ rep n xs := by
  induction m with
  | zero => simp [rep]
  | succ m ih => rw [Nat.succ_add, rep_succ, rep_succ, ih, List.append_assoc]
theorem rep_length (n : Nat) (xs : List Int) : (rep n xs).length = n * xs.length := by
  induction n with
  | zero => simp [rep]
  | succ n ih => rw [rep_succ, List.length_append, ih, Nat.succ_mul, Nat.add_comm]
theorem rep_nil (n : Nat) : rep n [] = [] := by
  induction n with
  | zero => rfl
  | succ n ih => rw [rep_succ, ih]; rfl
theorem Sm.rep {xs ys : List Int} (h : Sm xs ys) (n : Nat) : Sm (rep n xs) (rep n ys) := by
  induction n with
  | zero => exact Sm.refl _
  | succ n ih => exact h.app ih
theorem shr_rep (n : Nat) (xs : List Int) : shr (rep n (shr xs)) = shr (rep n xs) := shr_of_sm ((sm_shr xs).rep n)
theorem rep_succ' (n : Nat) (xs : List Int) : rep (n + 1) xs = rep n xs ++ xs := by
  rw [rep_add n 1, rep_one]
theorem con_rep (n : Nat) (xs : List Int) : con (rep n xs) = rep n (con xs) := by
  induction n with
  | zero => rfl
  | succ n ih => rw [rep_succ, con_append, ih, ← rep_succ']

/-! ### the ends -/
/-- short, and its ends are no contraries -/
def Cy (w : List Int) : Prop := Rd w ∧ ∀ a b, w.head? = some a → w.getLast? = some b → a ≠ -b
/-- no letter is 0 -/
def NZ (xs : List Int) : Prop := ∀ a ∈ xs, a ≠ 0
theorem cy_nil : Cy [] := ⟨trivial, fun a b h => by simp at h⟩
theorem NZ.app {xs ys : List Int} (h : NZ xs) (k : NZ ys) : NZ (xs ++ ys) := fun a ha => by
  rcases List.mem_append.1 ha with h1 | h1
  · exact h a h1
  · exact k a h1
theorem NZ.left {xs ys : List Int} (h : NZ (xs ++ ys)) : NZ xs := fun a ha => h a (List.mem_append_left _ ha)
theorem NZ.right {xs ys : List Int} (h : NZ (xs ++ ys)) : NZ ys := fun a ha => h a (List.mem_append_right _ ha)
theorem NZ.con {xs : List Int} (h : NZ xs) : NZ (con xs) := fun a ha => by
  unfold Fr.con at ha
  obtain ⟨b, hb, rfl⟩ := List.mem_map.1 ha
  have := h b (List.mem_reverse.1 hb)
  omega
theorem push_mem {s : List Int} {a x : Int} (h : x ∈ push s a) : x = a ∨ x ∈ s := by
  cases s with
  | nil => left; simpa [push] using h
  | cons b t =>
    have h2 : x ∈ (if b = -a then t else a :: b :: t) := h
    by_cases e : b = -a
    · rw [if_pos e] at h2; exact .inr (List.mem_cons_of_mem _ h2)
    · rw [if_neg e] at h2
      rcases List.mem_cons.1 h2 with h3 | h3
      · exact .inl h3
      · exact .inr h3
theorem act_mem : ∀ {xs s : List Int} {x : Int}, x ∈ act s xs → x ∈ xs ∨ x ∈ s
  | [], _, _, h => .inr h
  | a :: t, s, x, h => by
    rw [act_cons] at h
    rcases act_mem h with h1 | h1
    · exact .inl (List.mem_cons_of_mem _ h1)
    · rcases push_mem h1 with h2 | h2
      · exact .inl (h2 ▸ List.mem_cons_self)
      · exact .inr h2
theorem shr_mem {xs : List Int} {x : Int} (h : x ∈ shr xs) : x ∈ xs := by
  unfold shr at h
  rcases act_mem (List.mem_reverse.1 h) with h1 | h1
  · exact h1
  · simp at h1
theorem NZ.shr {xs : List Int} (h : NZ xs) : NZ (shr xs) := fun a ha => h a (shr_mem ha)

/-- a row between a letter and its contrary, or one that has no such ends -/
theorem ends_or (xs : List Int) (nz : NZ xs) : (∃ a m, xs = a :: (m ++ [-a])) ∨ ∀ a b, xs.head? = some a → xs.getLast? = some b → a ≠ -b := by
  cases xs with
  | nil => right; intro a b h; simp at h
  | cons a t =>
    by_cases ht : t = []
    · subst ht
      right
      intro x y hx hy
      simp at hx hy
      have := nz a (by simp)
      omega
    · have e := List.dropLast_concat_getLast ht
      by_cases hb : t.getLast ht = -a
      · left
        refine ⟨a, t.dropLast, ?_⟩
        rw [← hb, e]
      · right
        intro x y hx hy
        rw [← e] at hy
        rw [show a :: (t.dropLast ++ [t.getLast ht]) = (a :: t.dropLast) ++ [t.getLast ht] from rfl] at hy
        rw [List.getLast?_append] at hy
        simp at hx hy
        omega
/-- every short row is a row, one that is short round, and the contrary of the first -/
theorem parted (xs : List Int) (nz : NZ xs) (r : Rd xs) : ∃ u w, xs = u ++ w ++ con u ∧ Cy w ∧ (w = [] → u = []) := by
  have gen : ∀ (n : Nat) (xs : List Int), xs.length ≤ n → NZ xs → Rd xs → ∃ u w, xs = u ++ w ++ con u ∧ Cy w ∧ (w = [] → u = []) := by
    intro n
    induction n with
    | zero =>
      intro xs h _ _
      have : xs = [] := List.length_eq_zero_iff.1 (by omega)
      subst this
      exact ⟨[], [], rfl, cy_nil, fun _ => rfl⟩
    | succ n ih =>
      intro xs h nz r
      rcases ends_or xs nz with ⟨a, m, rfl⟩ | k
      · have hr : Rd (m ++ [-a]) := r.tail
        have hm : Rd m := (rd_append.1 hr).1
        obtain ⟨u, w, e, c, z⟩ := ih m (by simp at h; omega) (fun x hx => nz x (by simp [hx])) hm
        have hne : m ≠ [] := by
          intro e0
          subst e0
          have := r.1
          simp at this
        refine ⟨a :: u, w, ?_, c, fun hw => ?_⟩
        · rw [con_cons, e]; simp
        · exfalso
          have hu := z hw
          subst hw hu
          exact hne (by simpa [con] using e)
      · exact ⟨[], xs, by simp [con], ⟨r, k⟩, fun _ => rfl⟩
  exact gen xs.length xs (Nat.le_refl _) nz r

/-- the ends off, as long as they are contraries -/
def endsN : Nat → List Int → List Int
  | 0, xs => xs
  | n + 1, xs => if 1 < xs.length ∧ xs.head? = xs.getLast?.map (fun a => -a) then endsN n xs.tail.dropLast else xs
def ends (xs : List Int) : List Int := endsN xs.length xs
theorem endsN_cy : ∀ (n : Nat) {w : List Int}, Cy w → endsN n w = w
  | 0, _, _ => rfl
  | n + 1, w, h => by
    unfold endsN
    rw [if_neg]
    rintro ⟨h1, h2⟩
    cases e : w.getLast? with
    | none =>
      rw [List.getLast?_eq_none_iff] at e
      subst e
      simp at h1
    | some b =>
      rw [e] at h2
      exact h.2 (-b) b h2 e rfl
theorem endsN_eq : ∀ (n : Nat) (u w : List Int), Cy w → u.length ≤ n → (w = [] → u = []) → endsN n (u ++ w ++ con u) = w
  | n, [], w, c, _, _ => by
    simp [con]
    exact endsN_cy n c
  | 0, a :: u, w, c, h, _ => by simp at h
  | n + 1, a :: u, w, c, h, z => by
    have e : (a :: u) ++ w ++ con (a :: u) = a :: ((u ++ w ++ con u) ++ [-a]) := by
      rw [con_cons]; simp
    rw [e]
    unfold endsN
    rw [if_pos]
    · rw [List.tail_cons, List.dropLast_concat]
      refine endsN_eq n u w c (by simp at h; exact h) fun hw => ?_
      have := z hw
      simp at this
    · constructor
      · simp only [List.length_cons, List.length_append, List.length_nil]; omega
      · rw [show a :: ((u ++ w ++ con u) ++ [-a]) = (a :: (u ++ w ++ con u)) ++ [-a] from rfl, List.getLast?_append]
        simp
theorem ends_eq {u w : List Int} (c : Cy w) (z : w = [] → u = []) : ends (u ++ w ++ con u) = w :=
  endsN_eq _ u w c (by simp) z
theorem ends_cy {w : List Int} (c : Cy w) : ends w = w := endsN_cy _ c
/-- what is left of a ring -/
def rnd (xs : List Int) : List Int := ends (shr xs)
theorem rnd_of {xs u w : List Int} (h : Sm xs (u ++ w ++ con u)) (r : Rd (u ++ w ++ con u)) (c : Cy w) (z : w = [] → u = []) : rnd xs = w := by
  unfold rnd
  rw [shr_eq h r]
  exact ends_eq c z
theorem rnd_cy {xs : List Int} (nz : NZ xs) : Cy (rnd xs) := by
  obtain ⟨u, w, e, c, z⟩ := parted (shr xs) nz.shr (rd_shr xs)
  unfold rnd
  rw [e, ends_eq c z]
  exact c
theorem rnd_sm {xs ys : List Int} (h : Sm xs ys) : rnd xs = rnd ys := by
  unfold rnd
  rw [shr_of_sm h]
theorem rnd_iff {xs : List Int} (nz : NZ xs) : rnd xs = xs ↔ Cy xs := by
  constructor
  · intro h
    rw [← h]
    exact rnd_cy nz
  · intro c
    unfold rnd
    rw [shr_short c.1, ends_cy c]

/-! ### turned -/
def Trn (xs ys : List Int) : Prop := ∃ p q, xs = p ++ q ∧ ys = q ++ p
theorem Trn.refl (xs : List Int) : Trn xs xs := ⟨[], xs, rfl, by simp⟩
theorem Trn.symm {xs ys : List Int} (h : Trn xs ys) : Trn ys xs := by
  obtain ⟨p, q, e1, e2⟩ := h
  exact ⟨q, p, e2, e1⟩
theorem Trn.trans {xs ys zs : List Int} (h : Trn xs ys) (k : Trn ys zs) : Trn xs zs := by
  obtain ⟨p, q, rfl, e⟩ := h
  obtain ⟨p2, q2, e2, rfl⟩ := k
  rw [e] at e2
  rcases List.append_eq_append_iff.1 e2 with ⟨c, h1, h2⟩ | ⟨c, h1, h2⟩
  · subst h1 h2
    exact ⟨c, q2 ++ q, by simp, by simp⟩
  · subst h1 h2
    exact ⟨p ++ p2, c, by simp, by simp⟩
theorem Trn.cy {xs ys : List Int} (h : Trn xs ys) (c : Cy xs) : Cy ys := by
  obtain ⟨p, q, rfl, rfl⟩ := h
  by_cases hp : p = []
  · subst hp; simpa using c
  by_cases hq : q = []
  · subst hq; simpa using c
  obtain ⟨r, l⟩ := c
  obtain ⟨r1, r2, r3⟩ := rd_append.1 r
  obtain ⟨a, t, rfl⟩ := List.exists_cons_of_ne_nil hp
  obtain ⟨b, s, rfl⟩ := List.exists_cons_of_ne_nil hq
  refine ⟨rd_append.2 ⟨r2, r1, fun x y hx hy => ?_⟩, fun x y hx hy => ?_⟩
  · have := l y x (by simpa using hy) (by rw [List.getLast?_append, hx]; rfl)
    omega
  · have := r3 y x (by rw [List.getLast?_append] at hy; rw [List.getLast?_eq_some_getLast (by simp)] at hy ⊢; simpa using hy) (by simpa using hx)
    omega
/-- a letter ahead and its contrary behind -/
theorem rnd_moved1 (a : Int) (ha : a ≠ 0) (xs : List Int) (nz : NZ xs) : Trn (rnd xs) (rnd ([a] ++ xs ++ [-a])) := by
  obtain ⟨u, w, e, c, z⟩ := parted (shr xs) nz.shr (rd_shr xs)
  have hr : rnd xs = w := by
    unfold rnd
    rw [e, ends_eq c z]
  have rs := rd_shr xs
  rw [e] at rs
  have base : Sm ([a] ++ xs ++ [-a]) ([a] ++ (u ++ w ++ con u) ++ [-a]) := by
    rw [← e]
    exact Sm.mid (sm_shr xs).symm
  rw [hr]
  cases u with
  | cons b u =>
    have wne : w ≠ [] := fun h => by simp at z; exact z h
    have e2 : (b :: u) ++ w ++ con (b :: u) = b :: ((u ++ w ++ con u) ++ [-b]) := by rw [con_cons]; simp
    rw [e2] at rs base
    by_cases hb : b = -a
    · have inner : Rd (u ++ w ++ con u) := (rd_append.1 rs.tail).1
      have sm : Sm ([a] ++ (b :: ((u ++ w ++ con u) ++ [-b])) ++ [-a]) (u ++ w ++ con u) := by
        subst hb
        have h1 : Sm ([a, -a] ++ (u ++ w ++ con u) ++ [a, -a]) ([] ++ (u ++ w ++ con u) ++ []) := ((Sm.out a).app (Sm.refl _)).app (Sm.out a)
        simpa using h1
      rw [rnd_of (base.trans sm) inner c fun h => absurd h wne]
      exact Trn.refl _
    · have whole : Rd ((a :: b :: u) ++ w ++ con (a :: b :: u)) := by
        have e3 : (a :: b :: u) ++ w ++ con (a :: b :: u) = [a] ++ (b :: ((u ++ w ++ con u) ++ [-b])) ++ [-a] := by
          rw [con_cons, con_cons]; simp
        rw [e3, rd_append, rd_append]
        refine ⟨⟨trivial, rs, fun x y hx hy => ?_⟩, trivial, fun x y hx hy => ?_⟩
        · simp at hx hy; omega
        · rw [show [a] ++ (b :: ((u ++ w ++ con u) ++ [-b])) = (a :: b :: (u ++ w ++ con u)) ++ [-b] by simp] at hx
          rw [List.getLast?_append] at hx
          simp at hx hy
          omega
      have sm : Sm ([a] ++ (b :: ((u ++ w ++ con u) ++ [-b])) ++ [-a]) ((a :: b :: u) ++ w ++ con (a :: b :: u)) := by
        have e3 : (a :: b :: u) ++ w ++ con (a :: b :: u) = [a] ++ (b :: ((u ++ w ++ con u) ++ [-b])) ++ [-a] := by
          rw [con_cons, con_cons]; simp
        rw [e3]
        exact Sm.refl _
      rw [rnd_of (base.trans sm) whole c fun h => absurd h wne]
      exact Trn.refl _
  | nil =>
    have e2 : ([] : List Int) ++ w ++ con [] = w := by simp [con]
    rw [e2] at rs base
    cases w with
    | nil =>
      have sm : Sm ([a] ++ [] ++ [-a]) ([] ++ [] ++ con []) := Sm.out a
      rw [rnd_of (base.trans sm) trivial cy_nil fun _ => rfl]
      exact Trn.refl _
    | cons b t =>
      by_cases hb : b = -a
      · -- the letter takes the first one out, and its contrary stands behind
        have turn : Trn (b :: t) (t ++ [b]) := ⟨[b], t, rfl, rfl⟩
        have sm : Sm ([a] ++ (b :: t) ++ [-a]) ([] ++ (t ++ [b]) ++ con []) := by
          subst hb
          have h1 : Sm ([a, -a] ++ (t ++ [-a])) ([] ++ (t ++ [-a])) := (Sm.out a).app (Sm.refl _)
          simpa [con] using h1
        have cy := turn.cy c
        rw [rnd_of (base.trans sm) (by simpa [con] using cy.1) cy fun _ => rfl]
        exact turn
      · by_cases hl : (b :: t).getLast? = some a
        · obtain ⟨m, em⟩ : ∃ m, b :: t = m ++ [a] := by
            refine ⟨(b :: t).dropLast, ?_⟩
            have h1 := List.dropLast_concat_getLast (l := b :: t) (by simp)
            rw [List.getLast?_eq_some_getLast (by simp)] at hl
            rw [Option.some.inj hl] at h1
            exact h1.symm
          rw [em] at c base ⊢
          have turn : Trn (m ++ [a]) (a :: m) := ⟨m, [a], rfl, rfl⟩
          have sm : Sm ([a] ++ (m ++ [a]) ++ [-a]) ([] ++ (a :: m) ++ con []) := by
            have h1 : Sm ((a :: m) ++ [a, -a]) ((a :: m) ++ []) := (Sm.refl _).app (Sm.out a)
            simpa [con] using h1
          have cy := turn.cy c
          rw [rnd_of (base.trans sm) (by simpa [con] using cy.1) cy fun _ => rfl]
          exact turn
        · have whole : Rd ([a] ++ (b :: t) ++ con [a]) := by
            rw [rd_append, rd_append]
            refine ⟨⟨trivial, rs, fun x y hx hy => ?_⟩, trivial, fun x y hx hy => ?_⟩
            · simp at hx hy; omega
            · rw [List.getLast?_append] at hx
              rw [List.getLast?_eq_some_getLast (by simp)] at hx hl
              simp [con] at hx hy hl
              omega
          rw [rnd_of (base.trans (by simpa [con] using Sm.refl _)) whole c fun h => by simp at h]
          exact Trn.refl _
/-- moved: a word ahead, its contrary behind -/
theorem rnd_moved : ∀ (ys xs : List Int), NZ ys → NZ xs → Trn (rnd xs) (rnd (ys ++ xs ++ con ys))
  | [], xs, _, _ => by simpa [con] using Trn.refl _
  | a :: t, xs, hy, hx => by
    have ht : NZ t := fun x h => hy x (List.mem_cons_of_mem _ h)
    have h1 := rnd_moved t xs ht hx
    have h2 := rnd_moved1 a (hy a List.mem_cons_self) (t ++ xs ++ con t) ((ht.app hx).app ht.con)
    have e : [a] ++ (t ++ xs ++ con t) ++ [-a] = (a :: t) ++ xs ++ con (a :: t) := by rw [con_cons]; simp
    rw [e] at h2
    exact h1.trans h2
/-- turned first, shortened round then -/
theorem rnd_turned {xs ys : List Int} (nz : NZ xs) (h : Trn xs ys) : Trn (rnd xs) (rnd ys) := by
  obtain ⟨p, q, rfl, rfl⟩ := h
  have h1 := rnd_moved (con p) (p ++ q) nz.left.con nz
  have sm : Sm (con p ++ (p ++ q) ++ con (con p)) (q ++ p) := by
    rw [con_con]
    have h2 : Sm ((con p ++ p) ++ (q ++ p)) ([] ++ (q ++ p)) := (sm_con' p).app (Sm.refl _)
    simpa using h2
  rw [rnd_sm sm] at h1
  exact h1

/-! ### so many times one that is short round -/
theorem rep_head {n : Nat} {w : List Int} : (rep (n + 1) w).head? = w.head? := by
  cases w with
  | nil => rw [rep_nil]
  | cons a t => rw [rep_succ]; rfl
theorem rep_last {n : Nat} {w : List Int} : (rep (n + 1) w).getLast? = w.getLast? := by
  by_cases hw : w = []
  · subst hw; rw [rep_nil]
  · rw [rep_succ', List.getLast?_append, List.getLast?_eq_some_getLast hw]; rfl
theorem cy_rep {w : List Int} (c : Cy w) : ∀ n, Cy (rep n w)
  | 0 => cy_nil
  | n + 1 => by
    have ih := cy_rep c n
    refine ⟨?_, fun a b ha hb => ?_⟩
    · rw [rep_succ, rd_append]
      refine ⟨c.1, ih.1, fun a b ha hb => ?_⟩
      cases n with
      | zero => simp [rep] at hb
      | succ n =>
        rw [rep_head] at hb
        have := c.2 b a hb ha
        omega
    · rw [rep_head] at ha
      rw [rep_last] at hb
      exact c.2 a b ha hb
/-- so many times a row: its ends stay, what is between them comes so many times -/
theorem shr_core {xs u w : List Int} (e : shr xs = u ++ w ++ con u) (c : Cy w) (z : w = [] → u = []) (n : Nat) : shr (rep (n + 1) xs) = u ++ rep (n + 1) w ++ con u := by
  have sm : ∀ n, Sm (rep (n + 1) (u ++ w ++ con u)) (u ++ rep (n + 1) w ++ con u) := by
    intro n
    induction n with
    | zero => rw [rep_one, rep_one]; exact Sm.refl _
    | succ n ih =>
      rw [rep_succ]
      refine ((Sm.refl _).app ih).trans ?_
      have h : Sm ((u ++ w) ++ (con u ++ u) ++ (rep (n + 1) w ++ con u)) ((u ++ w) ++ [] ++ (rep (n + 1) w ++ con u)) := Sm.mid (sm_con' u)
      have e2 : rep (n + 1 + 1) w = w ++ rep (n + 1) w := rfl
      rw [e2]
      simpa using h
  refine shr_eq ?_ ?_
  · have h1 : Sm (rep (n + 1) xs) (rep (n + 1) (shr xs)) := ((sm_shr xs).rep _).symm
    rw [e] at h1
    exact h1.trans (sm n)
  · have r := rd_shr xs
    rw [e] at r
    by_cases hw : w = []
    · have hu := z hw
      subst hw hu
      rw [rep_nil]
      trivial
    · obtain ⟨r12, r3, b23⟩ := rd_append.1 r
      obtain ⟨r1, r2, b12⟩ := rd_append.1 r12
      rw [rd_append, rd_append]
      refine ⟨⟨r1, (cy_rep c _).1, fun a b ha hb => ?_⟩, r3, fun a b ha hb => ?_⟩
      · rw [rep_head] at hb
        exact b12 a b ha hb
      · refine b23 a b ?_ hb
        have hne : rep (n + 1) w ≠ [] := by
          intro h
          have h2 := rep_length (n + 1) w
          rw [h, Nat.succ_mul] at h2
          simp at h2
          exact hw (List.length_eq_zero_iff.1 (by omega))
        rw [List.getLast?_append, List.getLast?_eq_some_getLast hne] at ha
        rw [List.getLast?_append, ← rep_last (n := n), List.getLast?_eq_some_getLast hne]
        exact ha
end Fr
set_option Elab.async false
set_option linter.all false
set_option maxRecDepth 100000
set_option maxHeartbeats 2000000
/-! {e for x in xs}, e an int. -/
namespace WS
open PySem PySem.Spec PyProof.Rows L2 PpSet
/-- a set as it is when it is made -/
abbrev bareSet (w : World) : Obj := { cls := .type "set", dict := none, data := .set #[] 0 (.fresh 0 0 (!w.params.followText "set-order")) }
theorem bare_ok (w : World) (h : Heap) : SetR w (h.push (bareSet w)) h.objs.size (fun _ => false) 0 := by
  have led : w.params.followText "set-order" = true ∨ (!w.params.followText "set-order") = true := by
    cases w.params.followText "set-order"
    · right; rfl
    · left; rfl
  refine ⟨bareSet w, #[], 0, _, Heap.get?_push_size _ rfl, ⟨rfl, rfl, rfl⟩, rfl, ?_, ?_, ?_, by decide, rfl, rfl, List.Pairwise.nil, led⟩
  · intro e he; simp at he
  · simp
  · intro k; simp
/-- the new set at D, filled turn by turn -/
def Fills (w : World) (J : It) (g : TG) (tt : TT) (te : TE) (vs : List Nat) (σ : L2.St) (D : Addr) (Q : VK) (W : Nat → Nat → Hp → Prop) : Prop :=
  ∀ i m H, W i m H → (J.stop i H ∧ Q (.ref D) H) ∨ (J.go i H ∧ ∃ N : Hp → Prop, (∀ H', N H' → ∃ m', m' < m ∧ W (i + 1) m' H') ∧
    ∀ x H', J.yld i H x H' → g x (wipe σ vs) H' fun σ2 H2 => wipe σ2 vs = wipe σ vs ∧ tt σ2 H2 fun b H3 => if b = true then te σ2 H3 fun y H4 => rSAdd w (.ref D) [y] H4 fun _ H5 => N H5 else N H3)
def tSetI (w : World) (wi : TI) (g : TG) (tt : TT) (te : TE) (vs : List Nat) : TE := fun σ H Q => wi σ H fun J H1 => ∀ D, H1 D = none →
  ∃ W : Nat → Nat → Hp → Prop, (∃ m, W 0 m (upd H1 D (SetO w D (fun _ => false) 0))) ∧ Fills w J g tt te vs σ D Q W
section
variable {X : Cx}
/-- what a turn leaves known -/
def Known (X : Cx) (Z : Cx) (σw : L2.St) (fp : List Addr) (tn : Nat → Heap → Prop) (W : Nat → Nat → Hp → Prop) (m : Nat) (s : Shared) : Prop :=
  ∃ (i : Nat) (H : Hp), Inv Z [] σw H s ∧ tn i s.heap ∧ (∀ b ∈ fp, H b = none) ∧ W i m H
theorem fill_set {elt tg iter : Expr} {ifs : List Expr} {scope : Scope} {own : List (PySem.Str × Nat)} {pos : Pos} {g : TG} {tt : TT} {te : TE} {pins : List (Addr × Obj)} {σ : L2.St} {H3 : Hp} {s3 : Shared} {it D : Addr} {fp : List Addr} {tn : Nat → Heap → Prop} {J : It} {m0 : Nat} {W : Nat → Nat → Hp → Prop} {Q : VK}
    (calm : X.calm = true) (nod : X.N.Nodup) (blk : BlkOk X.N X.env.scope scope own)
    (target : ∀ (s : Shared) (H : Hp) (C : Addr) (cl : List (PySem.Str × Addr)) (fp : List Addr), PG (X.blk s H scope (compEnvC scope cl C X.env) fp) tg g)
    (tests : ∀ (s : Shared) (H : Hp) (C : Addr) (cl : List (PySem.Str × Addr)) (fp : List Addr), PTs (X.blk s H scope (compEnvC scope cl C X.env) fp) ifs tt)
    (item : ∀ (s : Shared) (H : Hp) (C : Addr) (cl : List (PySem.Str × Addr)) (fp : List Addr), PE (X.blk s H scope (compEnvC scope cl C X.env) fp) elt te)
    (T : Turn X.prog X.w X.K tg J fp it tn) (I3 : Inv X pins σ H3 s3) (off : ∀ b ∈ fp, FpOk X pins H3 b ∧ b < s3.heap.objs.size) (st3 : tn 0 s3.heap) (w0 : W 0 m0 H3) (turn : Fills X.w J g tt te (own.map (·.2)) σ D Q W) :
    codeAny (model X.prog X.w) X.A (.compStart (.SetComp elt [⟨tg, iter, ifs, 0⟩] scope pos) 0 (.ref it) (.ref D) (compEnvC scope (cellsFrom (s3.heap.objs.size + 1) scope.names (cloFrom X.env.cells scope.names [])) s3.heap.objs.size X.env))
      (compPost (model X.prog X.w) X.A X.xe none (EP X pins σ Q) (.ref D) s3.heap.objs.size) { s3 with heap := pushCells (s3.heap.push { cls := .type "dict", data := .dict #[] }) scope.names } := by
  have I4 := block_start I3 blk nod off
  have pg := target s3 H3 s3.heap.objs.size (cellsFrom (s3.heap.objs.size + 1) scope.names (cloFrom X.env.cells scope.names [])) fp
  have pt := tests s3 H3 s3.heap.objs.size (cellsFrom (s3.heap.objs.size + 1) scope.names (cloFrom X.env.cells scope.names [])) fp
  have pe := item s3 H3 s3.heap.objs.size (cellsFrom (s3.heap.objs.size + 1) scope.names (cloFrom X.env.cells scope.names [])) fp
  have st4 : tn 0 (pushCells (s3.heap.push { cls := .type "dict", data := .dict #[] }) scope.names) := T.keep _ _ _ st3 fun _ _ _ e => pushCells_keeps _ _ _ _ (Heap.get?_push_of_some _ e)
  obtain ⟨ce, ece⟩ : ∃ ce : Env, ce = compEnvC scope (cellsFrom (s3.heap.objs.size + 1) scope.names (cloFrom X.env.cells scope.names [])) s3.heap.objs.size X.env := ⟨_, rfl⟩
  have loc : ce.locals = s3.heap.objs.size := by rw [ece]; rfl
  rw [← ece] at I4 pg pt pe ⊢
  -- the places that the walk keeps
  have held : ∀ {σ' : L2.St} {H' : Hp} {s' : Shared}, Inv (X.blk s3 H3 scope ce fp) [] σ' H' s' → (∀ b ∈ fp, H' b = none) → ∀ b ∈ fp, FpOk (X.blk s3 H3 scope ce fp) [] H' b := by
    intro σ' H' s' I' none' b hb
    refine ⟨none' b hb, (I'.ok.exf b hb).1, I'.ok.exfs b hb, .inl hb, (I'.ok.exf b hb).2, fun p hp => ?_⟩
    simp at hp
  have all : codeAny (model X.prog X.w) X.A (.compLoop (.SetComp elt [⟨tg, iter, ifs, 0⟩] scope pos) 0 (.ref it) (.ref D) ce) (compPost (model X.prog X.w) X.A X.xe none (EP X pins σ Q) (.ref D) s3.heap.objs.size) { s3 with heap := pushCells (s3.heap.push { cls := .type "dict", data := .dict #[] }) scope.names } := by
    refine compLoopS_any (Known X (X.blk s3 H3 scope ce fp) (wipe σ (own.map (·.2))) fp tn W) (fun m s5 known => ?_) m0 ⟨0, H3, I4, st4, fun b hb => (off b hb).1.1, w0⟩
    obtain ⟨i, H5, I5, st5, none5, w5⟩ := known
    cases turn i m H5 w5 with
    | inl ended =>
      refine thnF (T.done (X.blk s3 H3 scope ce fp) rfl rfl rfl calm i [] s5 _ H5 (fun _ _ => False) I5 (held I5 none5) st5 ended.1) fun r s6 hr => ?_
      obtain ⟨rfl, I6⟩ := hr
      have back : Inv X pins σ H5 s6 := I3.call' (ch := fp) I6.os I6.base I6.hok I6.bare fun b hb => by
        obtain ⟨⟨_, f1, f2, f3, f4, f5⟩, _⟩ := off b hb
        exact ⟨f3, f1, f4, f5⟩
      have noL : H5 s3.heap.objs.size = none := by rw [← loc]; exact I6.free
      obtain ⟨mm, names, _⟩ := I6.loc
      have names' : s6.heap.Ns s3.heap.objs.size mm := by rw [← loc]; exact names
      obtain ⟨f0, f1, f2, f3, f4, f5⟩ := I3.fpOk (Nat.le_refl _) noL
      exact ⟨mm, names', fun h' same => ⟨.ref D, H5, back.turned (t' := s6.toks) (fun b o hb e => (same.2 b hb).trans e) f0 f1 f3 f4 f5, rfl, ended.2⟩⟩
    | inr goes =>
      obtain ⟨go, N, hN, step⟩ := goes
      refine thnF (T.item (X.blk s3 H3 scope ce fp) rfl rfl rfl calm i [] s5 _ H5 (fun _ _ => False) I5 (held I5 none5) st5 go) fun r s6 hr => ?_
      obtain ⟨u, rfl, h6⟩ := hr
      refine thnF h6 fun _ s7 h7 => ?_
      obtain ⟨x, H7, I7, r7, y7, st7, none7⟩ := h7
      refine thnF (pg.run _ s7 _ H7 x u _ (I7.pinned (held I7 none7) (T.obj _ _ st7)) r7 (step x H7 y7)) fun _ s8 h8 => ?_
      obtain ⟨σ8, H8, I8, wiped, q8⟩ := h8
      refine thnF (pt.run _ s8 σ8 H8 _ I8 q8) fun b s9 h9 => ?_
      obtain ⟨H9, I9, q9⟩ := h9
      have next : ∀ {s' : Shared} {H' : Hp}, Inv (X.blk s3 H3 scope ce fp) ([] ++ pinsAt fp s7.heap) σ8 H' s' → N H' → ∃ m', m' < m ∧ Known X (X.blk s3 H3 scope ce fp) (wipe σ (own.map (·.2))) fp tn W m' s' := by
        intro s' H' I' nx
        obtain ⟨m', lt, w'⟩ := hN H' nx
        have kept : ∀ b ∈ fp, ∀ o, s7.heap.get? b = some o → s'.heap.get? b = some o ∧ H' b = none := by
          intro b hb o e
          obtain ⟨z1, z2, _⟩ := I'.pin (b, o) (List.mem_append_right _ (List.mem_append_right _ (mem_pinsAt hb e)))
          exact ⟨z1, z2⟩
        have len : (wipe σ (own.map (·.2))).length = σ8.length := by rw [← wiped, wipe_length]
        refine ⟨m', lt, i + 1, H', (I'.unpinned (pins := [])).weak len (fun j v e => ?_), T.keep _ _ _ st7 fun b hb o e => (kept b hb o e).1, fun b hb => ?_, w'⟩
        · rw [← wiped] at e
          exact (wipe_some e).1
        · obtain ⟨o, e, _⟩ := T.obj _ _ st7 b hb
          exact (kept b hb o e).2
      cases b with
      | false =>
        rw [if_neg Bool.false_ne_true] at q9 ⊢
        exact next I9 q9
      | true =>
        rw [if_pos rfl] at q9 ⊢
        refine thnF (pe.run _ s9 σ8 H9 _ I9 q9) fun z s10 h10 => ?_
        obtain ⟨yv, H10, I10, r10, adds⟩ := h10
        refine thnF (mt_sadd (X := X.blk s3 H3 scope ce fp) _ s10 σ8 H10 (.ref D) [yv] (.ref D) [z] _ I10 rfl (.cons r10 .nil) adds) fun _ s11 h11 => ?_
        obtain ⟨_, H11, I11, _, nx⟩ := h11
        exact next I11 nx
  exact codeAny_compStart_set all (T.self X.A 0 _ _ _ st4 all)
theorem pe_setI {elt tg iter : Expr} {ifs : List Expr} {scope : Scope} {own : List (PySem.Str × Nat)} {pos : Pos} {wi : TI} {g : TG} {tt : TT} {te : TE} (calm : X.calm = true) (nod : X.N.Nodup) (walked : PI X tg iter wi) (blk : BlkOk X.N X.env.scope scope own)
    (target : ∀ (s : Shared) (H : Hp) (C : Addr) (cl : List (PySem.Str × Addr)) (fp : List Addr), PG (X.blk s H scope (compEnvC scope cl C X.env) fp) tg g)
    (tests : ∀ (s : Shared) (H : Hp) (C : Addr) (cl : List (PySem.Str × Addr)) (fp : List Addr), PTs (X.blk s H scope (compEnvC scope cl C X.env) fp) ifs tt)
    (item : ∀ (s : Shared) (H : Hp) (C : Addr) (cl : List (PySem.Str × Addr)) (fp : List Addr), PE (X.blk s H scope (compEnvC scope cl C X.env) fp) elt te) (plain : ∀ x, foldedSetIterable iter X.env x = pure x := by intro _; rfl) :
    PE X (.SetComp elt [⟨tg, iter, ifs, 0⟩] scope pos) (tSetI X.w wi g tt te (own.map (·.2))) := by
  refine ⟨fun pins s σ H Q I asked => ?_⟩
  rw [eval_SetComp]
  have caught : ∀ y ∈ scope.names, y.2 = .free → ∃ c, X.env.cells.lookup y.1 = some c := by
    intro y hy e
    cases blk.free y hy e with
    | inl k => exact I.ok.has _ (.inl k)
    | inr k => exact I.ok.has _ (.inr k)
  refine wpAny_comprehension_free (use := none) rfl plain (closure_ok caught) blk.kind (fun y hy e => by rw [blk.uniq y hy, e]) ?_
  refine thn (walked.run pins s σ H _ I asked) fun _ _ h1 => thn h1 fun _ s2 h2 => ?_
  obtain ⟨it, fp, tn, J, H2, rfl, I2, T, st2, off2, fill⟩ := h2
  refine newSet_ok (newEnv_comp ?_)
  have free0 : H2 s2.heap.objs.size = none := I2.hok.fresh (Nat.le_refl _)
  obtain ⟨W, ⟨m0, w0⟩, turn⟩ := fill s2.heap.objs.size free0
  have I3 : Inv X pins σ (upd H2 s2.heap.objs.size (SetO X.w s2.heap.objs.size (fun _ => false) 0)) { s2 with heap := s2.heap.push (bareSet X.w) } :=
    I2.laid (t' := s2.toks) (fun _ _ e => Heap.get?_push_of_some _ e) (Nat.le_refl _) (setO_new (bare_ok X.w s2.heap))
  have below : ∀ b ∈ fp, b < s2.heap.objs.size := by
    intro b hb
    obtain ⟨o, e, _⟩ := T.obj _ _ st2 b hb
    exact Heap.lt_size e
  have off3 : ∀ b ∈ fp, FpOk X pins (upd H2 s2.heap.objs.size (SetO X.w s2.heap.objs.size (fun _ => false) 0)) b ∧ b < (s2.heap.push (bareSet X.w)).objs.size := by
    intro b hb
    refine ⟨⟨?_, (off2 b hb).2⟩, by rw [Heap.size_push]; exact Nat.lt_succ_of_lt (below b hb)⟩
    rw [upd_ne (Nat.ne_of_lt (below b hb))]
    exact (off2 b hb).1
  exact fill_set calm nod blk target tests item T I3 off3 (T.keep _ _ _ st2 fun _ _ _ e => Heap.get?_push_of_some _ e) w0 turn
end
end WS
set_option Elab.async false
set_option linter.all false
set_option maxRecDepth 100000
set_option maxHeartbeats 2000000
/-! t[::-1]; tuple * int for 0 and 1. -/
namespace WR
open PySem PySem.Spec PyProof.Rows L2
section
variable {prog : Program} {w : World} {A : Around} {E : Value → Shared → Prop} {s : Shared}
theorem adjust_back (n : Nat) : Builtin.Slice.sliceAdjust none none (-1) (n : Int) = ((n : Int) - 1, -1) := by
  unfold Builtin.Slice.sliceAdjust
  simp
theorem places_back (n : Nat) : Builtin.Slice.slicePlaces ((n : Int) - 1) (-1) (-1) = n := by
  unfold Builtin.Slice.slicePlaces
  have h1 : ¬ ((-1 : Int) > 0) := by omega
  simp only [h1, if_false]
  rw [show (- -1 : Int) = 1 by decide, Int.ediv_one]
  split <;> omega
theorem fm_congr {α β : Type} {f g : α → Option β} : ∀ {l : List α}, (∀ m ∈ l, f m = g m) → l.filterMap f = l.filterMap g
  | [], _ => rfl
  | a :: t, h => by
    rw [List.filterMap_cons, List.filterMap_cons, h a List.mem_cons_self, fm_congr fun m hm => h m (List.mem_cons_of_mem _ hm)]
theorem pick_back (xs : Array Value) : ((List.range xs.size).filterMap fun (m : Nat) => xs[((xs.size : Int) - 1 + (m : Int) * (-1)).toNat]?).toArray = xs.toList.reverse.toArray := by
  have e : (List.range xs.size).filterMap (fun (m : Nat) => xs[((xs.size : Int) - 1 + (m : Int) * (-1)).toNat]?) = ((List.range xs.size).map fun k => xs.size - 1 - k).filterMap (xs[·]?) := by
    rw [List.filterMap_map]
    refine fm_congr fun m hm => ?_
    have hm2 := List.mem_range.mp hm
    have : ((xs.size : Int) - 1 + (m : Int) * (-1)).toNat = xs.size - 1 - m := by omega
    rw [this]
    rfl
  rw [e, PySem.W.krv_range, List.filterMap_reverse, PySem.W.krv_all]
theorem sliceApplied_back {sl : Addr} {vl vu vs : Value} {n : Nat} {Q : Int × Int × Nat → Shared → Prop} (hs : s.heap.IsSliceOf sl vl vu vs) (pl : IsPart vl none) (pu : IsPart vu none) (ps : IsPart vs (some (-1)))
    (h : Q ((n : Int) - 1, -1, n) s) : wpAny (model prog w) A (Builtin.Slice.sliceApplied (.ref sl) (pure (n : Int))) Q E s := by
  obtain ⟨os, hos, hcs, hds⟩ := id hs
  unfold Builtin.Slice.sliceApplied Builtin.Slice.sliceFields
  refine wpAny_bind (wpAny_bind (wpAny_field hos hds (x := vl) rfl (wpAny_bind (wpAny_field hos hds (x := vu) rfl (wpAny_bind (wpAny_field hos hds (x := vs) rfl (wpAny_pure ?_)))))))
  refine wpAny_bind (HT.slicePart_ ps ?_)
  show wpAny _ _ (if ((-1 : Int) == 0) = true then _ else _) _ _ s
  rw [if_neg (by decide)]
  refine wpAny_bind (HT.slicePart_ pl (wpAny_bind (HT.slicePart_ pu (wpAny_bind (wpAny_pure ?_)))))
  show wpAny _ _ (match Builtin.Slice.sliceAdjust none none (-1) (n : Int) with | (lo, hi) => pure (lo, (-1 : Int), Builtin.Slice.slicePlaces lo hi (-1))) _ _ s
  rw [adjust_back n]
  show wpAny _ _ (pure ((n : Int) - 1, (-1 : Int), Builtin.Slice.slicePlaces ((n : Int) - 1) (-1) (-1))) _ _ s
  rw [places_back]
  exact wpAny_pure h
theorem getItem_tuple_back {t sl : Addr} {items : Array Value} {vl vu vs : Value} {Q : Value → Shared → Prop} (ht : IsTup s.heap t items) (hs : s.heap.IsSliceOf sl vl vu vs) (pl : IsPart vl none) (pu : IsPart vu none) (ps : IsPart vs (some (-1)))
    (h : Q (.ref s.heap.objs.size) { s with heap := s.heap.push { cls := .type "tuple", data := .seq items.toList.reverse.toArray } })
    (hsz : items.size ≤ sizeLine) : wpAny (model prog w) A (getItem (.ref t) (.ref sl)) Q E s := by
  have htake : sizeOk (.seq items.toList.reverse.toArray) := by
    show items.toList.reverse.toArray.size ≤ sizeLine
    rw [List.size_toArray, List.length_reverse, Array.length_toList]
    exact hsz
  obtain ⟨os, hos, hcs, hds⟩ := id hs
  have hTs : s.TypeIs (.ref sl) "slice" := ⟨os, hos, hcs⟩
  unfold getItem
  try with_reducible refine wpAny_holding ?_
  first | refine wpAny_bind (wpAny_pure ?_) | skip
  refine wpAny_bind (wpAny_sequenceKey ht.typeIs (by decide) ?_)
  refine wpAny_bind (wpAny_callSpecial?_slot (name := Str.ofString "__getitem__") ht.typeIs PyProof.Rows.slot_tuple_getitem
    (wpAny_call_entry PyProof.Rows.slot_tuple_getitem ht.typeIs entry_tuple_getitem ?_ (args_tuple_getitem _ _)))
  show wpAny _ _ (Builtin.Tuple.tupleItemsOf (.ref t) >>= _) _ _ s
  refine wpAny_bind (tupleItemsOf_ ht ?_)
  refine wpAny_bind (wpAny_typeOf hTs ?_)
  rw [if_pos (by decide)]
  refine wpAny_bind (sliceApplied_back hs pl pu ps ?_)
  have hno : ¬ ((((items.size : Int) - 1) == 0 && (-1 : Int) == 1 && items.size == items.size) = true) := by
    intro q
    rw [Bool.and_eq_true, Bool.and_eq_true] at q
    exact absurd q.1.2 (by decide)
  show wpAny _ _ (if (((items.size : Int) - 1) == 0 && (-1 : Int) == 1 && items.size == items.size) = true then _ else _) _ _ s
  rw [if_neg hno, pick_back]
  first
    | exact wpAny_bind (m := Builtin.Tuple.tupleExact _) (wpAny_newObj_type (wpAny_pure ⟨_, rfl, wpAny_pure h⟩) htake)
    | exact wpAny_bind (m := Builtin.Tuple.tupleExact _) (wpAny_newObj_type (wpAny_bind (wpAny_pure (wpAny_pure ⟨_, rfl, wpAny_pure h⟩))) htake)
end
section
variable {X : Cx}
def tRevT (K : PySem.W.Frag) (te : TE) : TE := fun σ H Q => te σ H fun x H1 => ∃ a xs, x = .ref a ∧ SqT K H1 a xs ∧ ∀ p, H1 p = none → Q (.ref p) (upd H1 p (.tup xs.reverse))
theorem pe_revT {e : Expr} {te : TE} {k : Nat} {p1 p2 p3 pos : Pos} (he : PE X e te) : PE X (.Subscript e (.Slice none none (some (.UnaryOp .USub (.Constant (.int 1) k p1) p2)) p3) pos) (tRevT X.K te) := by
  refine ⟨fun pins s σ H Q I h => ?_⟩
  refine Subscript_ (thn (he.run pins s σ H _ I h) fun v s1 ⟨x, H1, I1, r1, q1⟩ => ?_)
  obtain ⟨a, xs, ex, hx, q⟩ := q1
  subst ex
  cases r1
  have hst : PO X (some (.UnaryOp .USub (.Constant (.int 1) k p1) p2)) (tPart (tUn (rU fun i => .int (-i)) (tC (.int 1)))) := po_some (pe_un un_neg pe_int)
  refine wpAny_Slice (thn (po_none.run pins s1 σ H1 (fun o H2 => o = none ∧ H2 = H1) I1 ⟨rfl, rfl⟩) fun vl s2 ⟨l, H2, I2, pl, el, e2⟩ => ?_)
  subst el e2
  refine thn (po_none.run pins s2 σ H2 (fun o H3 => o = none ∧ H3 = H2) I2 ⟨rfl, rfl⟩) fun vu s3 ⟨u, H3, I3, pu, eu, e3⟩ => ?_
  subst eu e3
  refine thn (hst.run pins s3 σ H3 (fun o H4 => o = some (-1) ∧ H4 = H3) I3 ⟨1, rfl, -1, rfl, rfl, rfl⟩) fun vs s4 ⟨o, H4, I4, ps, eo, e4⟩ => ?_
  subst eo e4
  have I5 : Inv X pins σ H4 { s4 with heap := s4.heap.push { cls := .type "slice", data := .fields #[vl, vu, vs] } } := I4.kept (t' := s4.toks) fun b ob q => Heap.get?_push_of_some _ q
  obtain ⟨its, r, ht, hz⟩ := I5.tuple hx
  have hlen := r.length
  show wpAny (model X.prog X.w) X.A (subscriptTail e (.Slice none none (some (.UnaryOp .USub (.Constant (.int 1) k p1) p2)) p3) (.ref a) (.ref s4.heap.objs.size)) (EP X pins σ Q) X.xe { s4 with heap := s4.heap.push { cls := .type "slice", data := .fields #[vl, vu, vs] } }
  refine tail_any (ops := [.ref a, .ref s4.heap.objs.size]) ht.typeIs (PyProof.Rows.slot_tuple_getitem.lookup) ?_ (by with_unfolding_all rfl)
  refine getItem_tuple_back ht (Heap.IsSliceOf.new _ vl vu vs) pl pu ps ?_ (by rw [List.size_toArray]; omega)
  refine ⟨.ref _, _, I5.laid (t' := s4.toks) (o := .tup xs.reverse) (fun b ob q => Heap.get?_push_of_some _ q) (Nat.le_refl _) ?_, rfl, q _ (I5.hok.fresh (Nat.le_refl _))⟩
  exact ⟨by rw [List.length_reverse]; exact hz, _, r.reverse, IsTup.new _ _⟩
end

theorem tuple_mulS (l : Addr) (items : Array Value) (n : Nat) (dd : Option Addr) (sl : Array (Option Value)) (x : Int) (u : Tok) (c0 : (decide (x < -(2 ^ 63)) || decide (x ≥ 2 ^ 63)) = false) (c1 : (items.isEmpty || x == 1) = true) :
    Meets (Builtin.«tuple.__mul__» ⟨[.ref l, .int x u], []⟩) (fun _ R s => s.heap.get? l = some { cls := .type "tuple", dict := dd, data := .seq items n, slots := sl } ∧
      R (.ok (.ret (Value.ref l))) { s with heap := s.heap, toks := s.toks }) :=
  .of_wp fun prog w A R s h => by
    obtain ⟨hp, g, d, tk, os⟩ := s
    obtain ⟨hl, h⟩ := h
    have f1 := AutoSeq1.idx_int
    wp_walk using wpAny_loadPart' hl
    repeat (first
      | (refine wpAny_ite_false (decide_eq_false (by rw [c0]; exact Bool.false_ne_true)) ?_; wp_walk using wpAny_loadPart' hl)
      | (refine wpAny_ite_true (decide_eq_true c1) ?_; wp_walk using wpAny_loadPart' hl)
      | (refine wpAny_ite_true c1 ?_; wp_walk using wpAny_loadPart' hl))
    exact ⟨_, rfl, h⟩
theorem tuple_mul0 (l : Addr) (items : Array Value) (n : Nat) (dd : Option Addr) (sl : Array (Option Value)) (x : Int) (u : Tok) (c0 : (decide (x < -(2 ^ 63)) || decide (x ≥ 2 ^ 63)) = false) (c1 : (items.isEmpty || x == 1) = false) (c2 : (decide (x ≤ 0) || items.isEmpty) = true) :
    Meets (Builtin.«tuple.__mul__» ⟨[.ref l, .int x u], []⟩) (fun _ R s => s.heap.get? l = some { cls := .type "tuple", dict := dd, data := .seq items n, slots := sl } ∧
      R (.ok (.ret (Value.ref s.heap.objs.size))) { s with heap := s.heap.push { cls := Value.type "tuple", data := Data.seq #[] }, toks := s.toks }) :=
  .of_wp fun prog w A R s h => by
    obtain ⟨hp, g, d, tk, os⟩ := s
    obtain ⟨hl, h⟩ := h
    have f1 := AutoSeq1.idx_int
    wp_walk using wpAny_loadPart' hl
    repeat (first
      | (refine wpAny_ite_false (decide_eq_false (by rw [c0]; exact Bool.false_ne_true)) ?_; wp_walk using wpAny_loadPart' hl)
      | (refine wpAny_ite_false (decide_eq_false (by rw [c1]; exact Bool.false_ne_true)) ?_; wp_walk using wpAny_loadPart' hl)
      | (refine wpAny_ite_true (decide_eq_true c2) ?_; wp_walk using wpAny_loadPart' hl))
    exact ⟨_, rfl, h⟩
/-- some tuple of these values, all else as it stood -/
def NewT (K : PySem.W.Frag) (H : Hp) (Q : VK) (xs : List V) : Prop := ∀ p H', Same H H' → SqT K H' p xs → Q (.ref p) H'
theorem same_upd {H : Hp} {p : Addr} {o : HO} (hp : H p = none) : Same H (upd H p o) := fun b u e => by
  rw [upd_ne (ne_of_none e hp)]
  exact e
theorem Same.seqT {K : PySem.W.Frag} {H H' : Hp} {a : Addr} {xs : List V} (e : Same H H') (h : SqT K H a xs) : SqT K H' a xs := by
  rcases h with h | h
  · left
    rcases h with h | ⟨o, h⟩
    · exact .inl (e _ _ h)
    · exact .inr ⟨o, e _ _ h⟩
  · exact .inr h
theorem NewT.self {K : PySem.W.Frag} {H : Hp} {Q : VK} {xs : List V} {a : Addr} (k : NewT K H Q xs) (h : SqT K H a xs) : Q (.ref a) H := k a H (Same.refl H) h
theorem NewT.new {K : PySem.W.Frag} {H : Hp} {Q : VK} {xs : List V} (k : NewT K H Q xs) {p : Addr} (hp : H p = none) : Q (.ref p) (upd H p (.tup xs)) := k p _ (same_upd hp) (SqT.of upd_same)
section
variable {X : Cx}
def rSlU (K : PySem.W.Frag) : V → Option Int → Option Int → Hp → VK → Prop := fun x lo hi H Q => ∃ a xs, x = .ref a ∧ SqT K H a xs ∧ NewT K H Q (cutV xs lo hi)
theorem sl_tupU : SlR X (rSlU X.K) := by
  intro pins s σ H x v vl vu lo hi sl Q I rx hs pl pu h
  obtain ⟨a, xs, rfl, hx, k⟩ := h
  refine sl_tupA pins s σ H _ v vl vu lo hi sl Q I rx hs pl pu ⟨a, xs, rfl, hx, fun e => ?_, fun _ p hp => k.new hp⟩
  refine k.self ?_
  have : cutV xs lo hi = xs := by
    unfold cutV
    rw [e.1, e.2, List.drop_zero, Nat.sub_zero, List.take_of_length_le (Nat.le_refl _)]
  rw [this]
  exact hx
def rCatU (K : PySem.W.Frag) : R2 := fun x y H Q => ∃ a b xs ys, x = .ref a ∧ y = .ref b ∧ SqT K H a xs ∧ SqT K H b ys ∧ xs.length + ys.length ≤ sizeLine ∧ NewT K H Q (xs ++ ys)
theorem op_catU : OpR X (binaryOp .Add) (rCatU X.K) := by
  intro pins s σ H x y v u Q I rx ry h
  obtain ⟨a, b, xs, ys, rfl, rfl, ha, hb, hz, k⟩ := h
  by_cases hx : xs = []
  · subst hx
    cases rx
    cases ry
    obtain ⟨its, r1, p1, _⟩ := I.tuple ha
    obtain ⟨its2, r2, p2, _⟩ := I.tuple hb
    cases r1
    obtain ⟨⟨cls, dd, data, sl⟩, ho, hc, n, hd⟩ := id p1
    obtain ⟨⟨cls2, dd2, data2, sl2⟩, ho2, hc2, n2, hd2⟩ := id p2
    simp only at hc hd hc2 hd2
    subst hc hd hc2 hd2
    exact concat_meets ⟨_, ho, rfl⟩ ⟨_, ho2, rfl⟩ noFill_tuple_add seq_tuple_add PySem.F.slot_tuple_add PySem.F.entry_tuple_add (PySem.F.args_tuple_add_2 _ _)
      (tuple_addW0 a b _ its2.toArray n n2 dd dd2 sl sl2 (by simp)) ⟨ho, ho2, ⟨.ref b, H, I, rfl, k.self hb⟩⟩
  · refine op_catT pins s σ H _ _ v u Q I rx ry ⟨a, b, xs, ys, rfl, rfl, ha, hb, hx, hz, fun e => ?_, fun _ p hp => k.new hp⟩
    subst e
    rw [List.append_nil] at k
    exact k.self ha
def rRepU (K : PySem.W.Frag) : R2 := fun x y H Q => ∃ l k xs, x = .ref l ∧ y = .int k ∧ SqT K H l xs ∧ 0 ≤ k ∧ k ≤ 1000 ∧ xs.length ≤ 1000 ∧ NewT K H Q (List.replicate k.toNat xs).flatten
theorem op_repU : OpR X (binaryOp .Mult) (rRepU X.K) := by
  intro pins s σ H x y v u Q I rx ry h
  obtain ⟨l, k, xs, rfl, rfl, hT, h1, h2, hz, kq⟩ := h
  by_cases hne : xs ≠ [] ∧ 2 ≤ k
  · exact op_repT pins s σ H _ _ v u Q I rx ry ⟨l, k, xs, rfl, rfl, hT, hne.1, hne.2, h2, hz, fun p hp => kq.new hp⟩
  cases rx
  obtain ⟨t, rfl⟩ := ry
  obtain ⟨its, r, ⟨⟨cls, dd, data, sl⟩, ho, hc, n, hd⟩, hs⟩ := I.tuple hT
  simp only at hc hd
  subst hc hd
  have c0 : (decide (k < -(2 ^ 63)) || decide (k ≥ 2 ^ 63)) = false := by
    rw [decide_eq_false (by omega), decide_eq_false (by omega)] <;> rfl
  by_cases hs1 : (its.toArray.isEmpty || k == 1) = true
  · refine wpAny_binaryOp_repeat_ref (T := "tuple") (U := "int") (by decide) ⟨_, ho, rfl⟩ (fun s' => typeIs_int s' k t) noFill_tuple_mul F.fills_int_mul F.slot_int_rmul repeat_tuple F.slot_int_index.lookup
      (call_meets F.slot_int_rmul (typeIs_int s k t) F.entry_int_rmul (F.args_int_rmul_2 _ _) (int_rmul_tuple k t l its.toArray n dd sl)
        ⟨ho, rfl, ⟨_, ho, rfl⟩, call_meets F.slot_tuple_mul ⟨_, ho, rfl⟩ F.entry_tuple_mul (F.args_tuple_mul_2 _ _) (tuple_mulS l its.toArray n dd sl k t c0 hs1) ⟨ho, ?_⟩⟩)
    refine ⟨.ref l, H, I, rfl, kq.self ?_⟩
    rw [Bool.or_eq_true] at hs1
    rcases hs1 with e | e
    · have ei : its = [] := by simpa using e
      have ex : xs = [] := by
        have := r.length
        rw [ei] at this
        exact List.eq_nil_of_length_eq_zero this
      subst ex
      have : (List.replicate k.toNat ([] : List V)).flatten = [] := by simp
      rw [this]
      exact hT
    · have : k = 1 := eq_of_beq e
      subst this
      have : (List.replicate (1 : Int).toNat xs).flatten = xs := by simp
      rw [this]
      exact hT
  · have hs1' : (its.toArray.isEmpty || k == 1) = false := by
      cases e : (its.toArray.isEmpty || k == 1) with
      | false => rfl
      | true => exact absurd e hs1
    have hxs : xs ≠ [] := fun e => by
      subst e
      cases r
      exact hs1 rfl
    have k1 : k ≠ 1 := fun e => by
      rw [e] at hs1'
      simp at hs1'
    have k0 : k = 0 := by
      have : ¬ 2 ≤ k := fun e => hne ⟨hxs, e⟩
      omega
    subst k0
    refine wpAny_binaryOp_repeat_ref (T := "tuple") (U := "int") (by decide) ⟨_, ho, rfl⟩ (fun s' => typeIs_int s' 0 t) noFill_tuple_mul F.fills_int_mul F.slot_int_rmul repeat_tuple F.slot_int_index.lookup
      (call_meets F.slot_int_rmul (typeIs_int s 0 t) F.entry_int_rmul (F.args_int_rmul_2 _ _) (int_rmul_tuple 0 t l its.toArray n dd sl)
        ⟨ho, rfl, ⟨_, ho, rfl⟩, call_meets F.slot_tuple_mul ⟨_, ho, rfl⟩ F.entry_tuple_mul (F.args_tuple_mul_2 _ _) (tuple_mul0 l its.toArray n dd sl 0 t c0 hs1' rfl) ⟨ho, ?_⟩⟩)
    refine ⟨.ref s.heap.objs.size, _, I.laid (t' := s.toks) (o := .tup []) (fun b ob q => Heap.get?_push_of_some _ q) (Nat.le_refl _) ?_, rfl, kq.new (xs := []) (I.hok.fresh (Nat.le_refl _))⟩
    exact ⟨Nat.zero_le _, [], .nil, IsTup.new _ _⟩
end
end WR
set_option Elab.async false
set_option linter.all false
set_option maxRecDepth 100000
set_option maxHeartbeats 1000000
/-! Tuples that have no dict of their own: a method of theirs can be called (t.count(x)). tuple(..), slices, + and * make such. -/
namespace WB
open PySem PySem.Spec PyProof PyProof.Rows L2 WR
/-- no dict of its own -/
def Bare (H : Hp) (a : Addr) : Prop := ∃ (o : Obj) (u : HO), H a = some (.frz o u) ∧ o.dict = none
structure SqB (K : PySem.W.Frag) (H : Hp) (a : Addr) (xs : List V) : Prop where
  sq : SqT K H a xs
  bare : Bare H a
instance {K : PySem.W.Frag} {H : Hp} {a : Addr} {xs : List V} : Coe (SqB K H a xs) (SqT K H a xs) := ⟨SqB.sq⟩
theorem SqB.same {K : PySem.W.Frag} {H H' : Hp} {a : Addr} {xs : List V} (s : Same H H') (h : SqB K H a xs) : SqB K H' a xs := by
  obtain ⟨h1, h2⟩ := h
  refine ⟨WR.Same.seqT s h1, ?_⟩
  obtain ⟨o, u, e, d⟩ := h2
  exact ⟨o, u, s _ _ e, d⟩
/-- some such tuple of these values, all else as it stood -/
def NewB (K : PySem.W.Frag) (H : Hp) (Q : VK) (xs : List V) : Prop := ∀ p H', Same H H' → SqB K H' p xs → Q (.ref p) H'
theorem NewB.self {K : PySem.W.Frag} {H : Hp} {Q : VK} {xs : List V} {a : Addr} (k : NewB K H Q xs) (h : SqB K H a xs) : Q (.ref a) H := k a H (Same.refl H) h
theorem NewB.new {K : PySem.W.Frag} {H : Hp} {Q : VK} {xs : List V} (k : NewB K H Q xs) {p : Addr} (hp : H p = none) {o : Obj} (d : o.dict = none) : Q (.ref p) (upd H p (.frz o (.tup xs))) :=
  k p _ (same_upd hp) ⟨.inl (.inr ⟨o, upd_same⟩), ⟨o, _, upd_same, d⟩⟩
section
variable {X : Cx} {pins : List (Addr × Obj)} {σ : L2.St} {H : Hp} {s : Shared} {Q : VK} {xs : List V} {its : List Value}
/-- a new tuple of these -/
theorem born (I : Inv X pins σ H s) {h1 : Heap} (kp : ∀ b o, s.heap.get? b = some o → h1.get? b = some o) (r : Vals xs its) (hz : xs.length ≤ sizeLine) (k : NewB X.K H Q xs) :
    ∃ (v : V) (H2 : Hp), Inv X pins σ H2 { s with heap := h1.push { cls := .type "tuple", data := .seq its.toArray } } ∧ RelV v (.ref h1.objs.size) ∧ Q v H2 := by
  have J : Inv X pins σ H { s with heap := h1 } := I.kept (t' := s.toks) kp
  have hn := J.hok.fresh (Nat.le_refl h1.objs.size)
  have new : (h1.push { cls := .type "tuple", data := .seq its.toArray }).get? h1.objs.size = some { cls := .type "tuple", data := .seq its.toArray } := Heap.get?_push_size _ rfl
  exact ⟨.ref _, _, J.laid (t' := s.toks) (o := .frz { cls := .type "tuple", data := .seq its.toArray } (.tup xs)) (fun _ _ e => Heap.get?_push_of_some _ e) (Nat.le_refl _) ⟨new, hz, its, r, IsTup.new _ _⟩, rfl, k.new hn rfl⟩
theorem call_tupB : CallR X (.type "tuple") (fun xs H Q => ∃ p ys, xs = [.ref p] ∧ ((SqL X.K H p ys ∧ NewB X.K H Q ys) ∨ (SqB X.K H p ys ∧ Q (.ref p) H))) := by
  intro pins s σ H vs us Q I r h
  obtain ⟨p, ys, rfl, h⟩ := h
  obtain ⟨u, rfl, rx⟩ := vals1 r
  cases rx
  rcases h with ⟨hq, q⟩ | ⟨hq, q⟩
  · obtain ⟨its, rv, pl, hz⟩ := I.list hq
    exact call_tuple_list pl.isList (fun h1 kp => born I kp rv hz q) (by rw [List.size_toArray, ← rv.length]; exact hz)
  · obtain ⟨its, rv, pl, _⟩ := I.tuple hq.sq
    exact call_tuple_same pl ⟨.ref p, H, I, rfl, q⟩
/-- a display -/
theorem pe_tupB {es : List Expr} {t : TA} {pos : Pos} {x1} (h : PA X es t) : PE X (.Tuple es x1 pos) (fun σ H Q => t σ H fun xs H1 => xs.length ≤ sizeLine ∧ NewB X.K H1 Q xs) := by
  constructor
  intro pins s σ H Q I hq
  refine wpAny_Tuple_spliced (thn (h.run pos pins s σ H _ I hq) fun us s1 z => ?_)
  obtain ⟨xs, H1, I1, r, z, q⟩ := z
  exact ⟨by rw [← r.length]; exact z, born I1 (fun _ _ e => e) r z q⟩
def rSlB (K : PySem.W.Frag) : V → Option Int → Option Int → Hp → VK → Prop := fun x lo hi H Q => ∃ a xs, x = .ref a ∧ SqB K H a xs ∧ NewB K H Q (cutV xs lo hi)
theorem sl_tupB : SlR X (rSlB X.K) := by
  intro pins s σ H x v vl vu lo hi sl Q I rx hs pl pu h
  obtain ⟨a, xs, rfl, hx, k⟩ := h
  cases rx
  obtain ⟨its, r, ht, hz⟩ := I.tuple hx.sq
  have hlen : its.toArray.size = xs.length := List.size_toArray.trans r.length.symm
  refine ⟨"tuple", _, PyProof.Rows.slot_tuple_getitem.lookup, ht.typeIs, ?_⟩
  by_cases hw : HT.sIx xs.length 0 lo = 0 ∧ HT.sIx xs.length xs.length hi = xs.length
  · have e : cutV xs lo hi = xs := by
      unfold cutV
      rw [hw.1, hw.2, List.drop_zero, Nat.sub_zero, List.take_of_length_le (Nat.le_refl _)]
    rw [e] at k
    exact getItem_tuple_whole ht hs pl pu (hlen.symm ▸ hw) ⟨.ref a, H, I, rfl, k.self hx⟩
  · refine HT.getItem_tuple_cut ht hs pl pu (hlen.symm ▸ hw) ?_ (hlen.symm ▸ hz)
    rw [hlen]
    exact born I (fun _ _ e => e) ((r.drop _).take _) (Nat.le_trans (cutV_length xs lo hi) hz) k
def rCatB (K : PySem.W.Frag) : R2 := fun x y H Q => ∃ a b xs ys, x = .ref a ∧ y = .ref b ∧ SqB K H a xs ∧ SqB K H b ys ∧ xs.length + ys.length ≤ sizeLine ∧ NewB K H Q (xs ++ ys)
theorem op_catB : OpR X (binaryOp .Add) (rCatB X.K) := by
  intro pins s σ H x y v u Q I rx ry h
  obtain ⟨a, b, xs, ys, rfl, rfl, ha, hb, hz, k⟩ := h
  by_cases hx : xs = []
  · subst hx
    exact op_catA pins s σ H _ _ v u Q I rx ry ⟨a, b, [], ys, rfl, rfl, ha.sq, hb.sq, hz, fun _ => k.self hb, fun z => absurd rfl z, fun z => absurd rfl z⟩
  cases rx
  cases ry
  obtain ⟨its, r1, p1, _⟩ := I.tuple ha.sq
  obtain ⟨its2, r2, p2, _⟩ := I.tuple hb.sq
  refine HT.cat_tup p1 p2 (fun z => hx (r1.nil_iff.mp z)) (fun z => ?_) (fun z => ?_) (r1.length ▸ r2.length ▸ hz)
  · have e := r2.nil_iff.mp z
    subst e
    rw [List.append_nil] at k
    exact ⟨.ref a, H, I, rfl, k.self ha⟩
  · exact born I (fun _ _ e => e) (r1.append r2) (by rw [List.length_append]; exact hz) k
def rRepB (K : PySem.W.Frag) : R2 := fun x y H Q => ∃ l k xs, x = .ref l ∧ y = .int k ∧ SqB K H l xs ∧ 0 ≤ k ∧ k ≤ 1000 ∧ xs.length ≤ 1000 ∧ NewB K H Q (List.replicate k.toNat xs).flatten
theorem op_repB : OpR X (binaryOp .Mult) (rRepB X.K) := by
  intro pins s σ H x y v u Q I rx ry h
  obtain ⟨l, k, xs, rfl, rfl, hT, h1, h2, hz, kq⟩ := h
  cases rx
  obtain ⟨t, rfl⟩ := ry
  obtain ⟨its, r, ⟨⟨cls, dd, data, sl⟩, ho, hc, n, hd⟩, hs⟩ := I.tuple hT.sq
  simp only at hc hd
  subst hc hd
  have c0 : (decide (k < -(2 ^ 63)) || decide (k ≥ 2 ^ 63)) = false := by
    rw [decide_eq_false (by omega), decide_eq_false (by omega)] <;> rfl
  have hle : its.length = xs.length := r.length.symm
  have big : k.toNat * xs.length ≤ 1000 * 1000 := Nat.mul_le_mul (by omega) hz
  have flat : (List.replicate k.toNat xs).flatten.length ≤ sizeLine := by
    rw [PyProof.Rows.lm_len_rep_flat, sizeLine_eq]
    omega
  -- what the slot says is what the operator says
  have slot : ∀ {E : Value → Shared → Prop} {Qv : Value → Shared → Prop}, wpAny (model X.prog X.w) X.A (call (.builtin "tuple.__mul__") [.ref l, .int k t]) Qv E s → wpAny (model X.prog X.w) X.A (binaryOp .Mult (.ref l) (.int k t)) Qv E s := fun hh =>
    wpAny_binaryOp_repeat_ref (T := "tuple") (U := "int") (by decide) ⟨_, ho, rfl⟩ (fun s' => typeIs_int s' k t) noFill_tuple_mul F.fills_int_mul F.slot_int_rmul repeat_tuple F.slot_int_index.lookup
      (call_meets F.slot_int_rmul (typeIs_int s k t) F.entry_int_rmul (F.args_int_rmul_2 _ _) (int_rmul_tuple k t l its.toArray n dd sl) ⟨ho, rfl, ⟨_, ho, rfl⟩, hh⟩)
  refine slot ?_
  by_cases hs1 : (its.toArray.isEmpty || k == 1) = true
  · refine call_meets F.slot_tuple_mul ⟨_, ho, rfl⟩ F.entry_tuple_mul (F.args_tuple_mul_2 _ _) (tuple_mulS l its.toArray n dd sl k t c0 hs1) ⟨ho, ?_⟩
    have e : (List.replicate k.toNat xs).flatten = xs := by
      rcases Bool.or_eq_true_iff.mp hs1 with e | e
      · have e0 : xs = [] := List.eq_nil_of_length_eq_zero (by rw [← hle]; simpa using e)
        rw [e0]
        simp
      · rw [show k = 1 from eq_of_beq e]
        simp
    rw [e] at kq
    exact ⟨.ref l, H, I, rfl, kq.self hT⟩
  · have hs2 := Bool.eq_false_iff.mpr hs1
    obtain ⟨n1, n2⟩ := Bool.or_eq_false_iff.mp hs2
    by_cases k0 : k = 0
    · subst k0
      refine call_meets F.slot_tuple_mul ⟨_, ho, rfl⟩ F.entry_tuple_mul (F.args_tuple_mul_2 _ _) (tuple_mul0 l its.toArray n dd sl 0 t c0 hs2 rfl) ⟨ho, ?_⟩
      exact born (its := []) I (fun _ _ e => e) .nil (Nat.zero_le _) kq
    · have c2 : (decide (k ≤ 0) || its.toArray.isEmpty) = false := by rw [n1, Bool.or_false, decide_eq_false (by omega)]
      have hsz : its.toArray.size = xs.length := List.size_toArray.trans hle
      have c3 : ((its.toArray.size : Nat) : Int) * k ≤ 1000000 := by
        rw [hsz]
        have : ((xs.length : Nat) : Int) * k ≤ 1000 * 1000 := Int.mul_le_mul (by omega) h2 h1 (by omega)
        omega
      have c4 : Builtin.Tuple.tupleTooMany (((its.toArray.size : Nat) : Int) * k) = false := by
        unfold Builtin.Tuple.tupleTooMany
        rw [sizeLine_eq, decide_eq_false (by omega)]
      have many : (List.replicate k.toNat its).flatten.length ≤ sizeLine := by rw [PyProof.Rows.lm_len_rep_flat, hle, sizeLine_eq]; omega
      refine call_meets F.slot_tuple_mul ⟨_, ho, rfl⟩ F.entry_tuple_mul (F.args_tuple_mul_2 _ _) (tuple_mulW l its.toArray n dd sl k t c0 hs2 c2 (by omega) c4 (by rw [size_rep, List.size_toArray]; exact many)) ⟨ho, ?_⟩
      rw [size_rep]
      exact born I (fun _ _ e => e) (r.rep k.toNat) flat kq
end
end WB
set_option Elab.async false
set_option linter.all false
set_option maxRecDepth 100000
set_option maxHeartbeats 2000000
/-! Words: rows of letters. -/
namespace W11
open PySem L2 PySem.Spec PyProof.Rows WR WB
def top (i : Nat) : Stmt := PySem.Challenge.pw_handlerims_k11_rims_made_read_and_refuse.main.body.getD i (.Pass ⟨0, 0, 0, 0⟩)
abbrev sCon : Stmt := top 10
abbrev sShr : Stmt := top 11
abbrev sRnd : Stmt := top 12

theorem gen_heap {P : Hp → Prop} {H : Hp} (h : ∀ H3, H3 = H → P H3) : P H := h H rfl
theorem yes_te {σ : L2.St} {H : Hp} {A B : Hp → Prop} (h : A H) : tYes σ H (fun b H3 => if b = true then A H3 else B H3) := by
  show (if (true : Bool) = true then A H else B H)
  exact iteT h
/-! ### a def that the module's name x holds, with its promise -/
structure Cal (P : Program) (w : World) (K : PySem.W.Frag) (mg : Str → Option Value) (base : Heap) (x : Str) (k : Nat) (ps : List Str) (sp : Sp) : Prop where
  ex : ∃ (f : Addr) (fd : FuncData), FnOk P w K mg base CX0 k f fd ps sp ∧ mg x = some (.ref f) ∧ PySem.W.keepIn K (.ref f) = true ∧ Binds K fd ps []
section
variable {X : Cx} {x : Str} {k j : Nat} {ps : List Str} {sp : Sp} {p pos : Pos} {e : Expr} {es : List Expr} {t : TA}
theorem pe_cal (C : Cal X.prog X.w X.K X.mg X.base x k ps sp) (hr : Room j X.A) (hkj : k ≤ j) (hg : Gl X x) (ha : PA X (e :: es) t) (hdb : (x == ("__debug__" : Str)) = false := by decide)
    (he : starEach (e :: es) X.env = (false, eval e X.env) :: starEach es X.env := by rfl) (hpl : (backTo pos (starEach es X.env)).any (·.1) = false := by rfl) :
    PE X (.Call (.Name x p) (e :: es) [] pos) (tCall sp [] E0 t) := by
  obtain ⟨f, fd, F, hm, hk, hb⟩ := C.ex
  exact pe_call F (hr.mono hkj) hg hm hk hb .nil pass0 ha hdb he hpl
end
/-! ### comprehensions that change nothing -/
theorem lc_in {wi : TI} {g : TG} {tt : TT} {te : TE} {vs : List Nat} {σ : L2.St} {H : Hp} {Q : VK} (h : wi σ H fun J H1 => tLc (fun _ H R => R J H) g tt te vs σ H1 Q) : tLc wi g tt te vs σ H Q := h
theorem lcp {J : It} {xs : List V} {G : Hp → Prop} (w : Walk J xs.length G (YAt xs)) {g : TG} {tt : TT} {te : TE} {vs : List Nat} {σ : L2.St} {H1 : Hp} {Q : VK} (f : V → Bool) (v : V → V) (hz : xs.length < 40000) (hG : ∀ H, Same H1 H → G H)
    (hs : ∀ x, x ∈ xs → ∀ H, Same H1 H → ∀ (Qy : V → Hp → Prop) (Qn : Hp → Prop), (f x = true → ∀ H', Same H H' → Qy (v x) H') → (f x = false → ∀ H', Same H H' → Qn H') →
      g x (wipe σ vs) H fun σ2 H2 => wipe σ2 vs = wipe σ vs ∧ tt σ2 H2 fun b H3 => if b = true then te σ2 H3 Qy else Qn H3)
    (hd : ∀ (D : Addr) H', H1 D = none → Same H1 H' → H' D = some (.lst ((xs.filter f).map v)) → Q (.ref D) H') : tLc (fun _ H R => R J H) g tt te vs σ H1 Q := by
  intro D hD
  refine lc_it w (fun i H => Same H1 H ∧ H D = some (.lst (((xs.take i).filter f).map v))) ⟨fun b o e => by rw [upd_ne (ne_of_none e hD)]; exact e, upd_same⟩ (fun i H _ q => hG H q.1) ?_ ?_
  · rintro i x H H' hi q ⟨rfl, hx⟩
    have hm : x ∈ xs := List.mem_of_getElem? hx
    have et : xs.take (i + 1) = xs.take i ++ [x] := by
      have hx2 : xs[i] = x := (List.getElem?_eq_some_iff.mp hx).2
      rw [List.take_succ_eq_append_getElem hi, hx2]
    refine hs x hm H' q.1 _ _ (fun hf H2 s2 => ⟨_, s2 _ _ q.2, ?_, ?_, ?_⟩) (fun hf H2 s2 => ⟨fun b o e => s2 b o (q.1 b o e), ?_⟩)
    · refine Evl.sz_lt ?_
      rw [List.length_map]
      have := List.length_filter_le f (xs.take i)
      rw [List.length_take] at this
      omega
    · intro b o e
      rw [upd_ne (ne_of_none e hD)]
      exact s2 b o (q.1 b o e)
    · rw [upd_same, et, List.filter_append, List.map_append, List.filter_cons, if_pos hf]
      rfl
    · rw [et, List.filter_append, List.filter_cons, if_neg (by rw [hf]; decide)]
      show H2 D = some (.lst (((xs.take i).filter f ++ []).map v))
      rw [List.append_nil]
      exact s2 _ _ q.2
  · intro H q
    have q2 := q.2
    rw [List.take_length] at q2
    exact hd D H hD q.1 q2

theorem ret_cb {r : List V → Hp → VK → Prop} {te : TE} {D : Ends} {σ : L2.St} {H : Hp} (h : te σ H fun x H1 => r [x] H1 D.rt) : tRet (tCB r (tCons te tNil)) D σ H := h
theorem ret_e {te : TE} {D : Ends} {σ : L2.St} {H : Hp} (h : te σ H D.rt) : tRet te D σ H := h
theorem iteT' {c : Bool} {A B : Prop} (hc : c = true) (h : A) : if c = true then A else B := by rw [if_pos hc]; exact h
abbrev iv (ns : List Int) : List V := ns.map V.int
def SqE (K : PySem.W.Frag) (H : Hp) (a : Addr) (xs : List V) : Prop := SqL K H a xs ∨ SqT K H a xs
theorem SqE.same {K : PySem.W.Frag} {H H' : Hp} {a : Addr} {xs : List V} (h : SqE K H a xs) (s : Same H H') : SqE K H' a xs := by
  rcases h with h | h
  · exact .inl (s.seq h)
  · exact .inr (WR.Same.seqT s h)
def SqW (K : PySem.W.Frag) (H : Hp) (a : Addr) (xs : List V) : Prop := SqL K H a xs ∨ SqB K H a xs
theorem SqW.same {K : PySem.W.Frag} {H H' : Hp} {a : Addr} {xs : List V} (h : SqW K H a xs) (s : Same H H') : SqW K H' a xs := by
  rcases h with h | h
  · exact .inl (s.seq h)
  · exact .inr (SqB.same s h)
theorem SqW.e {K : PySem.W.Frag} {H : Hp} {a : Addr} {xs : List V} (h : SqW K H a xs) : SqE K H a xs := h.imp id SqB.sq
def spCon (K : PySem.W.Frag) : Sp := fun vs H Q _ => ∃ (a : Addr) (ns : List Int), vs = [.ref a] ∧ SqT K H a (iv ns) ∧ ns.length ≤ 1000 ∧ NewB K H Q (iv (Fr.con ns))
def spShr (K : PySem.W.Frag) : Sp := fun vs H Q _ => ∃ (a : Addr) (ns : List Int), vs = [.ref a] ∧ SqE K H a (iv ns) ∧ ns.length ≤ 1000 ∧ NewB K H Q (iv (Fr.shr ns))
def spRnd (K : PySem.W.Frag) : Sp := fun vs H Q _ => ∃ (a : Addr) (ns : List Int), vs = [.ref a] ∧ SqE K H a (iv ns) ∧ ns.length ≤ 1000 ∧ Fr.NZ ns ∧ NewB K H Q (iv (Fr.rnd ns))
structure TxA (mg : Str → Option Value) : Prop where
  tuple : mg "tuple" = none
  len : mg "len" = none
section
variable {P : Program} {w : World} {K : PySem.W.Frag} {mg : Str → Option Value} {base : Heap}
theorem scCon : FnScope ["letters", "letter"] ["letters"] (defScope sCon) := ⟨rfl, rfl, rfl, by decide +kernel, rfl, by decide +kernel, by decide +kernel⟩
theorem ok_con {f : Addr} {fd : FuncData} (F : Fun K "contrary_letters" "contrary_letters" sCon f fd) (T : TxA mg) : FnOk P w K mg base CX0 1 f fd ["letters"] (spCon K) := by
  refine F.ok scCon (fun vs H Q E h => ?_) (fun cdv A outer s H vs Q E hr h => ?_)
  · obtain ⟨a, ns, rfl, _⟩ := h
    rfl
  · obtain ⟨a, ns, rfl, hS, hlen, k⟩ := h
    refine ⟨_, pss_one (ps_ret (pe_callTy call_tupB (by rfl) T.tuple (by decide +kernel) (pa_cons (pe_lc (own := [("letter", 1)]) (g := gName 1) (tt := tYes) rfl scCon.nd (pi_tup (pe_revT (pv 0)))
      (blkOk_by (N := ["letters", "letter"]) (sc := defScope sCon) (by decide +kernel)) (fun _ _ _ _ _ => pg_name (i := 1) scCon.nd rfl (Or.inl rfl)) (fun _ _ _ _ _ => pts_nil)
      (fun _ _ _ _ _ => pe_un un_neg (pv 1))) pa_nil))), ?_⟩
    refine ret_cb (lc_in ?_)
    refine ⟨_, rfl, a, iv ns, rfl, hS, fun p hp => ?_⟩
    refine ⟨p, rfl, ⟨_, SqT.of upd_same⟩, ?_⟩
    refine lcp (walk_tup (xs := (iv ns).reverse)) (fun _ => true) (fun x => match x with | .int i => .int (-i) | _ => .non) (by simp; omega) (fun H2 s2 => SqT.of (s2 _ _ upd_same)) ?_ ?_
    · intro x hx H2 s2 Qy Qn ky kn
      obtain ⟨i, rfl⟩ : ∃ i, x = V.int i := by
        simp at hx
        obtain ⟨i, _, rfl⟩ := hx
        exact ⟨i, rfl⟩
      refine ⟨rfl, yes_te ?_⟩
      exact ⟨_, rfl, i, rfl, ky rfl H2 (fun _ _ e => e)⟩
    · intro D H2 hD s2 h2
      refine ⟨D, _, rfl, .inl ⟨SqL.of h2, ?_⟩⟩
      have e : (((iv ns).reverse.filter fun _ => true).map fun x => match x with | .int i => V.int (-i) | _ => .non) = iv (Fr.con ns) := by
        rw [List.filter_eq_self.mpr (fun _ _ => rfl)]
        unfold Fr.con
        simp [iv, List.map_reverse, Function.comp_def]
      rw [e]
      exact fun l H3 s3 b3 => k l H3 ((same_upd hp).trans (s2.trans s3)) b3
theorem scShr : FnScope ["letters", "left", "letter"] ["letters"] (defScope sShr) := ⟨rfl, rfl, rfl, by decide +kernel, rfl, by decide +kernel, by decide +kernel⟩
theorem act_take {ns : List Int} {i : Nat} {x : Int} (h : ns[i]? = some x) : Fr.act [] (ns.take (i + 1)) = Fr.push (Fr.act [] (ns.take i)) x := by
  have hi : i < ns.length := (List.getElem?_eq_some_iff.mp h).1
  have hx : ns[i] = x := (List.getElem?_eq_some_iff.mp h).2
  rw [List.take_succ_eq_append_getElem hi, hx, Fr.act_snoc]
theorem act_len : ∀ (ns s : List Int), (Fr.act s ns).length ≤ s.length + ns.length
  | [], s => by simp [Fr.act]
  | a :: t, s => by
    rw [Fr.act_cons]
    have h1 := act_len t (Fr.push s a)
    have h2 : (Fr.push s a).length ≤ s.length + 1 := by
      cases s with
      | nil => simp [Fr.push]
      | cons b u =>
        show (if b = -a then u else a :: b :: u).length ≤ _
        split <;> simp <;> omega
    simp only [List.length_cons]
    omega
theorem shr_len (ns : List Int) : (Fr.shr ns).length ≤ ns.length := by
  unfold Fr.shr
  rw [List.length_reverse]
  simpa using act_len ns []
theorem ok_shr {f : Addr} {fd : FuncData} (F : Fun K "shortened_letters" "shortened_letters" sShr f fd) (T : TxA mg) : FnOk P w K mg base CX0 1 f fd ["letters"] (spShr K) := by
  refine F.ok scShr (fun vs H Q E h => ?_) (fun cdv A outer s H vs Q E hr h => ?_)
  · obtain ⟨a, ns, rfl, _⟩ := h
    rfl
  · obtain ⟨a, ns, rfl, hS, hlen, k⟩ := h
    rcases hS with hS | hS
    · refine ⟨_, pss_cons (ps_set (i := 1) scShr.nd rfl (Or.inl rfl) (pe_lst pa_nil))
        (pss_cons (ps_for PassesOwn.never rfl (pi_list (pv 0)) (pg_name (i := 2) scShr.nd rfl (Or.inl rfl))
          (pss_one (ps_if (PW.pt (pw_and (pt_truth (pv 1) (by intro _; rfl)) (pw_and1 (pt_cmpR op_eq (pe_ix ix_list (pv 1) (pe_un un_neg pe_int) (fun _ _ => rfl)) (pe_un un_neg (pv 2)) (nomark _)))))
            (pss_one (ps_expr (pe_bm0 PySem.F.plainAttrs_list PySem.F.slot_list_pop PySem.F.type_list_pop mt_pop (pv 1))))
            (pss_one (ps_expr (pe_bm PySem.F.plainAttrs_list PySem.F.slot_list_append PySem.F.type_list_append mt_append (pv 1) (pa_cons (pv 2) pa_nil)))))))
        (pss_one (ps_ret (pe_callTy call_tupB (by rfl) T.tuple (by decide +kernel) (pa_cons (pv 1) pa_nil))))), ?_⟩
      refine ⟨Nat.zero_le _, fun l hl => ?_⟩
      refine ⟨_, rfl, a, rfl, ⟨_, (by have s := same_upd (o := HO.lst []) hl; exact (s.seq hS))⟩, for_list (K := K) (a := a) (xs := iv ns) (fun i σ H1 => ∃ v, σ = [some (.ref a), some (.ref l), v] ∧ Same H H1 ∧ H1 l = some (.lst (iv (Fr.act [] (ns.take i)).reverse)))
        ⟨none, rfl, same_upd hl, by rw [upd_same]; rfl⟩ (fun i σ H1 _ ⟨_, _, s, _⟩ => (s.seq hS)) ?_ ?_⟩
      · rintro i y σ H1 hi ⟨v, rfl, sm, hL⟩
        obtain ⟨x, hx, rfl⟩ : ∃ x, ns[i]? = some x ∧ y = V.int x := by
          rw [List.getElem?_map] at hi
          cases e : ns[i]? with
          | none => rw [e] at hi; cases hi
          | some x => rw [e] at hi; exact ⟨x, rfl, (Option.some.inj hi).symm⟩
        have hi2 : i < ns.length := (List.getElem?_eq_some_iff.mp hx).1
        have nx := act_take hx
        have hsz : (Fr.act [] (ns.take i)).length ≤ 1000 := by
          have := act_len (ns.take i) []
          rw [List.length_take] at this
          simp at this
          omega
        have put : ∀ xs, Same H (L2.upd H1 l (.lst xs)) := fun xs b o e => by
          rw [upd_ne (ne_of_none e hl)]
          exact sm b o e
        refine ⟨_, rfl, _, .inl ⟨_, SqL.of hL, rfl⟩, ?_⟩
        cases est : Fr.act [] (ns.take i) with
        | nil =>
          rw [est] at hL nx
          refine iteF ?_
          refine iteF ?_
          refine ⟨_, rfl, .inl ⟨rfl, _, SqL.of hL⟩, _, rfl, l, _, _, rfl, rfl, hL, Evl.sz_lt (by simp), ?_⟩
          refine ⟨_, rfl, put _, ?_⟩
          rw [upd_same, nx]
          rfl
        | cons b t =>
          rw [est] at hL nx hsz
          have eL : iv (b :: t).reverse = iv t.reverse ++ [V.int b] := by simp [iv]
          refine iteT' (by simp [iv]) ?_
          refine ⟨_, rfl, _, rfl, l, _, _, _, rfl, rfl, SqL.of hL, (by rw [eL]; exact atI_last _ _), _, rfl, x, rfl, rfl, _, rfl, ?_⟩
          refine ite2 (fun hb => ?_) (fun hb => ?_)
          · have eb : b = -x := by
              have := of_decide_eq_true hb
              injection this
            refine ⟨_, rfl, .inl ⟨rfl, _, SqL.of hL⟩, l, _, V.int b, rfl, rfl, hL, (by rw [eL]; simp), ?_⟩
            refine ⟨_, rfl, put _, ?_⟩
            rw [upd_same, nx]
            have : Fr.push (b :: t) x = t := by simp [Fr.push, eb]
            rw [this, eL, List.dropLast_concat]
          · have eb : ¬ b = -x := fun e => hb (decide_eq_true (by rw [e]))
            refine ⟨_, rfl, .inl ⟨rfl, _, SqL.of hL⟩, _, rfl, l, _, _, rfl, rfl, hL, Evl.sz_lt (by simp [iv] at hsz ⊢; omega), ?_⟩
            refine ⟨_, rfl, put _, ?_⟩
            rw [upd_same, nx]
            have : Fr.push (b :: t) x = x :: b :: t := by simp [Fr.push, eb]
            rw [this]
            simp [iv]
      · rintro σ H1 ⟨v, rfl, sm, hL⟩
        rw [List.take_of_length_le (by simp)] at hL
        exact ⟨_, rfl, l, _, rfl, .inl ⟨SqL.of hL, fun p H3 s3 b3 => k p H3 (sm.trans s3) b3⟩⟩
    · refine ⟨_, pss_cons (ps_set (i := 1) scShr.nd rfl (Or.inl rfl) (pe_lst pa_nil))
        (pss_cons (ps_for PassesOwn.never rfl (pi_tup (pv 0)) (pg_name (i := 2) scShr.nd rfl (Or.inl rfl))
          (pss_one (ps_if (PW.pt (pw_and (pt_truth (pv 1) (by intro _; rfl)) (pw_and1 (pt_cmpR op_eq (pe_ix ix_list (pv 1) (pe_un un_neg pe_int) (fun _ _ => rfl)) (pe_un un_neg (pv 2)) (nomark _)))))
            (pss_one (ps_expr (pe_bm0 PySem.F.plainAttrs_list PySem.F.slot_list_pop PySem.F.type_list_pop mt_pop (pv 1))))
            (pss_one (ps_expr (pe_bm PySem.F.plainAttrs_list PySem.F.slot_list_append PySem.F.type_list_append mt_append (pv 1) (pa_cons (pv 2) pa_nil)))))))
        (pss_one (ps_ret (pe_callTy call_tupB (by rfl) T.tuple (by decide +kernel) (pa_cons (pv 1) pa_nil))))), ?_⟩
      refine ⟨Nat.zero_le _, fun l hl => ?_⟩
      refine ⟨_, rfl, a, rfl, ⟨_, (by have s := same_upd (o := HO.lst []) hl; exact (WR.Same.seqT s hS))⟩, for_tup (K := K) (a := a) (xs := iv ns) (fun i σ H1 => ∃ v, σ = [some (.ref a), some (.ref l), v] ∧ Same H H1 ∧ H1 l = some (.lst (iv (Fr.act [] (ns.take i)).reverse)))
        ⟨none, rfl, same_upd hl, by rw [upd_same]; rfl⟩ (fun i σ H1 _ ⟨_, _, s, _⟩ => (WR.Same.seqT s hS)) ?_ ?_⟩
      · rintro i y σ H1 hi ⟨v, rfl, sm, hL⟩
        obtain ⟨x, hx, rfl⟩ : ∃ x, ns[i]? = some x ∧ y = V.int x := by
          rw [List.getElem?_map] at hi
          cases e : ns[i]? with
          | none => rw [e] at hi; cases hi
          | some x => rw [e] at hi; exact ⟨x, rfl, (Option.some.inj hi).symm⟩
        have hi2 : i < ns.length := (List.getElem?_eq_some_iff.mp hx).1
        have nx := act_take hx
        have hsz : (Fr.act [] (ns.take i)).length ≤ 1000 := by
          have := act_len (ns.take i) []
          rw [List.length_take] at this
          simp at this
          omega
        have put : ∀ xs, Same H (L2.upd H1 l (.lst xs)) := fun xs b o e => by
          rw [upd_ne (ne_of_none e hl)]
          exact sm b o e
        refine ⟨_, rfl, _, .inl ⟨_, SqL.of hL, rfl⟩, ?_⟩
        cases est : Fr.act [] (ns.take i) with
        | nil =>
          rw [est] at hL nx
          refine iteF ?_
          refine iteF ?_
          refine ⟨_, rfl, .inl ⟨rfl, _, SqL.of hL⟩, _, rfl, l, _, _, rfl, rfl, hL, Evl.sz_lt (by simp), ?_⟩
          refine ⟨_, rfl, put _, ?_⟩
          rw [upd_same, nx]
          rfl
        | cons b t =>
          rw [est] at hL nx hsz
          have eL : iv (b :: t).reverse = iv t.reverse ++ [V.int b] := by simp [iv]
          refine iteT' (by simp [iv]) ?_
          refine ⟨_, rfl, _, rfl, l, _, _, _, rfl, rfl, SqL.of hL, (by rw [eL]; exact atI_last _ _), _, rfl, x, rfl, rfl, _, rfl, ?_⟩
          refine ite2 (fun hb => ?_) (fun hb => ?_)
          · have eb : b = -x := by
              have := of_decide_eq_true hb
              injection this
            refine ⟨_, rfl, .inl ⟨rfl, _, SqL.of hL⟩, l, _, V.int b, rfl, rfl, hL, (by rw [eL]; simp), ?_⟩
            refine ⟨_, rfl, put _, ?_⟩
            rw [upd_same, nx]
            have : Fr.push (b :: t) x = t := by simp [Fr.push, eb]
            rw [this, eL, List.dropLast_concat]
          · have eb : ¬ b = -x := fun e => hb (decide_eq_true (by rw [e]))
            refine ⟨_, rfl, .inl ⟨rfl, _, SqL.of hL⟩, _, rfl, l, _, _, rfl, rfl, hL, Evl.sz_lt (by simp [iv] at hsz ⊢; omega), ?_⟩
            refine ⟨_, rfl, put _, ?_⟩
            rw [upd_same, nx]
            have : Fr.push (b :: t) x = x :: b :: t := by simp [Fr.push, eb]
            rw [this]
            simp [iv]
      · rintro σ H1 ⟨v, rfl, sm, hL⟩
        rw [List.take_of_length_le (by simp)] at hL
        exact ⟨_, rfl, l, _, rfl, .inl ⟨SqL.of hL, fun p H3 s3 b3 => k p H3 (sm.trans s3) b3⟩⟩
end
end W11
set_option Elab.async false
set_option linter.all false
set_option maxRecDepth 100000
set_option maxHeartbeats 2000000
namespace W11
open PySem L2 PySem.Spec PyProof.Rows WR WB
section
variable {P : Program} {w : World} {K : PySem.W.Frag} {mg : Str → Option Value} {base : Heap}
theorem iteF' {c : Bool} {A B : Prop} (hc : c = false) (h : B) : if c = true then A else B := by rw [if_neg (by rw [hc]; exact Bool.false_ne_true)]; exact h
theorem iv_get {ns : List Int} {i : Nat} {x : Int} (h : ns[i]? = some x) : (iv ns)[i]? = some (V.int x) := by
  rw [List.getElem?_map, h]
  rfl
theorem con_get {u : List Int} {j : Nat} (h : j < u.length) : (Fr.con u)[u.length - 1 - j]? = some (-u[j]) := by
  unfold Fr.con
  rw [List.getElem?_map, List.getElem?_reverse (by omega)]
  have e : u.length - 1 - (u.length - 1 - j) = j := by omega
  rw [e, List.getElem?_eq_getElem h]
  rfl
theorem whole_len (u w : List Int) : (u ++ w ++ Fr.con u).length = 2 * u.length + w.length := by
  rw [List.length_append, List.length_append, Fr.con_length]
  omega
theorem whole_lo {u w : List Int} {j : Nat} (h : j < u.length) : (u ++ w ++ Fr.con u)[j]? = some u[j] := by
  rw [List.append_assoc, List.getElem?_append_left h, List.getElem?_eq_getElem h]
theorem whole_hi {u w : List Int} {j : Nat} (h : j < u.length) : (u ++ w ++ Fr.con u)[2 * u.length + w.length - 1 - j]? = some (-u[j]) := by
  rw [List.getElem?_append_right (by rw [List.length_append]; omega), List.length_append]
  have e : 2 * u.length + w.length - 1 - j - (u.length + w.length) = u.length - 1 - j := by omega
  rw [e, con_get h]
theorem mid_lo {u w : List Int} (hw : w ≠ []) : (u ++ w ++ Fr.con u)[u.length]? = w.head? := by
  have : 0 < w.length := List.length_pos_iff.mpr hw
  rw [List.append_assoc, List.getElem?_append_right (Nat.le_refl _), Nat.sub_self, List.getElem?_append_left this, List.head?_eq_getElem?]
theorem mid_hi {u w : List Int} (hw : w ≠ []) : (u ++ w ++ Fr.con u)[2 * u.length + w.length - 1 - u.length]? = w.getLast? := by
  have : 0 < w.length := List.length_pos_iff.mpr hw
  rw [List.append_assoc, List.getElem?_append_right (by omega)]
  have e : 2 * u.length + w.length - 1 - u.length - u.length = w.length - 1 := by omega
  rw [e, List.getElem?_append_left (by omega), List.getLast?_eq_getElem?]
theorem whole_cut (u w : List Int) : ((u ++ w ++ Fr.con u).drop u.length).take w.length = w := by
  rw [List.append_assoc, List.drop_left, List.take_left]
theorem scRnd : FnScope ["letters", "left", "skipped"] ["letters"] (defScope sRnd) := ⟨rfl, rfl, rfl, by decide +kernel, rfl, by decide +kernel, by decide +kernel⟩
theorem cut_nat {xs : List V} {i j : Nat} (hi : i ≤ xs.length) (hj : j ≤ xs.length) : cutV xs (some (i : Int)) (some (j : Int)) = (xs.drop i).take (j - i) := by
  unfold cutV
  rw [HT.sIx_nat, HT.sIx_nat, Nat.min_eq_left hi, Nat.min_eq_left hj]
theorem ok_rnd {f : Addr} {fd : FuncData} (F : Fun K "rounded_letters" "rounded_letters" sRnd f fd) (GS : Cal P w K mg base "shortened_letters" 1 ["letters"] (spShr K)) (T : TxA mg) : FnOk P w K mg base CX0 2 f fd ["letters"] (spRnd K) := by
  refine F.ok scRnd (fun vs H Q E h => ?_) (fun cdv A outer s H vs Q E hr h => ?_)
  · obtain ⟨a, ns, rfl, _⟩ := h
    rfl
  · obtain ⟨a, ns, rfl, hS, hlen, nz, k⟩ := h
    refine ⟨_, pss_cons (ps_set (i := 1) scRnd.nd rfl (Or.inl rfl) (pe_cal GS hr (by decide) (by rfl) (pa_cons (pv 0) pa_nil)))
      (pss_cons (ps_set (i := 2) scRnd.nd rfl (Or.inl rfl) pe_int)
      (pss_cons (ps_while PassesOwn.never (PW.pt (pw_and (pt_cmpR op_lt (pe_op op_mul pe_int (pv 2)) (pe_callB call_len_seq (by rfl) T.len PySem.boot_len (pa_cons (pv 1) pa_nil)) (nomark _))
          (pw_and1 (pt_cmpR op_eq (pe_ix ix_tup (pv 1) (pv 2) (fun _ _ => rfl)) (pe_un un_neg (pe_ix ix_tup (pv 1) (pe_op op_sub (pe_op op_sub (pe_callB call_len_seq (by rfl) T.len PySem.boot_len (pa_cons (pv 1) pa_nil)) pe_int) (pv 2)) (fun _ _ => rfl))) (nomark _)))))
        (pss_one (ps_aug (i := 2) scRnd.nd rfl (Or.inl rfl) pe_int ip_add)))
      (pss_one (ps_ret (pe_slice sl_tupB (pv 1) (po_some (pv 2)) (po_some (pe_op op_sub (pe_callB call_len_seq (by rfl) T.len PySem.boot_len (pa_cons (pv 1) pa_nil)) (pv 2)))))))), ?_⟩
    refine ⟨_, rfl, a, ns, rfl, hS, hlen, fun p H1 sm hPB => ?_⟩
    obtain ⟨u, m, e, c, z⟩ := Fr.parted (Fr.shr ns) nz.shr (Fr.rd_shr ns)
    have er : Fr.rnd ns = m := by
      unfold Fr.rnd
      rw [e, Fr.ends_eq c z]
    rw [er] at k
    have hl := shr_len ns
    rw [e] at hPB hl
    have hP := hPB.sq
    rw [whole_len] at hl
    have L : (iv (u ++ m ++ Fr.con u)).length = 2 * u.length + m.length := by rw [List.length_map, whole_len]
    refine ⟨fun n σ H' => ∃ j, n = u.length - j ∧ j ≤ u.length ∧ σ = [some (.ref a), some (.ref p), some (.int ((j : Nat) : Int))] ∧ H' = H1, ⟨_, 0, rfl, Nat.zero_le _, rfl, rfl⟩, ?_⟩
    rintro n σ H' ⟨j, rfl, hj, rfl, rfl⟩
    refine ⟨_, rfl, _, _, rfl, rfl, .inl ⟨by decide, by decide⟩, _, rfl, p, _, rfl, .inr hP, _, _, rfl, rfl, _, rfl, ?_⟩
    have hback : ((iv (u ++ m ++ Fr.con u)).length : Int) - 1 - (j : Int) = ((2 * u.length + m.length - 1 - j : Nat) : Int) ∨ 2 * u.length + m.length = 0 := by
      rw [L]
      by_cases h0 : 2 * u.length + m.length = 0
      · exact .inr h0
      · left; omega
    by_cases hlt : j < u.length
    · refine iteT' (decide_eq_true (by rw [L]; omega)) ?_
      have hb := hback.resolve_right (by omega)
      refine ⟨_, rfl, _, rfl, p, _, _, _, rfl, rfl, hP, atI_nat (iv_get (whole_lo hlt)), ?_⟩
      refine ⟨_, rfl, _, rfl, p, _, rfl, .inr hP, _, _, rfl, rfl, _, rfl, _, _, rfl, rfl, p, _, _, _, rfl, rfl, hP, (by rw [hb]; exact atI_nat (iv_get (whole_hi hlt))), _, rfl, rfl, _, rfl, ?_⟩
      refine iteT' (decide_eq_true (by show V.int _ = V.int (- -_); rw [Int.neg_neg])) ?_
      refine ⟨fun σ' H'' => ∃ j', u.length - (j + 1) = u.length - j' ∧ j' ≤ u.length ∧ σ' = [some (.ref a), some (.ref p), some (.int ((j' : Nat) : Int))] ∧ H'' = H', fun σ' H'' ⟨j', q1, q2, q3, q4⟩ => ⟨_, by omega, j', q1, q2, q3, q4⟩, ?_⟩
      refine ⟨_, rfl, _, _, rfl, rfl, ?_⟩
      exact ⟨j + 1, rfl, hlt, by rfl, rfl⟩
    · have hj2 : j = u.length := by omega
      subst hj2
      have fin : NewB K H' Q (cutV (iv (u ++ m ++ Fr.con u)) (some ((u.length : Nat) : Int)) (some (((iv (u ++ m ++ Fr.con u)).length : Int) - ((u.length : Nat) : Int)))) := by
        have e1 : ((iv (u ++ m ++ Fr.con u)).length : Int) - ((u.length : Nat) : Int) = ((u.length + m.length : Nat) : Int) := by rw [L]; omega
        rw [e1, cut_nat (by rw [L]; omega) (by rw [L]; omega)]
        have e2 : u.length + m.length - u.length = m.length := by omega
        rw [e2]
        have e3 : ((iv (u ++ m ++ Fr.con u)).drop u.length).take m.length = iv m := by
          rw [← List.map_drop, ← List.map_take, whole_cut]
        rw [e3]
        exact fun q H2 s2 h2 => k q H2 (sm.trans s2) h2
      by_cases hm : m = []
      · have hu := z hm
        refine iteF' (decide_eq_false (by rw [L, hm, hu]; simp)) ?_
        refine iteF ?_
        exact ⟨_, rfl, _, rfl, _, rfl, _, rfl, p, _, rfl, .inr hP, _, rfl, _, _, rfl, rfl, _, rfl, p, _, rfl, hPB, fin⟩
      · refine iteT' (decide_eq_true (by have := List.length_pos_iff.mpr hm; rw [L]; omega)) ?_
        have hb := hback.resolve_right (by have := List.length_pos_iff.mpr hm; omega)
        obtain ⟨x, hx⟩ : ∃ x, m.head? = some x := by
          cases m with
          | nil => exact absurd rfl hm
          | cons x t => exact ⟨x, rfl⟩
        obtain ⟨y, hy⟩ : ∃ y, m.getLast? = some y := ⟨_, List.getLast?_eq_some_getLast hm⟩
        have lo := (mid_lo (u := u) hm).trans hx
        have hi := (mid_hi (u := u) hm).trans hy
        refine ⟨_, rfl, _, rfl, p, _, _, _, rfl, rfl, hP, atI_nat (iv_get lo), ?_⟩
        refine ⟨_, rfl, _, rfl, p, _, rfl, .inr hP, _, _, rfl, rfl, _, rfl, _, _, rfl, rfl, p, _, _, _, rfl, rfl, hP, (by rw [hb]; exact atI_nat (iv_get hi)), _, rfl, rfl, _, rfl, ?_⟩
        refine iteF' (decide_eq_false fun q => ?_) ?_
        · have q2 : V.int x = V.int (-y) := q
          injection q2 with q3
          exact c.2 x y hx hy q3
        exact ⟨_, rfl, _, rfl, _, rfl, _, rfl, p, _, rfl, .inr hP, _, rfl, _, _, rfl, rfl, _, rfl, p, _, rfl, hPB, fin⟩
end
end W11
set_option Elab.async false
set_option linter.all false
set_option maxRecDepth 100000
set_option maxHeartbeats 2000000
namespace W11
open PySem L2 PySem.Spec PyProof.Rows WR WS WR WB
abbrev sKinds : Stmt := top 13
theorem pigeon : ∀ (m : Nat) (L : List Int), L.Nodup → (∀ k ∈ L, 1 ≤ k ∧ k ≤ (m : Int)) → L.length ≤ m
  | 0, L, _, h => by
    cases L with
    | nil => simp
    | cons a t =>
      have := h a (by simp)
      omega
  | m + 1, L, nd, h => by
    by_cases hm : ((m + 1 : Nat) : Int) ∈ L
    · have ih := pigeon m (L.erase ((m + 1 : Nat) : Int)) (nd.erase _) fun k hk => by
        have h1 := (nd.mem_erase_iff).mp hk
        have h2 := h k h1.2
        have h3 := h1.1
        omega
      rw [List.length_erase_of_mem hm] at ih
      omega
    · have ih := pigeon m L nd fun k hk => by
        have h2 := h k hk
        have : k ≠ ((m + 1 : Nat) : Int) := fun e => hm (e ▸ hk)
        omega
      omega
theorem sci {w : World} {J : It} {xs : List V} {G : Hp → Prop} (wk : Walk J xs.length G (YAt xs)) {g : TG} {tt : TT} {te : TE} {vs : List Nat} {σ : L2.St} {H1 : Hp} {Q : VK} (v : V → Int)
    (hv : ∀ x ∈ xs, 1 ≤ v x ∧ v x ≤ 26) (hG : ∀ H, Same H1 H → G H)
    (hs : ∀ x, x ∈ xs → ∀ H, Same H1 H → ∀ (Qy : V → Hp → Prop) (Qn : Hp → Prop), Qy (.int (v x)) H →
      g x (wipe σ vs) H fun σ2 H2 => wipe σ2 vs = wipe σ vs ∧ tt σ2 H2 fun b H3 => if b = true then te σ2 H3 Qy else Qn H3)
    (hd : ∀ (D : Addr) (S : Int → Bool) (n : Nat) H', H1 D = none → Same H1 H' → H' D = some (SetO w D S n) → n ≤ 26 → (∀ k, S k = true ↔ ∃ x ∈ xs, k = v x) → Q (.ref D) H') : tSetI w (fun _ H R => R J H) g tt te vs σ H1 Q := by
  intro D hD
  refine ⟨fun i m H => m = xs.length - i ∧ i ≤ xs.length ∧ Same H1 H ∧ ∃ (S : Int → Bool) (L : List Int), H D = some (SetO w D S L.length) ∧ L.Nodup ∧ (∀ k, S k = true ↔ k ∈ L) ∧ ∀ k, k ∈ L ↔ ∃ x ∈ xs.take i, k = v x, ?_, ?_⟩
  · refine ⟨_, rfl, Nat.zero_le _, same_upd hD, fun _ => false, [], by rw [upd_same]; rfl, List.nodup_nil, fun k => by simp, fun k => by simp⟩
  · rintro i m H ⟨rfl, hi, sm, S, L, hS, nd, hL, hm⟩
    have bound : L.length ≤ 26 := pigeon 26 L nd fun k hk => by
      obtain ⟨x, hx, e⟩ := (hm k).mp hk
      have := hv x (List.mem_of_mem_take hx)
      omega
    by_cases hlt : i < xs.length
    · right
      refine ⟨wk.goes i H hlt (hG H sm), fun H' => Same H1 H' ∧ ∃ (S : Int → Bool) (L : List Int), H' D = some (SetO w D S L.length) ∧ L.Nodup ∧ (∀ k, S k = true ↔ k ∈ L) ∧ ∀ k, k ∈ L ↔ ∃ x ∈ xs.take (i + 1), k = v x, ?_, ?_⟩
      · rintro H' ⟨s2, q⟩
        exact ⟨xs.length - (i + 1), by omega, rfl, hlt, s2, q⟩
      · intro x H' hy
        obtain ⟨rfl, hx⟩ := wk.yields i H x H' hlt (hG H sm) hy
        have hmem : x ∈ xs := List.mem_of_getElem? hx
        have et : xs.take (i + 1) = xs.take i ++ [x] := by
          have hx2 : xs[i] = x := (List.getElem?_eq_some_iff.mp hx).2
          rw [List.take_succ_eq_append_getElem hlt, hx2]
        refine hs x hmem H' sm _ _ ?_
        refine ⟨D, v x, S, L.length, rfl, rfl, hS, ?_, ?_⟩
        · have : scanBound = 40000 ∨ 64 < scanBound := by right; decide
          have h64 : 64 < scanBound := by decide
          omega
        refine ⟨fun b o e => by rw [upd_ne (ne_of_none e hD)]; exact sm b o e, fun j => S j || decide (j = v x), if S (v x) = true then L else v x :: L, ?_, ?_, ?_, ?_⟩
        · rw [upd_same]
          by_cases c : S (v x) = true
          · rw [if_pos c, if_pos c]
          · rw [if_neg c, if_neg c]; rfl
        · by_cases c : S (v x) = true
          · rw [if_pos c]; exact nd
          · rw [if_neg c]
            exact List.nodup_cons.mpr ⟨fun h => c ((hL _).mpr h), nd⟩
        · intro k
          rw [Bool.or_eq_true, decide_eq_true_eq]
          by_cases c : S (v x) = true
          · rw [if_pos c, ← hL]
            constructor
            · rintro (h | rfl)
              · exact h
              · exact c
            · exact .inl
          · rw [if_neg c, List.mem_cons, ← hL]
            exact or_comm
        · intro k
          have e : (k ∈ if S (v x) = true then L else v x :: L) ↔ (k = v x ∨ k ∈ L) := by
            by_cases c : S (v x) = true
            · rw [if_pos c]
              constructor
              · exact .inr
              · rintro (rfl | h)
                · exact (hL _).mp c
                · exact h
            · rw [if_neg c, List.mem_cons]
          rw [e, hm, et]
          constructor
          · rintro (rfl | ⟨y, hy, rfl⟩)
            · exact ⟨x, by simp, rfl⟩
            · exact ⟨y, by simp [hy], rfl⟩
          · rintro ⟨y, hy, rfl⟩
            rw [List.mem_append, List.mem_singleton] at hy
            rcases hy with hy | rfl
            · exact .inr ⟨y, hy, rfl⟩
            · exact .inl rfl
    · left
      have hi2 : i = xs.length := by omega
      subst hi2
      rw [List.take_length] at hm
      exact ⟨wk.stops H (hG H sm), hd D S L.length H hD sm hS bound fun k => (hL k).trans (hm k)⟩
def kindsOk (ns ks : List Int) : Prop := ks.Pairwise (· < ·) ∧ ∀ k : Int, k ∈ ks ↔ ∃ x ∈ ns, k = (x.natAbs : Int)
/-- every letter of a kind from 1 to 26 -/
def Lts (ns : List Int) : Prop := ∀ x ∈ ns, 1 ≤ x.natAbs ∧ x.natAbs ≤ 26
def spKinds (K : PySem.W.Frag) : Sp := fun vs H Q _ => ∃ (a : Addr) (ns : List Int), vs = [.ref a] ∧ SqE K H a (iv ns) ∧ ns.length ≤ 1000 ∧ Lts ns ∧ ∀ ks, kindsOk ns ks → NewT K H Q (iv ks)
structure TxB (mg : Str → Option Value) : Prop where
  sorted : mg "sorted" = none
  abs : mg "abs" = none
section
variable {P : Program} {w : World} {K : PySem.W.Frag} {mg : Str → Option Value} {base : Heap}
theorem scKinds : FnScope ["letters", "letter"] ["letters"] (defScope sKinds) := ⟨rfl, rfl, rfl, by decide +kernel, rfl, by decide +kernel, by decide +kernel⟩
theorem ok_kinds {f : Addr} {fd : FuncData} (F : Fun K "kinds_of" "kinds_of" sKinds f fd) (T : TxA mg) (T2 : TxB mg) : FnOk P w K mg base CX0 1 f fd ["letters"] (spKinds K) := by
  refine F.ok scKinds (fun vs H Q E h => ?_) (fun cdv A outer s H vs Q E hr h => ?_)
  · obtain ⟨a, ns, rfl, _⟩ := h
    rfl
  · obtain ⟨a, ns, rfl, hS, hlen, hk, k⟩ := h
    have fin : ∀ (D : Addr) (S : Int → Bool) (n : Nat) H', H D = none → Same H H' → H' D = some (SetO w D S n) → n ≤ 26 → (∀ k, S k = true ↔ ∃ x ∈ iv ns, k = (match x with | .int i => (i.natAbs : Int) | _ => 0)) →
        rSortedSet w [.ref D] H' fun x H2 => ∃ p ys, [x] = [V.ref p] ∧ ((SqL K H2 p ys ∧ ∀ l, H2 l = none → Q (.ref l) (L2.upd H2 l (.tup ys))) ∨ (SqT K H2 p ys ∧ Q (.ref p) H2)) := by
      intro D S n H' hD sm hS hn hm
      refine ⟨D, S, n, rfl, hS, by omega, fun ks p up mem _ hp => ?_⟩
      refine ⟨p, _, rfl, .inl ⟨SqL.of upd_same, fun l hl => ?_⟩⟩
      refine k ks ⟨up, fun j => ?_⟩ l _ ((sm.trans (same_upd hp)).trans (same_upd hl)) (SqT.of upd_same)
      rw [mem, hm]
      constructor
      · rintro ⟨x, hx, e⟩
        obtain ⟨i, hi, rfl⟩ := List.mem_map.mp hx
        exact ⟨i, hi, e⟩
      · rintro ⟨i, hi, e⟩
        exact ⟨_, List.mem_map_of_mem hi, e⟩
    have turn : ∀ x, x ∈ iv ns → ∀ H2, Same H H2 → ∀ (Qy : V → Hp → Prop) (Qn : Hp → Prop), Qy (.int (match x with | .int i => (i.natAbs : Int) | _ => 0)) H2 →
        gName 1 x (wipe [some (.ref a), none] [1]) H2 fun σ2 H2 => wipe σ2 [1] = wipe [some (.ref a), none] [1] ∧ tYes σ2 H2 fun b H3 => if b = true then tCB (fun xs H Q => ∃ i, xs = [.int i] ∧ Q (.int (if i < 0 then -i else i)) H) (tCons (tVar 1) tNil) σ2 H3 Qy else Qn H3 := by
      intro x hx H2 s2 Qy Qn ky
      obtain ⟨i, hi, rfl⟩ := List.mem_map.mp hx
      refine ⟨rfl, yes_te ⟨_, rfl, i, rfl, ?_⟩⟩
      have e : (if i < 0 then -i else i) = (i.natAbs : Int) := by split <;> omega
      rw [e]
      exact ky
    have bd : ∀ x ∈ iv ns, 1 ≤ (match x with | .int i => (i.natAbs : Int) | _ => 0) ∧ (match x with | .int i => (i.natAbs : Int) | _ => 0) ≤ 26 := by
      intro x hx
      obtain ⟨i, hi, rfl⟩ := List.mem_map.mp hx
      have := hk i hi
      show 1 ≤ (i.natAbs : Int) ∧ (i.natAbs : Int) ≤ 26
      omega
    rcases hS with hS | hS
    · refine ⟨_, pss_one (ps_ret (pe_callTy call_tuple_of (by rfl) T.tuple (by decide +kernel) (pa_cons (pe_callB (cr_sortedSet rfl) (by rfl) T2.sorted (by decide +kernel) (pa_cons (pe_setI (own := [("letter", 1)]) (g := gName 1) (tt := tYes) rfl scKinds.nd (pi_list (pv 0))
        (blkOk_by (N := ["letters", "letter"]) (sc := defScope sKinds) (by decide +kernel)) (fun _ _ _ _ _ => pg_name (i := 1) scKinds.nd rfl (Or.inl rfl)) (fun _ _ _ _ _ => pts_nil)
        (fun _ _ _ _ _ => pe_callB call_abs (by rfl) T2.abs (by decide +kernel) (pa_cons (pv 1) pa_nil))) pa_nil)) pa_nil))), ?_⟩
      refine ⟨_, rfl, a, rfl, ⟨_, hS⟩, ?_⟩
      exact sci (walk_list (xs := iv ns)) _ bd (fun H2 s2 => s2.seq hS) turn fin
    · refine ⟨_, pss_one (ps_ret (pe_callTy call_tuple_of (by rfl) T.tuple (by decide +kernel) (pa_cons (pe_callB (cr_sortedSet rfl) (by rfl) T2.sorted (by decide +kernel) (pa_cons (pe_setI (own := [("letter", 1)]) (g := gName 1) (tt := tYes) rfl scKinds.nd (pi_tup (pv 0))
        (blkOk_by (N := ["letters", "letter"]) (sc := defScope sKinds) (by decide +kernel)) (fun _ _ _ _ _ => pg_name (i := 1) scKinds.nd rfl (Or.inl rfl)) (fun _ _ _ _ _ => pts_nil)
        (fun _ _ _ _ _ => pe_callB call_abs (by rfl) T2.abs (by decide +kernel) (pa_cons (pv 1) pa_nil))) pa_nil)) pa_nil))), ?_⟩
      refine ⟨_, rfl, a, rfl, ⟨_, hS⟩, ?_⟩
      exact sci (walk_tup (xs := iv ns)) _ bd (fun H2 s2 => WR.Same.seqT s2 hS) turn fin
end
end W11
set_option Elab.async false
set_option linter.all false
set_option maxRecDepth 100000
set_option maxHeartbeats 2000000
namespace W11
open PySem L2 PySem.Spec PyProof.Rows WR WB
abbrev sIsInt : Stmt := top 18
abbrev sWithin : Stmt := top 19
abbrev sLetter : Stmt := top 20
abbrev sListed : Stmt := top 21
abbrev sNeedW : Stmt := top 29
abbrev sFew : Stmt := top 31
/-! ### values and their classes -/
inductive Typ (H : Hp) : V → String → Prop
  | int (i : Int) : Typ H (.int i) "int"
  | bl (b : Bool) : Typ H (.bl b) "bool"
  | str (z : Str) : Typ H (.str z) "str"
  | non : Typ H .non "NoneType"
  | lst {p : Addr} {xs : List V} (e : H p = some (.lst xs)) : Typ H (.ref p) "list"
  | tup {p : Addr} {xs : List V} (e : H p = some (.tup xs)) : Typ H (.ref p) "tuple"
  | dct {p : Addr} {kvs : List (Key × V)} (e : H p = some (.dK kvs)) : Typ H (.ref p) "dict"
def isI : V → Bool
  | .int _ => true
  | _ => false
def isB : V → Bool
  | .bl _ => true
  | _ => false
def isS : V → Bool
  | .str _ => true
  | _ => false
theorem Typ.same {H H' : Hp} {x : V} {t : String} (h : Typ H x t) (s : Same H H') : Typ H' x t := by
  cases h with
  | int i => exact .int i
  | bl b => exact .bl b
  | str z => exact .str z
  | non => exact .non
  | lst e => exact .lst (s _ _ e)
  | tup e => exact .tup (s _ _ e)
  | dct e => exact .dct (s _ _ e)
theorem Typ.ty {K : PySem.W.Frag} {H : Hp} {x : V} {t : String} (h : Typ H x t) : TyX K H x (.type t) := by
  cases h with
  | int i => exact .base (.int i)
  | bl b => exact .base (.bl b)
  | str z => exact .base (.str z)
  | non => exact .base .non
  | lst e => exact .base (.lst e)
  | tup e => exact .base (.tup e)
  | dct e => exact .base (.dK e)
theorem Typ.kInt {K : PySem.W.Frag} {H : Hp} {x : V} {t : String} (h : Typ H x t) : PySem.W.kitOne K (.type t) (.type "int") = some (isI x || isB x) := by
  cases h <;> first | exact kit_ty (show kitB _ _ = some true by decide +kernel) | exact kit_ty (show kitB _ _ = some false by decide +kernel)
theorem Typ.kBool {K : PySem.W.Frag} {H : Hp} {x : V} {t : String} (h : Typ H x t) : PySem.W.kitOne K (.type t) (.type "bool") = some (isB x) := by
  cases h <;> first | exact kit_ty (show kitB _ _ = some true by decide +kernel) | exact kit_ty (show kitB _ _ = some false by decide +kernel)
theorem Typ.kStr {K : PySem.W.Frag} {H : Hp} {x : V} {t : String} (h : Typ H x t) : PySem.W.kitOne K (.type t) (.type "str") = some (isS x) := by
  cases h <;> first | exact kit_ty (show kitB _ _ = some true by decide +kernel) | exact kit_ty (show kitB _ _ = some false by decide +kernel)
theorem Typ.kTup {K : PySem.W.Frag} {H : Hp} {x : V} {t : String} (h : Typ H x t) : PySem.W.kitOne K (.type t) (.type "tuple") = some (t == "tuple") := by
  cases h <;> first | exact kit_ty (show kitB _ _ = some true by decide +kernel) | exact kit_ty (show kitB _ _ = some false by decide +kernel)
theorem Typ.kList {K : PySem.W.Frag} {H : Hp} {x : V} {t : String} (h : Typ H x t) : PySem.W.kitOne K (.type t) (.type "list") = some (t == "list") := by
  cases h <;> first | exact kit_ty (show kitB _ _ = some true by decide +kernel) | exact kit_ty (show kitB _ _ = some false by decide +kernel)
theorem Typ.kSeq {K : PySem.W.Frag} {H : Hp} {x : V} {t : String} (h : Typ H x t) : PySem.W.kitAny K (.type t) [.type "list", .type "tuple"] = some (t == "list" || t == "tuple") := by
  refine kitAny_cons h.kList (fun e => ?_) (fun e => by rw [e]; rfl)
  refine kitAny_cons h.kTup (fun e2 => ?_) (fun e2 => by rw [e2]; simp)
  rw [kitAny_nil, e, e2]
  rfl

def spIsInt : Sp := fun vs H Q _ => ∃ (x : V) (t : String), vs = [x] ∧ Typ H x t ∧ Q (.bl (isI x)) H
structure TxI (mg : Str → Option Value) : Prop where
  isin : mg "isinstance" = none
  int : mg "int" = none
  bool : mg "bool" = none
  str : mg "str" = none
  list : mg "list" = none
  tuple : mg "tuple" = none
section
variable {P : Program} {w : World} {K : PySem.W.Frag} {mg : Str → Option Value} {base : Heap}
theorem scIsInt : FnScope ["value"] ["value"] (defScope sIsInt) := ⟨rfl, rfl, rfl, by decide +kernel, rfl, by decide +kernel, by decide +kernel⟩
theorem ok_isInt {f : Addr} {fd : FuncData} (F : Fun K "is_integer" "is_integer" sIsInt f fd) (T : TxI mg) : FnOk P w K mg base CX0 1 f fd ["value"] spIsInt := by
  refine F.ok scIsInt (fun vs H Q E h => ?_) (fun cdv A outer s H vs Q E hr h => ?_)
  · obtain ⟨x, t, rfl, _⟩ := h
    rfl
  · obtain ⟨x, t, rfl, ht, k⟩ := h
    refine ⟨_, pss_one (ps_ret (pe_and (pe_callB call_isi (by rfl) T.isin (by decide +kernel) (pa_cons (pv 0) (pa_cons (pe_bltn (v := .ty "int") (by rfl) T.int (by decide +kernel) rfl) pa_nil)))
      (pe_one (pe_not (pe_callB call_isi (by rfl) T.isin (by decide +kernel) (pa_cons (pv 0) (pa_cons (pe_bltn (v := .ty "bool") (by rfl) T.bool (by decide +kernel) rfl) pa_nil))))))), ?_⟩
    refine ⟨_, rfl, x, _, _, _, _, rfl, .ty _, ht.ty, ht.kInt, _, rfl, ?_⟩
    refine ite2 (fun hi => ?_) (fun hn => ?_)
    · refine ⟨_, rfl, x, _, _, _, _, rfl, .ty _, ht.ty, ht.kBool, _, rfl, ?_⟩
      have e : (!isB x) = isI x := by cases ht <;> first | rfl | exact absurd hi Bool.false_ne_true
      show Q (.bl (!isB x)) H
      rw [e]
      exact k
    · have e : isI x = false := by cases ht <;> first | rfl | exact absurd rfl hn
      show Q (.bl false) H
      rw [← e]
      exact k
end
def Bnd (v : V) : Prop := v = .non ∨ ∃ i, v = .int i
def geB (i : Int) : V → Bool
  | .int a => decide (a ≤ i)
  | _ => true
def leB (i : Int) : V → Bool
  | .int b => decide (i ≤ b)
  | _ => true
def within : V → V → V → Bool
  | .int i, l, m => geB i l && leB i m
  | _, _, _ => false
def spWithin : Sp := fun vs H Q _ => ∃ (x l m : V) (t : String), vs = [x, l, m] ∧ Typ H x t ∧ Bnd l ∧ Bnd m ∧ Q (.bl (within x l m)) H
def letterB : V → Bool
  | .int i => (decide (-26 ≤ i) && decide (i ≤ 26)) && !decide (i = 0)
  | _ => false
def spLetter : Sp := fun vs H Q _ => ∃ (x : V) (t : String), vs = [x] ∧ Typ H x t ∧ Q (.bl (letterB x)) H
def spListed : Sp := fun vs H Q _ => ∃ (x : V) (t : String), vs = [x] ∧ Typ H x t ∧ ∀ H', Same H H' → Q (.bl (t == "list" || t == "tuple")) H'
structure TxC (mg : Str → Option Value) : Prop where
  kind : ∃ t, mg "MOST_KIND" = some (.int 26 t)
  all : mg "all" = none
section
variable {P : Program} {w : World} {K : PySem.W.Frag} {mg : Str → Option Value} {base : Heap}
theorem scWithin : FnScope ["value", "least", "most"] ["value", "least", "most"] (defScope sWithin) := ⟨rfl, rfl, rfl, by decide +kernel, rfl, by decide +kernel, by decide +kernel⟩
theorem ok_within {f : Addr} {fd : FuncData} (F : Fun K "is_within" "is_within" sWithin f fd) (GI : Cal P w K mg base "is_integer" 1 ["value"] spIsInt) : FnOk P w K mg base CX0 2 f fd ["value", "least", "most"] spWithin := by
  refine F.ok scWithin (fun vs H Q E h => ?_) (fun cdv A outer s H vs Q E hr h => ?_)
  · obtain ⟨x, l, m, t, rfl, _⟩ := h
    rfl
  · obtain ⟨x, l, m, t, rfl, ht, hl, hm, k⟩ := h
    refine ⟨_, pss_cons (ps_if (pt_not (pt_val (pe_cal GI hr (by decide) (by rfl) (pa_cons (pv 0) pa_nil)))) (pss_one (ps_ret pe_bl)) pss_nil)
      (pss_one (ps_ret (pe_and (pe_or (pe_cmpR op_isN (pv 1) pe_non (nomark _)) (pe_one (pe_cmpR op_ge (pv 0) (pv 1) (nomark _)))) (pe_one (pe_or (pe_cmpR op_isN (pv 2) pe_non (nomark _)) (pe_one (pe_cmpR op_le (pv 0) (pv 2) (nomark _)))))))), ?_⟩
    refine ⟨_, rfl, x, t, rfl, ht, _, rfl, ?_⟩
    refine ite2 (fun hn => ?_) (fun hi => ?_)
    · have e : within x l m = false := by cases ht <;> first | rfl | exact absurd hn Bool.false_ne_true
      rw [e] at k
      exact k
    · obtain ⟨i, rfl⟩ : ∃ i, x = .int i := by cases ht <;> first | exact ⟨_, rfl⟩ | exact absurd rfl hi
      -- the second half, whatever the first one says
      have half : ∀ H1 : Hp, H1 = H → ∀ Q1 : VK, Q1 (.bl (leB i m)) H1 → tOrV (tOp (fun x y H Q => y = .non ∧ Q (.bl (decide (x = .non))) H) (tVar 2) (tC .non)) (tOp (rI0 fun i j => .bl (decide (i ≤ j))) (tVar 0) (tVar 2)) [some (.int i), some l, some m] H1 Q1 := by
        intro H1 _ Q1 q
        rcases hm with rfl | ⟨b, rfl⟩
        · exact ⟨_, rfl, rfl, _, rfl, iteT q⟩
        · exact ⟨_, rfl, rfl, _, rfl, iteF ⟨_, rfl, _, rfl, _, _, rfl, rfl, q⟩⟩
      rcases hl with rfl | ⟨a, rfl⟩
      · refine ⟨_, rfl, rfl, _, rfl, iteT ⟨_, rfl, iteT (half H rfl _ ?_)⟩⟩
        exact k
      · refine ⟨_, rfl, rfl, _, rfl, iteF ⟨_, rfl, _, rfl, _, _, rfl, rfl, _, rfl, ?_⟩⟩
        refine ite2 (fun hg => half H rfl _ ?_) (fun hg => ?_)
        · have e : within (.int i) (.int a) m = leB i m := by
            show (decide (a ≤ i) && leB i m) = leB i m
            rw [hg]
            rfl
          rw [e] at k
          exact k
        · have e : within (.int i) (.int a) m = false := by
            show (decide (a ≤ i) && leB i m) = false
            rw [Bool.eq_false_iff.mpr hg]
            rfl
          rw [e] at k
          exact k
theorem scLetter : FnScope ["value"] ["value"] (defScope sLetter) := ⟨rfl, rfl, rfl, by decide +kernel, rfl, by decide +kernel, by decide +kernel⟩
theorem ok_letter {f : Addr} {fd : FuncData} (F : Fun K "is_letter" "is_letter" sLetter f fd) (GW : Cal P w K mg base "is_within" 2 ["value", "least", "most"] spWithin) (T : TxC mg) : FnOk P w K mg base CX0 3 f fd ["value"] spLetter := by
  refine F.ok scLetter (fun vs H Q E h => ?_) (fun cdv A outer s H vs Q E hr h => ?_)
  · obtain ⟨x, t, rfl, _⟩ := h
    rfl
  · obtain ⟨x, t, rfl, ht, k⟩ := h
    obtain ⟨tk, mK⟩ := T.kind
    refine ⟨_, pss_one (ps_ret (pe_and (pe_cal GW hr (by decide) (by rfl) (pa_cons (pv 0) (pa_cons (pe_un un_neg (pe_glob (v := .int 26) (by rfl) mK ⟨_, rfl⟩)) (pa_cons (pe_glob (v := .int 26) (by rfl) mK ⟨_, rfl⟩) pa_nil)))) (pe_one (pe_cmpR op_ne (pv 0) pe_int (nomark _))))), ?_⟩
    refine ⟨_, rfl, _, rfl, x, _, _, t, rfl, ht, .inr ⟨_, rfl⟩, .inr ⟨_, rfl⟩, _, rfl, ?_⟩
    refine ite2 (fun hi => ?_) (fun hn => ?_)
    · obtain ⟨i, rfl⟩ : ∃ i, x = .int i := by cases ht <;> first | exact ⟨_, rfl⟩ | exact absurd hi Bool.false_ne_true
      refine ⟨_, rfl, rfl, ?_⟩
      have e : letterB (.int i) = !decide (V.int i = V.int 0) := by
        have h2 : (decide (-26 ≤ i) && decide (i ≤ 26)) = true := hi
        show ((decide (-26 ≤ i) && decide (i ≤ 26)) && !decide (i = 0)) = _
        rw [h2, Bool.true_and]
        congr 1
        by_cases h0 : i = 0
        · subst h0; rfl
        · rw [decide_eq_false h0, decide_eq_false (fun q => h0 (by injection q))]
      rw [e] at k
      exact k
    · have e : letterB x = false := by
        cases ht with
        | int i =>
          have h2 : (decide (-26 ≤ i) && decide (i ≤ 26)) = false := Bool.eq_false_iff.mpr hn
          show ((decide (-26 ≤ i) && decide (i ≤ 26)) && !decide (i = 0)) = false
          rw [h2]
          rfl
        | _ => rfl
      rw [e] at k
      exact k
theorem scListed : FnScope ["value"] ["value"] (defScope sListed) := ⟨rfl, rfl, rfl, by decide +kernel, rfl, by decide +kernel, by decide +kernel⟩
theorem ok_listed {f : Addr} {fd : FuncData} (F : Fun K "is_listed" "is_listed" sListed f fd) (T : TxI mg) : FnOk P w K mg base CX0 1 f fd ["value"] spListed := by
  refine F.ok scListed (fun vs H Q E h => ?_) (fun cdv A outer s H vs Q E hr h => ?_)
  · obtain ⟨x, t, rfl, _⟩ := h
    rfl
  · obtain ⟨x, t, rfl, ht, k⟩ := h
    refine ⟨_, pss_one (ps_ret (pe_callB call_isiT (by rfl) T.isin (by decide +kernel) (pa_cons (pv 0) (pa_cons (pe_tup (pa_cons (pe_bltn (v := .ty "list") (by rfl) T.list (by decide +kernel) rfl) (pa_cons (pe_bltn (v := .ty "tuple") (by rfl) T.tuple (by decide +kernel) rfl) pa_nil))) pa_nil)))), ?_⟩
    refine ⟨_, rfl, (by show 2 ≤ sizeLine; decide), fun p hp => ?_⟩
    have sm : Same H (upd H p (.tup [.ty "list", .ty "tuple"])) := fun b o e => by rw [upd_ne (ne_of_none e hp)]; exact e
    exact ⟨x, p, _, _, _, _, rfl, upd_same, .cons (.ty _) (.cons (.ty _) .nil), (ht.same sm).ty, (ht.same sm).kSeq, k _ sm⟩
end
end W11
set_option Elab.async false
set_option linter.all false
set_option maxRecDepth 100000
set_option maxHeartbeats 2000000
namespace W11
open PySem L2 PySem.Spec PyProof.Rows WR WB
abbrev sInit : Stmt := inClass (top 32) 0
theorem SqL.tyx {K : PySem.W.Frag} {H : Hp} {a : Addr} {xs : List V} (h : SqL K H a xs) : TyX K H (.ref a) (.type "list") := by
  rcases h with h | ⟨o, its, n, e, c, _⟩
  · rcases h with h | ⟨o, h⟩
    · exact .base (.lst h)
    · exact .base (.frz h)
  · exact .kList e c
theorem SqT.tyx {K : PySem.W.Frag} {H : Hp} {a : Addr} {xs : List V} (h : SqT K H a xs) : TyX K H (.ref a) (.type "tuple") := by
  rcases h with h | ⟨o, its, n, e, c, _⟩
  · rcases h with h | ⟨o, h⟩
    · exact .base (.tup h)
    · exact .fTuple h
  · exact .kTuple e c
def spListE (K : PySem.W.Frag) : Sp := fun vs H Q _ => ∃ (a : Addr) (xs : List V), vs = [.ref a] ∧ SqE K H a xs ∧ ∀ H', Same H H' → Q (.bl true) H'
def spFew : Sp := fun vs H Q _ => ∃ n : Int, vs = [.int n] ∧ n ≤ 500 ∧ Q .non H
structure TxW (K : PySem.W.Frag) (mg : Str → Option Value) (C : Addr) : Prop where
  cl : Cls K C
  nL : NoAttr K C "letters"
  nN : NoAttr K C "length"
  nK : NoAttr K C "kinds"
  nS : NoAttr K C "is_short"
  nR : NoAttr K C "is_short_round"
  ca : PySem.W.findIn K (.ref C) "__class__" = some (some (.builtin "object.__class__"))
  cn : PySem.W.specialIn K (.builtin "object.__class__") "__get__" = some (some (.builtin "getset_descriptor.__get__"))
  ct : PySem.W.takesIn K (.builtin "object.__class__") = some true
  cm : PySem.W.mroIn K C (.type "object") = some true
  mgW : mg "Word" = some (.ref C)
  most : ∃ t, mg "MOST_LETTERS" = some (.int 500 t)
  isin : mg "isinstance" = none
  all : mg "all" = none
/-! ### a word -/
def wf (tl : Addr) (n : Nat) (tk : Addr) (b1 b2 : Bool) : List (Str × V) := [("letters", .ref tl), ("length", .int (n : Int)), ("kinds", .ref tk), ("is_short", .bl b1), ("is_short_round", .bl b2)]
theorem ne1 : ¬ (("letters" : Str) = "length") := by decide +kernel
theorem ne2 : ¬ (("letters" : Str) = "kinds") := by decide +kernel
theorem ne3 : ¬ (("letters" : Str) = "is_short") := by decide +kernel
theorem ne4 : ¬ (("letters" : Str) = "is_short_round") := by decide +kernel
theorem ne5 : ¬ (("length" : Str) = "kinds") := by decide +kernel
theorem ne6 : ¬ (("length" : Str) = "is_short") := by decide +kernel
theorem ne7 : ¬ (("length" : Str) = "is_short_round") := by decide +kernel
theorem ne8 : ¬ (("kinds" : Str) = "is_short") := by decide +kernel
theorem ne9 : ¬ (("kinds" : Str) = "is_short_round") := by decide +kernel
theorem ne10 : ¬ (("is_short" : Str) = "is_short_round") := by decide +kernel
theorem lk_eq {k : Str} {v : V} {t : List (Str × V)} : List.lookup k ((k, v) :: t) = some v := by
  rw [List.lookup_cons, beq_self_eq_true k]
theorem lk_ne {k g : Str} {v : V} {t : List (Str × V)} (h : ¬ k = g) : List.lookup k ((g, v) :: t) = List.lookup k t := by
  rw [List.lookup_cons, show (k == g) = false from beq_eq_false_iff_ne.mpr h]
theorem pf_ne {k g : Str} {v x : V} {t : List (Str × V)} (h : ¬ g = k) : putF k v ((g, x) :: t) = (g, x) :: putF k v t := by
  show (if g = k then _ else _) = _
  rw [if_neg h]
theorem wf_letters {tl tk n b1 b2} : (wf tl n tk b1 b2).lookup ("letters" : Str) = some (.ref tl) := lk_eq
theorem wf_length {tl tk n b1 b2} : (wf tl n tk b1 b2).lookup ("length" : Str) = some (.int (n : Int)) := by
  unfold wf
  rw [lk_ne fun e => ne1 e.symm, lk_eq]
theorem wf_kinds {tl tk n b1 b2} : (wf tl n tk b1 b2).lookup ("kinds" : Str) = some (.ref tk) := by
  unfold wf
  rw [lk_ne fun e => ne2 e.symm, lk_ne fun e => ne5 e.symm, lk_eq]
theorem wf_short {tl tk n b1 b2} : (wf tl n tk b1 b2).lookup ("is_short" : Str) = some (.bl b1) := by
  unfold wf
  rw [lk_ne fun e => ne3 e.symm, lk_ne fun e => ne6 e.symm, lk_ne fun e => ne8 e.symm, lk_eq]
theorem wf_round {tl tk n b1 b2} : (wf tl n tk b1 b2).lookup ("is_short_round" : Str) = some (.bl b2) := by
  unfold wf
  rw [lk_ne fun e => ne4 e.symm, lk_ne fun e => ne7 e.symm, lk_ne fun e => ne9 e.symm, lk_ne fun e => ne10 e.symm, lk_eq]
theorem wf_no {tl tk n b1 b2} {m : Str} (h1 : ¬ m = "letters") (h2 : ¬ m = "length") (h3 : ¬ m = "kinds") (h4 : ¬ m = "is_short") (h5 : ¬ m = "is_short_round") : (wf tl n tk b1 b2).lookup m = none := by
  unfold wf
  rw [lk_ne h1, lk_ne h2, lk_ne h3, lk_ne h4, lk_ne h5]
  rfl
def WordAt (K : PySem.W.Frag) (C : Addr) (H : Hp) (p : Addr) (ns : List Int) : Prop :=
  ∃ (dx tl tk : Addr) (ks : List Int), H p = some (.ins C dx (wf tl ns.length tk (decide (Fr.shr ns = ns)) (decide (Fr.rnd ns = ns)))) ∧ SqB K H tl (iv ns) ∧ SqT K H tk (iv ks) ∧ kindsOk ns ks
theorem WordAt.same {K : PySem.W.Frag} {C : Addr} {H H' : Hp} {p : Addr} {ns : List Int} (h : WordAt K C H p ns) (s : Same H H') : WordAt K C H' p ns := by
  obtain ⟨dx, tl, tk, ks, h1, h2, h3, h4⟩ := h
  exact ⟨dx, tl, tk, ks, s _ _ h1, SqB.same s h2, WR.Same.seqT s h3, h4⟩
theorem Lts.nz {ns : List Int} (h : Lts ns) : Fr.NZ ns := fun a ha => by
  have := h a ha
  omega
def spInit (K : PySem.W.Frag) (C : Addr) : Sp := fun vs H Q _ => ∃ (H0 : Hp) (p dx a : Addr) (ns : List Int), vs = [.ref p, .ref a] ∧ Same H0 H ∧ H0 p = none ∧ H p = some (.ins C dx []) ∧ SqW K H0 a (iv ns) ∧ ns.length ≤ 500 ∧ Lts ns ∧
  ∀ H', Same H0 H' → WordAt K C H' p ns → Q .non H'
/-! ### tuples of ints held against one another -/
theorem dp_iv {K : PySem.W.Frag} {H : Hp} : ∀ ns : List Int, DpAll K H (iv ns) (ns.map PyData.int)
  | [] => .nil
  | n :: r => .cons (.int n) (dp_iv r)
theorem eqvAll_ints : ∀ ns ms : List Int, PyData.eqvAll (ns.map PyData.int) (ms.map PyData.int) = decide (ns = ms)
  | [], [] => rfl
  | [], b :: r => rfl
  | a :: r, [] => rfl
  | a :: r, b :: q => by
    have ih := eqvAll_ints r q
    show (PyData.eqv (.int a) (.int b) && PyData.eqvAll (r.map PyData.int) (q.map PyData.int)) = _
    rw [ih]
    have : PyData.eqv (.int a) (.int b) = decide (a = b) := by
      simp only [PyData.eqv]
      exact Bool.eq_iff_iff.mpr (by simp)
    rw [this]
    by_cases e1 : a = b <;> by_cases e2 : r = q <;> simp [e1, e2]
theorem eqv_ints (ns ms : List Int) : PyData.eqv (.tuple (ns.map .int)) (.tuple (ms.map .int)) = decide (ns = ms) := by
  show PyData.eqvAll _ _ = _
  exact eqvAll_ints ns ms
theorem lay_ints : ∀ ns : List Int, PyData.canLayAll0 (ns.map PyData.int) = true ∧ PyData.depthAll (ns.map PyData.int) = 0
  | [] => ⟨rfl, rfl⟩
  | n :: r => by
    obtain ⟨h1, h2⟩ := lay_ints r
    exact ⟨by simp [PyData.canLayAll0, PyData.canLay0, h1], by simp [PyData.depthAll, PyData.depth, h2]⟩
theorem shaped_ints (ns : List Int) : SeqAt.shaped (.tuple (ns.map .int)) = true := by
  obtain ⟨h1, h2⟩ := lay_ints ns
  simp [SeqAt.shaped, PyData.canLay0, PyData.depth, h1, h2]
section
variable {P : Program} {w : World} {K : PySem.W.Frag} {mg : Str → Option Value} {base : Heap}
theorem ok_listE {f : Addr} {fd : FuncData} (F : Fun K "is_listed" "is_listed" sListed f fd) (T : TxI mg) : FnOk P w K mg base CX0 1 f fd ["value"] (spListE K) := by
  refine F.ok scListed (fun vs H Q E h => ?_) (fun cdv A outer s H vs Q E hr h => ?_)
  · obtain ⟨a, xs, rfl, _⟩ := h
    rfl
  · obtain ⟨a, xs, rfl, hS, k⟩ := h
    refine ⟨_, pss_one (ps_ret (pe_callB call_isiT (by rfl) T.isin (by decide +kernel) (pa_cons (pv 0) (pa_cons (pe_tup (pa_cons (pe_bltn (v := .ty "list") (by rfl) T.list (by decide +kernel) rfl) (pa_cons (pe_bltn (v := .ty "tuple") (by rfl) T.tuple (by decide +kernel) rfl) pa_nil))) pa_nil)))), ?_⟩
    refine ⟨_, rfl, (by show 2 ≤ sizeLine; decide), fun p hp => ?_⟩
    have sm : Same H (upd H p (.tup [.ty "list", .ty "tuple"])) := same_upd hp
    rcases hS.same sm with hS | hS
    · exact ⟨_, p, _, _, _, _, rfl, upd_same, .cons (.ty _) (.cons (.ty _) .nil), SqL.tyx hS, (by rfl), k _ sm⟩
    · exact ⟨_, p, _, _, _, _, rfl, upd_same, .cons (.ty _) (.cons (.ty _) .nil), SqT.tyx hS, (Typ.tup (H := fun _ => some (.tup [])) (p := a) (xs := []) rfl).kSeq, k _ sm⟩
theorem scFew : FnScope ["many"] ["many"] (defScope sFew) := ⟨rfl, rfl, rfl, by decide +kernel, rfl, by decide +kernel, by decide +kernel⟩
theorem ok_few {C : Addr} {f : Addr} {fd : FuncData} (F : Fun K "need_few_letters" "need_few_letters" sFew f fd) (T : TxW K mg C) : FnOk P w K mg base CX0 1 f fd ["many"] spFew := by
  refine F.ok scFew (fun vs H Q E h => ?_) (fun cdv A outer s H vs Q E hr h => ?_)
  · obtain ⟨n, rfl, _⟩ := h
    rfl
  · obtain ⟨n, rfl, hn, k⟩ := h
    obtain ⟨tk, mM⟩ := T.most
    refine ⟨_, pss_one (ps_if (pt_cmpR op_gt (pv 0) (pe_glob (v := .int 500) (by rfl) mM ⟨_, rfl⟩) (nomark _)) (pss_one ps_never) pss_nil), ?_⟩
    refine ⟨_, rfl, _, _, rfl, rfl, _, rfl, ?_⟩
    exact iteF' (decide_eq_false (by omega)) k
end
end W11
set_option Elab.async false
set_option linter.all false
set_option maxRecDepth 100000
set_option maxHeartbeats 2000000
namespace W11
open PySem L2 PySem.Spec PyProof.Rows WR WB
theorem SqT.put {K : PySem.W.Frag} {H : Hp} {a p C dx : Addr} {fs : List (Str × V)} {o : HO} {xs : List V} (h : SqT K H a xs) (hp : H p = some (.ins C dx fs)) : SqT K (L2.upd H p o) a xs := by
  rcases h with h | h
  · left
    have ne : ∀ u, H a = some u → (∀ C dx fs, u ≠ .ins C dx fs) → a ≠ p := fun u e q z => by
      rw [z, hp] at e
      exact q _ _ _ (Option.some.inj e).symm
    rcases h with h | ⟨o', h⟩
    · exact .inl (by rw [upd_ne (ne _ h fun _ _ _ => by intro z; cases z)]; exact h)
    · exact .inr ⟨o', by rw [upd_ne (ne _ h fun _ _ _ => by intro z; cases z)]; exact h⟩
  · exact .inr h
theorem SqB.put {K : PySem.W.Frag} {H : Hp} {a p C dx : Addr} {fs : List (Str × V)} {o : HO} {xs : List V} (h : SqB K H a xs) (hp : H p = some (.ins C dx fs)) : SqB K (L2.upd H p o) a xs := by
  obtain ⟨h1, h2⟩ := h
  refine ⟨SqT.put h1 hp, ?_⟩
  obtain ⟨o', u, e, d⟩ := h2
  exact ⟨o', u, by rw [upd_ne (fun z => by rw [z, hp] at e; cases e)]; exact e, d⟩
theorem same_put {H0 H : Hp} {p : Addr} {o : HO} (s : Same H0 H) (hp : H0 p = none) : Same H0 (L2.upd H p o) := fun b u e => by
  have : b ≠ p := fun z => by rw [z, hp] at e; cases e
  rw [upd_ne this]
  exact s _ _ e
theorem letter_ok {i : Int} (h : 1 ≤ i.natAbs ∧ i.natAbs ≤ 26) : letterB (.int i) = true := by
  show ((decide (-26 ≤ i) && decide (i ≤ 26)) && !decide (i = 0)) = true
  rw [decide_eq_true (by omega), decide_eq_true (by omega), decide_eq_false (by omega)]
  rfl
theorem all_ok {ns : List Int} (h : Lts ns) : ((ns.map fun i => letterB (.int i)).all id) = true := by
  rw [List.all_eq_true]
  intro b hb
  obtain ⟨i, hi, rfl⟩ := List.mem_map.mp hb
  exact letter_ok (h i hi)
theorem bl_of {b c : Bool} (h : b = c) : V.bl b = V.bl c := by rw [h]
theorem kindsOk_ex (ns : List Int) : True := trivial
theorem not_lc {r : List V → Hp → VK → Prop} {wi : TI} {g : TG} {tt : TT} {te : TE} {vs : List Nat} {σ : L2.St} {H : Hp} {Q : Bool → Hp → Prop}
    (h : wi σ H fun J H1 => tLc (fun _ H R => R J H) g tt te vs σ H1 fun x H2 => r [x] H2 fun v H3 => ∃ c, v = .bl c ∧ Q (!c) H3) :
    tNot (fun σ H Q => tCB r (tCons (tLc wi g tt te vs) tNil) σ H fun x H1 => ∃ c, x = .bl c ∧ Q c H1) σ H Q := h
abbrev nInit : List Str := ["self", "letters", "letter"]
section
variable {P : Program} {w : World} {K : PySem.W.Frag} {mg : Str → Option Value} {base : Heap}
theorem scInit : FnScope nInit ["self", "letters"] (defScope sInit) := ⟨rfl, rfl, rfl, by decide +kernel, rfl, by decide +kernel, by decide +kernel⟩
theorem ok_init {C f : Addr} {fd : FuncData} (F : Fun K "__init__" "Word.__init__" sInit f fd) (T : TxW K mg C) (TA : TxA mg) (GL : Cal P w K mg base "is_listed" 1 ["value"] (spListE K)) (GX : Cal P w K mg base "is_letter" 3 ["value"] spLetter)
    (GF : Cal P w K mg base "need_few_letters" 1 ["many"] spFew) (GK : Cal P w K mg base "kinds_of" 1 ["letters"] (spKinds K)) (GS : Cal P w K mg base "shortened_letters" 1 ["letters"] (spShr K)) (GR : Cal P w K mg base "rounded_letters" 2 ["letters"] (spRnd K)) :
    FnOk P w K mg base CX0 4 f fd ["self", "letters"] (spInit K C) := by
  refine F.ok scInit (fun vs H Q E h => ?_) (fun cdv A outer s H vs Q E hr h => ?_)
  · obtain ⟨H0, p, dx, a, ns, rfl, _⟩ := h
    rfl
  · obtain ⟨H0, p, dx, a, ns, rfl, s0, p0, hp, hS, hlen, hl, k⟩ := h
    rcases hS with hS | hS
    · refine ⟨_, pss_cons (ps_if (PW.pt (pw_or (pt_not (pt_val (pe_cal GL hr (by decide) (by rfl) (pa_cons (pv 1) pa_nil)))) (pw_or1 (pt_not (pt_val (pe_callB (cr_all rfl) (by rfl) T.all (by decide +kernel) (pa_cons (pe_lc (own := [("letter", 2)]) (g := gName 2) (tt := tYes) rfl scInit.nd (pi_list (pv 1))
          (blkOk_by (N := nInit) (sc := defScope sInit) (by decide +kernel)) (fun _ _ _ _ _ => pg_name (i := 2) scInit.nd rfl (Or.inl rfl)) (fun _ _ _ _ _ => pts_nil)
          (fun _ _ _ _ _ => pe_cal GX hr (by decide) (by rfl) (pa_cons (pv 2) pa_nil))) pa_nil))))))) (pss_one ps_never) pss_nil)
        (pss_cons (ps_expr (pe_cal GF hr (by decide) (by rfl) (pa_cons (pe_callB call_len_seq (by rfl) TA.len PySem.boot_len (pa_cons (pv 1) pa_nil)) pa_nil)))
        (pss_cons (ps_fld (pv 0) (pe_callTy call_tupB (by rfl) TA.tuple (by decide +kernel) (pa_cons (pv 1) pa_nil)) rfl)
        (pss_cons (ps_fld (pv 0) (pe_callB call_len_seq (by rfl) TA.len PySem.boot_len (pa_cons (pv 1) pa_nil)) rfl)
        (pss_cons (ps_fld (pv 0) (pe_cal GK hr (by decide) (by rfl) (pa_cons (pv 1) pa_nil)) rfl)
        (pss_cons (ps_fld (pv 0) (pe_cmpR (op_eqD hr.units) (pe_cal GS hr (by decide) (by rfl) (pa_cons (pv 1) pa_nil)) (pe_fld (pv 0) rfl) (nomark _)) rfl)
        (pss_one (ps_fld (pv 0) (pe_cmpR (op_eqD hr.units) (pe_cal GR hr (by decide) (by rfl) (pa_cons (pv 1) pa_nil)) (pe_fld (pv 0) rfl) (nomark _)) rfl))))))), ?_⟩
      have E0 : SqE K H0 a (iv ns) := .inl hS
      refine ⟨_, rfl, a, _, rfl, E0.same s0, fun H1 s1 => ⟨_, rfl, ?_⟩⟩
      have s01 := s0.trans s1
      refine iteF ?_
      refine not_lc ?_
      refine ⟨_, rfl, a, rfl, ⟨_, (s01.seq hS)⟩, ?_⟩
      refine lcp (walk_list (xs := iv ns)) (fun _ => true) (fun x => .bl (letterB x)) (by simp; omega) (fun H2 s2 => (s01.trans s2).seq hS) ?_ ?_
      · intro x hx H2 s2 Qy Qn ky kn
        obtain ⟨i, hi, rfl⟩ := List.mem_map.mp hx
        exact ⟨rfl, yes_te ⟨_, rfl, .int i, _, rfl, .int i, ky rfl H2 (fun _ _ e => e)⟩⟩
      intro D H2 hD s2 h2
      have s02 := s01.trans s2
      refine ⟨D, ns.map fun i => letterB (.int i), rfl, SqL.of (by
        rw [h2, List.filter_eq_self.mpr (fun _ _ => rfl), List.map_map, List.map_map]
        rfl), ?_⟩
      rw [all_ok hl]
      refine ⟨_, rfl, iteF ?_⟩
      -- not too many
      refine ⟨_, rfl, a, _, rfl, E0.same s02, ((iv ns).length : Int), rfl, by rw [List.length_map]; omega, ?_⟩
      have hp2 : H2 p = some (.ins C dx []) := s2 _ _ (s1 _ _ hp)
      -- its letters
      refine ⟨_, rfl, a, _, rfl, .inl ⟨s02.seq hS, fun tl H3 s23 t3 => ?_⟩⟩
      have s3 := s02.trans s23
      have hp3 := s23 _ _ hp2
      refine ⟨_, rfl, p, C, dx, _, rfl, hp3, T.cl, T.nL, (by show 0 < 1000; decide), ?_⟩
      have hp4 : L2.upd H3 p (.ins C dx (putF "letters" (.ref tl) [])) p = some (.ins C dx [("letters", .ref tl)]) := by rw [upd_same]; rfl
      have s4 := same_put (o := .ins C dx (putF "letters" (.ref tl) [])) s3 p0
      have t4 := SqB.put (o := .ins C dx (putF "letters" (.ref tl) [])) t3 hp3
      refine gen_heap fun H4 e4 => ?_
      rw [← e4] at hp4 s4 t4
      -- how many
      refine ⟨_, rfl, a, _, rfl, E0.same s4, _, rfl, p, C, dx, _, rfl, hp4, T.cl, T.nN, (by show 1 < 1000; decide), ?_⟩
      have hp5 : L2.upd H4 p (.ins C dx (putF "length" (.int ((iv ns).length : Nat)) [("letters", .ref tl)])) p = some (.ins C dx [("letters", .ref tl), ("length", .int (ns.length : Nat))]) := by
        rw [upd_same, pf_ne ne1, List.length_map]
        rfl
      have s5 := same_put (o := .ins C dx (putF "length" (.int ((iv ns).length : Nat)) [("letters", .ref tl)])) s4 p0
      have t5 := SqB.put (o := .ins C dx (putF "length" (.int ((iv ns).length : Nat)) [("letters", .ref tl)])) t4 hp4
      refine gen_heap fun H5 e5 => ?_
      rw [← e5] at hp5 s5 t5
      -- its kinds
      refine ⟨_, rfl, a, ns, rfl, E0.same s5, by omega, hl, fun ks hk tk H6 s6 tk6 => ?_⟩
      have hp6 := s6 _ _ hp5
      have s06 := s5.trans s6
      have t6 := SqB.same s6 t5
      refine ⟨_, rfl, p, C, dx, _, rfl, hp6, T.cl, T.nK, (by show 2 < 1000; decide), ?_⟩
      have hp7 : L2.upd H6 p (.ins C dx (putF "kinds" (.ref tk) [("letters", .ref tl), ("length", .int (ns.length : Nat))])) p = some (.ins C dx [("letters", .ref tl), ("length", .int (ns.length : Nat)), ("kinds", .ref tk)]) := by
        rw [upd_same, pf_ne ne2, pf_ne ne5]
        rfl
      have s7 := same_put (o := .ins C dx (putF "kinds" (.ref tk) [("letters", .ref tl), ("length", .int (ns.length : Nat))])) s06 p0
      have t7 := SqB.put (o := .ins C dx (putF "kinds" (.ref tk) [("letters", .ref tl), ("length", .int (ns.length : Nat))])) t6 hp6
      have k7 := SqT.put (o := .ins C dx (putF "kinds" (.ref tk) [("letters", .ref tl), ("length", .int (ns.length : Nat))])) tk6 hp6
      refine gen_heap fun H7 e7 => ?_
      rw [← e7] at hp7 s7 t7 k7
      -- short
      refine ⟨_, rfl, a, ns, rfl, E0.same s7, by omega, fun q H8 s8 q8 => ?_⟩
      have hp8 := s8 _ _ hp7
      have s08 := s7.trans s8
      have t8 := SqB.same s8 t7
      have k8 := WR.Same.seqT s8 k7
      refine ⟨_, rfl, p, C, dx, _, _, rfl, hp8, T.cl, T.nL, lk_eq, ?_⟩
      refine ⟨_, _, .tup q8.sq (dp_iv _), .tup t8.sq (dp_iv _), shaped_ints _, shaped_ints _, ?_⟩
      rw [eqv_ints]
      refine ⟨_, rfl, p, C, dx, _, rfl, hp8, T.cl, T.nS, (by show 3 < 1000; decide), ?_⟩
      have hp9 : L2.upd H8 p (.ins C dx (putF "is_short" (.bl (decide (Fr.shr ns = ns))) [("letters", .ref tl), ("length", .int (ns.length : Nat)), ("kinds", .ref tk)])) p = some (.ins C dx [("letters", .ref tl), ("length", .int (ns.length : Nat)), ("kinds", .ref tk), ("is_short", .bl (decide (Fr.shr ns = ns)))]) := by
        rw [upd_same, pf_ne ne3, pf_ne ne6, pf_ne ne8]
        rfl
      have s9 := same_put (o := .ins C dx (putF "is_short" (.bl (decide (Fr.shr ns = ns))) [("letters", .ref tl), ("length", .int (ns.length : Nat)), ("kinds", .ref tk)])) s08 p0
      have t9 := SqB.put (o := .ins C dx (putF "is_short" (.bl (decide (Fr.shr ns = ns))) [("letters", .ref tl), ("length", .int (ns.length : Nat)), ("kinds", .ref tk)])) t8 hp8
      have k9 := SqT.put (o := .ins C dx (putF "is_short" (.bl (decide (Fr.shr ns = ns))) [("letters", .ref tl), ("length", .int (ns.length : Nat)), ("kinds", .ref tk)])) k8 hp8
      refine gen_heap fun H9 e9 => ?_
      rw [← e9] at hp9 s9 t9 k9
      -- short round
      refine ⟨_, rfl, a, ns, rfl, E0.same s9, by omega, hl.nz, fun q2 Ha sa qa => ?_⟩
      have hpa := sa _ _ hp9
      have s0a := s9.trans sa
      have ta := SqB.same sa t9
      have ka := WR.Same.seqT sa k9
      refine ⟨_, rfl, p, C, dx, _, _, rfl, hpa, T.cl, T.nL, lk_eq, ?_⟩
      refine ⟨_, _, .tup qa.sq (dp_iv _), .tup ta.sq (dp_iv _), shaped_ints _, shaped_ints _, ?_⟩
      rw [eqv_ints]
      refine ⟨_, rfl, p, C, dx, _, rfl, hpa, T.cl, T.nR, (by show 4 < 1000; decide), ?_⟩
      refine k _ (same_put s0a p0) ⟨dx, tl, tk, ks, ?_, SqB.put ta hpa, SqT.put ka hpa, hk⟩
      rw [upd_same, pf_ne ne4, pf_ne ne7, pf_ne ne9, pf_ne ne10]
      rfl
    · refine ⟨_, pss_cons (ps_if (PW.pt (pw_or (pt_not (pt_val (pe_cal GL hr (by decide) (by rfl) (pa_cons (pv 1) pa_nil)))) (pw_or1 (pt_not (pt_val (pe_callB (cr_all rfl) (by rfl) T.all (by decide +kernel) (pa_cons (pe_lc (own := [("letter", 2)]) (g := gName 2) (tt := tYes) rfl scInit.nd (pi_tup (pv 1))
          (blkOk_by (N := nInit) (sc := defScope sInit) (by decide +kernel)) (fun _ _ _ _ _ => pg_name (i := 2) scInit.nd rfl (Or.inl rfl)) (fun _ _ _ _ _ => pts_nil)
          (fun _ _ _ _ _ => pe_cal GX hr (by decide) (by rfl) (pa_cons (pv 2) pa_nil))) pa_nil))))))) (pss_one ps_never) pss_nil)
        (pss_cons (ps_expr (pe_cal GF hr (by decide) (by rfl) (pa_cons (pe_callB call_len_seq (by rfl) TA.len PySem.boot_len (pa_cons (pv 1) pa_nil)) pa_nil)))
        (pss_cons (ps_fld (pv 0) (pe_callTy call_tupB (by rfl) TA.tuple (by decide +kernel) (pa_cons (pv 1) pa_nil)) rfl)
        (pss_cons (ps_fld (pv 0) (pe_callB call_len_seq (by rfl) TA.len PySem.boot_len (pa_cons (pv 1) pa_nil)) rfl)
        (pss_cons (ps_fld (pv 0) (pe_cal GK hr (by decide) (by rfl) (pa_cons (pv 1) pa_nil)) rfl)
        (pss_cons (ps_fld (pv 0) (pe_cmpR (op_eqD hr.units) (pe_cal GS hr (by decide) (by rfl) (pa_cons (pv 1) pa_nil)) (pe_fld (pv 0) rfl) (nomark _)) rfl)
        (pss_one (ps_fld (pv 0) (pe_cmpR (op_eqD hr.units) (pe_cal GR hr (by decide) (by rfl) (pa_cons (pv 1) pa_nil)) (pe_fld (pv 0) rfl) (nomark _)) rfl))))))), ?_⟩
      have E0 : SqE K H0 a (iv ns) := .inr hS
      refine ⟨_, rfl, a, _, rfl, E0.same s0, fun H1 s1 => ⟨_, rfl, ?_⟩⟩
      have s01 := s0.trans s1
      refine iteF ?_
      refine not_lc ?_
      refine ⟨_, rfl, a, rfl, ⟨_, (WR.Same.seqT s01 hS.sq)⟩, ?_⟩
      refine lcp (walk_tup (xs := iv ns)) (fun _ => true) (fun x => .bl (letterB x)) (by simp; omega) (fun H2 s2 => WR.Same.seqT (s01.trans s2) hS.sq) ?_ ?_
      · intro x hx H2 s2 Qy Qn ky kn
        obtain ⟨i, hi, rfl⟩ := List.mem_map.mp hx
        exact ⟨rfl, yes_te ⟨_, rfl, .int i, _, rfl, .int i, ky rfl H2 (fun _ _ e => e)⟩⟩
      intro D H2 hD s2 h2
      have s02 := s01.trans s2
      refine ⟨D, ns.map fun i => letterB (.int i), rfl, SqL.of (by
        rw [h2, List.filter_eq_self.mpr (fun _ _ => rfl), List.map_map, List.map_map]
        rfl), ?_⟩
      rw [all_ok hl]
      refine ⟨_, rfl, iteF ?_⟩
      -- not too many
      refine ⟨_, rfl, a, _, rfl, E0.same s02, ((iv ns).length : Int), rfl, by rw [List.length_map]; omega, ?_⟩
      have hp2 : H2 p = some (.ins C dx []) := s2 _ _ (s1 _ _ hp)
      -- its letters
      refine ⟨_, rfl, a, _, rfl, .inr ⟨SqB.same s02 hS, ?_⟩⟩
      have s3 := s02
      have hp3 := hp2
      have t3 : SqB K H2 a (iv ns) := SqB.same s02 hS
      refine gen_heap fun H3 e3 => ?_
      rw [← e3] at s3 hp3 t3
      refine ⟨_, rfl, p, C, dx, _, rfl, hp3, T.cl, T.nL, (by show 0 < 1000; decide), ?_⟩
      have hp4 : L2.upd H3 p (.ins C dx (putF "letters" (.ref a) [])) p = some (.ins C dx [("letters", .ref a)]) := by rw [upd_same]; rfl
      have s4 := same_put (o := .ins C dx (putF "letters" (.ref a) [])) s3 p0
      have t4 := SqB.put (o := .ins C dx (putF "letters" (.ref a) [])) t3 hp3
      refine gen_heap fun H4 e4 => ?_
      rw [← e4] at hp4 s4 t4
      -- how many
      refine ⟨_, rfl, a, _, rfl, E0.same s4, _, rfl, p, C, dx, _, rfl, hp4, T.cl, T.nN, (by show 1 < 1000; decide), ?_⟩
      have hp5 : L2.upd H4 p (.ins C dx (putF "length" (.int ((iv ns).length : Nat)) [("letters", .ref a)])) p = some (.ins C dx [("letters", .ref a), ("length", .int (ns.length : Nat))]) := by
        rw [upd_same, pf_ne ne1, List.length_map]
        rfl
      have s5 := same_put (o := .ins C dx (putF "length" (.int ((iv ns).length : Nat)) [("letters", .ref a)])) s4 p0
      have t5 := SqB.put (o := .ins C dx (putF "length" (.int ((iv ns).length : Nat)) [("letters", .ref a)])) t4 hp4
      refine gen_heap fun H5 e5 => ?_
      rw [← e5] at hp5 s5 t5
      -- its kinds
      refine ⟨_, rfl, a, ns, rfl, E0.same s5, by omega, hl, fun ks hk tk H6 s6 tk6 => ?_⟩
      have hp6 := s6 _ _ hp5
      have s06 := s5.trans s6
      have t6 := SqB.same s6 t5
      refine ⟨_, rfl, p, C, dx, _, rfl, hp6, T.cl, T.nK, (by show 2 < 1000; decide), ?_⟩
      have hp7 : L2.upd H6 p (.ins C dx (putF "kinds" (.ref tk) [("letters", .ref a), ("length", .int (ns.length : Nat))])) p = some (.ins C dx [("letters", .ref a), ("length", .int (ns.length : Nat)), ("kinds", .ref tk)]) := by
        rw [upd_same, pf_ne ne2, pf_ne ne5]
        rfl
      have s7 := same_put (o := .ins C dx (putF "kinds" (.ref tk) [("letters", .ref a), ("length", .int (ns.length : Nat))])) s06 p0
      have t7 := SqB.put (o := .ins C dx (putF "kinds" (.ref tk) [("letters", .ref a), ("length", .int (ns.length : Nat))])) t6 hp6
      have k7 := SqT.put (o := .ins C dx (putF "kinds" (.ref tk) [("letters", .ref a), ("length", .int (ns.length : Nat))])) tk6 hp6
      refine gen_heap fun H7 e7 => ?_
      rw [← e7] at hp7 s7 t7 k7
      -- short
      refine ⟨_, rfl, a, ns, rfl, E0.same s7, by omega, fun q H8 s8 q8 => ?_⟩
      have hp8 := s8 _ _ hp7
      have s08 := s7.trans s8
      have t8 := SqB.same s8 t7
      have k8 := WR.Same.seqT s8 k7
      refine ⟨_, rfl, p, C, dx, _, _, rfl, hp8, T.cl, T.nL, lk_eq, ?_⟩
      refine ⟨_, _, .tup q8.sq (dp_iv _), .tup t8.sq (dp_iv _), shaped_ints _, shaped_ints _, ?_⟩
      rw [eqv_ints]
      refine ⟨_, rfl, p, C, dx, _, rfl, hp8, T.cl, T.nS, (by show 3 < 1000; decide), ?_⟩
      have hp9 : L2.upd H8 p (.ins C dx (putF "is_short" (.bl (decide (Fr.shr ns = ns))) [("letters", .ref a), ("length", .int (ns.length : Nat)), ("kinds", .ref tk)])) p = some (.ins C dx [("letters", .ref a), ("length", .int (ns.length : Nat)), ("kinds", .ref tk), ("is_short", .bl (decide (Fr.shr ns = ns)))]) := by
        rw [upd_same, pf_ne ne3, pf_ne ne6, pf_ne ne8]
        rfl
      have s9 := same_put (o := .ins C dx (putF "is_short" (.bl (decide (Fr.shr ns = ns))) [("letters", .ref a), ("length", .int (ns.length : Nat)), ("kinds", .ref tk)])) s08 p0
      have t9 := SqB.put (o := .ins C dx (putF "is_short" (.bl (decide (Fr.shr ns = ns))) [("letters", .ref a), ("length", .int (ns.length : Nat)), ("kinds", .ref tk)])) t8 hp8
      have k9 := SqT.put (o := .ins C dx (putF "is_short" (.bl (decide (Fr.shr ns = ns))) [("letters", .ref a), ("length", .int (ns.length : Nat)), ("kinds", .ref tk)])) k8 hp8
      refine gen_heap fun H9 e9 => ?_
      rw [← e9] at hp9 s9 t9 k9
      -- short round
      refine ⟨_, rfl, a, ns, rfl, E0.same s9, by omega, hl.nz, fun q2 Ha sa qa => ?_⟩
      have hpa := sa _ _ hp9
      have s0a := s9.trans sa
      have ta := SqB.same sa t9
      have ka := WR.Same.seqT sa k9
      refine ⟨_, rfl, p, C, dx, _, _, rfl, hpa, T.cl, T.nL, lk_eq, ?_⟩
      refine ⟨_, _, .tup qa.sq (dp_iv _), .tup ta.sq (dp_iv _), shaped_ints _, shaped_ints _, ?_⟩
      rw [eqv_ints]
      refine ⟨_, rfl, p, C, dx, _, rfl, hpa, T.cl, T.nR, (by show 4 < 1000; decide), ?_⟩
      refine k _ (same_put s0a p0) ⟨dx, a, tk, ks, ?_, SqB.put ta hpa, SqT.put ka hpa, hk⟩
      rw [upd_same, pf_ne ne4, pf_ne ne7, pf_ne ne9, pf_ne ne10]
      rfl
end
end W11
set_option Elab.async false
set_option linter.all false
set_option maxRecDepth 100000
set_option maxHeartbeats 2000000
namespace W11
open PySem L2 PySem.Spec PyProof.Rows WR WB
abbrev sEq : Stmt := inClass (top 32) 1
abbrev sContrary : Stmt := inClass (top 32) 4
abbrev sShort : Stmt := inClass (top 32) 5
abbrev sThen : Stmt := inClass (top 32) 8
/-- some word of these letters, all else as it stood -/
def NewW (K : PySem.W.Frag) (C : Addr) (H : Hp) (Q : VK) (ns : List Int) : Prop := ∀ p H', Same H H' → WordAt K C H' p ns → Q (.ref p) H'
theorem make_word {K : PySem.W.Frag} {C : Addr} {H1 : Hp} {q : Addr} {ms : List Int} {Q : VK} {E : XK} (hq : SqW K H1 q (iv ms)) (hlen : ms.length ≤ 500) (hl : Lts ms) (k : NewW K C H1 Q ms) :
    ∀ x dx, H1 x = none → H1 dx = none → dx ≠ x → spInit K C [.ref x, .ref q] (L2.upd (L2.upd H1 dx (.own x)) x (.ins C dx [])) (fun v H2 => v = .non ∧ Q (.ref x) H2) E := by
  intro x dx nx ndx nex
  have s0 : Same H1 (L2.upd (L2.upd H1 dx (.own x)) x (.ins C dx [])) := fun b o e => by
    rw [upd_ne (ne_of_none e nx), upd_ne (ne_of_none e ndx)]
    exact e
  exact ⟨H1, x, dx, q, ms, rfl, s0, nx, upd_same, hq, hlen, hl, fun H' s' W' => ⟨rfl, k x H' s' W'⟩⟩
def spOne (K : PySem.W.Frag) (C : Addr) (fn : List Int → List Int) : Sp := fun vs H Q _ => ∃ (p : Addr) (ns : List Int), vs = [.ref p] ∧ WordAt K C H p ns ∧ ns.length ≤ 500 ∧ Lts ns ∧ NewW K C H Q (fn ns)
def spEq (K : PySem.W.Frag) (C : Addr) : Sp := fun vs H Q _ => ∃ (p q : Addr) (ns ms : List Int), vs = [.ref p, .ref q] ∧ WordAt K C H p ns ∧ WordAt K C H q ms ∧ Q (.bl (decide (ns = ms))) H
def spThen (K : PySem.W.Frag) (C : Addr) : Sp := fun vs H Q _ => ∃ (p q : Addr) (ns ms : List Int), vs = [.ref p, .ref q] ∧ WordAt K C H p ns ∧ WordAt K C H q ms ∧ ns.length + ms.length ≤ 500 ∧ Lts ns ∧ Lts ms ∧ NewW K C H Q (ns ++ ms)
/-- so many times, for a number below 0 the contrary so many times -/
def tms (n : Int) (ns : List Int) : List Int := if 0 < n then Fr.rep n.natAbs ns else Fr.rep n.natAbs (Fr.con ns)
def spTimes (K : PySem.W.Frag) (C : Addr) : Sp := fun vs H Q _ => ∃ (p : Addr) (n : Int) (ns : List Int), vs = [.ref p, .int n] ∧ WordAt K C H p ns ∧ ns.length ≤ 500 ∧ ns.length * n.natAbs ≤ 500 ∧ Lts ns ∧ NewW K C H Q (tms n ns)
def spNeedW (K : PySem.W.Frag) (C : Addr) : Sp := fun vs H Q _ => ∃ (q : Addr) (z : V) (ms : List Int), vs = [.ref q, z] ∧ WordAt K C H q ms ∧ Q .non H
theorem Lts.con {ns : List Int} (h : Lts ns) : Lts (Fr.con ns) := fun x hx => by
  unfold Fr.con at hx
  obtain ⟨y, hy, rfl⟩ := List.mem_map.mp hx
  have := h y (List.mem_reverse.mp hy)
  rw [Int.natAbs_neg]
  exact this
theorem Lts.app {ns ms : List Int} (h : Lts ns) (k : Lts ms) : Lts (ns ++ ms) := fun x hx => by
  rcases List.mem_append.mp hx with e | e
  · exact h x e
  · exact k x e
theorem Lts.shr {ns : List Int} (h : Lts ns) : Lts (Fr.shr ns) := fun x hx => h x (Fr.shr_mem hx)
theorem Lts.rep {ns : List Int} (h : Lts ns) : ∀ n, Lts (Fr.rep n ns)
  | 0 => fun x hx => nomatch hx
  | n + 1 => h.app (Lts.rep h n)
theorem rnd_sub {ns : List Int} (nz : Fr.NZ ns) : ∃ u, Fr.shr ns = u ++ Fr.rnd ns ++ Fr.con u := by
  obtain ⟨u, m, e, c, z⟩ := Fr.parted (Fr.shr ns) nz.shr (Fr.rd_shr ns)
  refine ⟨u, ?_⟩
  have er : Fr.rnd ns = m := by
    unfold Fr.rnd
    rw [e, Fr.ends_eq c z]
  rw [er]
  exact e
theorem Lts.rnd {ns : List Int} (h : Lts ns) : Lts (Fr.rnd ns) := fun x hx => by
  obtain ⟨u, e⟩ := rnd_sub h.nz
  refine h.shr x ?_
  rw [e]
  simp [hx]
theorem rnd_len {ns : List Int} (h : Lts ns) : (Fr.rnd ns).length ≤ ns.length := by
  obtain ⟨u, e⟩ := rnd_sub h.nz
  have h1 := shr_len ns
  rw [e] at h1
  rw [whole_len] at h1
  omega
theorem rep_flat (n : Nat) (ns : List Int) : (List.replicate n (iv ns)).flatten = iv (Fr.rep n ns) := by
  induction n with
  | zero => rfl
  | succ n ih => 
    rw [List.replicate_succ, List.flatten_cons, ih, Fr.rep_succ]
    exact List.map_append.symm
theorem WordAt.tyx {K : PySem.W.Frag} {mg : Str → Option Value} {C : Addr} {H : Hp} {p : Addr} {ns : List Int} (h : WordAt K C H p ns) (T : TxW K mg C) : TyX K H (.ref p) (.ref C) := by
  obtain ⟨dx, tl, tk, ks, h1, _⟩ := h
  exact .base (.ins h1 T.cl T.ca T.cn T.ct T.cm)
theorem kit_self {K : PySem.W.Frag} (C : Addr) : PySem.W.kitOne K (.ref C) (.ref C) = some true := by
  unfold PySem.W.kitOne
  rw [if_pos (by simp)]
structure MkW (P : Program) (w : World) (K : PySem.W.Frag) (mg : Str → Option Value) (base : Heap) (C : Addr) : Prop where
  ex : ∃ (f : Addr) (fd : FuncData), Mk K C f ∧ FnOk P w K mg base CX0 4 f fd ["self", "letters"] (spInit K C) ∧ Binds K fd ["self", "letters"] []
section
variable {X : Cx} {C : Addr} {p pos : Pos} {e : Expr} {es : List Expr} {t : TA} {j : Nat}
theorem pe_word (M : MkW X.prog X.w X.K X.mg X.base C) (T : TxW X.K X.mg C) (hr : Room j X.A) (hkj : 5 ≤ j) (hg : Gl X "Word") (ha : PA X (e :: es) t)
    (he : starEach (e :: es) X.env = (false, eval e X.env) :: starEach es X.env := by rfl) (hpl : (backTo pos (starEach es X.env)).any (·.1) = false := by rfl) :
    PE X (.Call (.Name "Word" p) (e :: es) [] pos) (tMake C (spInit X.K C) [] E0 t) := by
  obtain ⟨f, fd, M, F, hb⟩ := M.ex
  exact pe_make M F (hr.mono hkj) hg T.mgW hb .nil pass0 ha (by decide) he hpl
end
section
variable {P : Program} {w : World} {K : PySem.W.Frag} {mg : Str → Option Value} {base : Heap}
theorem scEq : FnScope ["self", "other"] ["self", "other"] (defScope sEq) := ⟨rfl, rfl, rfl, by decide +kernel, rfl, by decide +kernel, by decide +kernel⟩
theorem ok_eq {C f : Addr} {fd : FuncData} (F : Fun K "__eq__" "Word.__eq__" sEq f fd) (T : TxW K mg C) : FnOk P w K mg base CX0 1 f fd ["self", "other"] (spEq K C) := by
  refine F.ok scEq (fun vs H Q E h => ?_) (fun cdv A outer s H vs Q E hr h => ?_)
  · obtain ⟨p, q, ns, ms, rfl, _⟩ := h
    rfl
  · obtain ⟨p, q, ns, ms, rfl, W1, W2, k⟩ := h
    refine ⟨_, pss_one (ps_ret (pe_and (pe_callB call_isi (by rfl) T.isin (by decide +kernel) (pa_cons (pv 1) (pa_cons (pe_glob (v := .ref C) (by rfl) T.mgW rfl) pa_nil)))
      (pe_one (pe_cmpR (op_eqD hr.units) (pe_fld (pv 0) rfl) (pe_fld (pv 1) rfl) (nomark _))))), ?_⟩
    refine ⟨_, rfl, _, _, _, _, _, rfl, .own C, W2.tyx T, kit_self C, _, rfl, ?_⟩
    refine iteT ?_
    obtain ⟨dx, tl, tk, ks, h1, h2, h3, h4⟩ := W1
    obtain ⟨dx', tl', tk', ks', h1', h2', h3', h4'⟩ := W2
    refine ⟨_, rfl, p, C, dx, _, _, rfl, h1, T.cl, T.nL, wf_letters, _, rfl, q, C, dx', _, _, rfl, h1', T.cl, T.nL, wf_letters, ?_⟩
    refine ⟨_, _, .tup h2.sq (dp_iv _), .tup h2'.sq (dp_iv _), shaped_ints _, shaped_ints _, ?_⟩
    rw [eqv_ints]
    exact k
theorem scNeedW : FnScope ["value", "part"] ["value", "part"] (defScope sNeedW) := ⟨rfl, rfl, rfl, by decide +kernel, rfl, by decide +kernel, by decide +kernel⟩
theorem ok_needW {C f : Addr} {fd : FuncData} (F : Fun K "need_word" "need_word" sNeedW f fd) (T : TxW K mg C) : FnOk P w K mg base CX0 1 f fd ["value", "part"] (spNeedW K C) := by
  refine F.ok scNeedW (fun vs H Q E h => ?_) (fun cdv A outer s H vs Q E hr h => ?_)
  · obtain ⟨q, z, ms, rfl, _⟩ := h
    rfl
  · obtain ⟨q, z, ms, rfl, W2, k⟩ := h
    refine ⟨_, pss_one (ps_if (pt_not (pt_val (pe_callB call_isi (by rfl) T.isin (by decide +kernel) (pa_cons (pv 0) (pa_cons (pe_glob (v := .ref C) (by rfl) T.mgW rfl) pa_nil))))) (pss_one ps_never) pss_nil), ?_⟩
    exact ⟨_, rfl, _, _, _, _, _, rfl, .own C, W2.tyx T, kit_self C, _, rfl, iteF k⟩
theorem scContrary : FnScope ["self"] ["self"] (defScope sContrary) := ⟨rfl, rfl, rfl, by decide +kernel, rfl, by decide +kernel, by decide +kernel⟩
theorem ok_contrary {C f : Addr} {fd : FuncData} (F : Fun K "contrary" "Word.contrary" sContrary f fd) (T : TxW K mg C) (M : MkW P w K mg base C) (GC : Cal P w K mg base "contrary_letters" 1 ["letters"] (spCon K)) :
    FnOk P w K mg base CX0 6 f fd ["self"] (spOne K C Fr.con) := by
  refine F.ok scContrary (fun vs H Q E h => ?_) (fun cdv A outer s H vs Q E hr h => ?_)
  · obtain ⟨p, ns, rfl, _⟩ := h
    rfl
  · obtain ⟨p, ns, rfl, ⟨dx, tl, tk, ks, h1, h2, h3, h4⟩, hlen, hl, k⟩ := h
    refine ⟨_, pss_one (ps_ret (pe_word M T hr (by decide) (by rfl) (pa_cons (pe_cal GC hr (by decide) (by rfl) (pa_cons (pe_fld (pv 0) rfl) pa_nil)) pa_nil))), ?_⟩
    refine ⟨_, rfl, p, C, dx, _, _, rfl, h1, T.cl, T.nL, wf_letters, tl, ns, rfl, h2, by omega, fun q H1 s1 hq => ?_⟩
    exact make_word (.inr hq) (by rw [Fr.con_length]; exact hlen) hl.con fun x H' s' W => k x H' (s1.trans s') W
theorem scShort : FnScope ["self"] ["self"] (defScope sShort) := ⟨rfl, rfl, rfl, by decide +kernel, rfl, by decide +kernel, by decide +kernel⟩
theorem ok_shortened {C f : Addr} {fd : FuncData} (F : Fun K "shortened" "Word.shortened" sShort f fd) (T : TxW K mg C) (M : MkW P w K mg base C) (GS : Cal P w K mg base "shortened_letters" 1 ["letters"] (spShr K)) :
    FnOk P w K mg base CX0 6 f fd ["self"] (spOne K C Fr.shr) := by
  refine F.ok scShort (fun vs H Q E h => ?_) (fun cdv A outer s H vs Q E hr h => ?_)
  · obtain ⟨p, ns, rfl, _⟩ := h
    rfl
  · obtain ⟨p, ns, rfl, ⟨dx, tl, tk, ks, h1, h2, h3, h4⟩, hlen, hl, k⟩ := h
    refine ⟨_, pss_one (ps_ret (pe_word M T hr (by decide) (by rfl) (pa_cons (pe_cal GS hr (by decide) (by rfl) (pa_cons (pe_fld (pv 0) rfl) pa_nil)) pa_nil))), ?_⟩
    refine ⟨_, rfl, p, C, dx, _, _, rfl, h1, T.cl, T.nL, wf_letters, tl, ns, rfl, .inr h2, by omega, fun q H1 s1 hq => ?_⟩
    exact make_word (.inr hq) (Nat.le_trans (shr_len ns) hlen) hl.shr fun x H' s' W => k x H' (s1.trans s') W
theorem scThen : FnScope ["self", "other"] ["self", "other"] (defScope sThen) := ⟨rfl, rfl, rfl, by decide +kernel, rfl, by decide +kernel, by decide +kernel⟩
theorem ok_then {C f : Addr} {fd : FuncData} (F : Fun K "then" "Word.then" sThen f fd) (T : TxW K mg C) (M : MkW P w K mg base C) (GN : Cal P w K mg base "need_word" 1 ["value", "part"] (spNeedW K C)) :
    FnOk P w K mg base CX0 6 f fd ["self", "other"] (spThen K C) := by
  refine F.ok scThen (fun vs H Q E h => ?_) (fun cdv A outer s H vs Q E hr h => ?_)
  · obtain ⟨p, q, ns, ms, rfl, _⟩ := h
    rfl
  · obtain ⟨p, q, ns, ms, rfl, W1, W2, hlen, hl, hl2, k⟩ := h
    refine ⟨_, pss_cons (ps_expr (pe_cal GN hr (by decide) (by rfl) (pa_cons (pv 1) (pa_cons pe_str pa_nil))))
      (pss_one (ps_ret (pe_word M T hr (by decide) (by rfl) (pa_cons (pe_op op_catB (pe_fld (pv 0) rfl) (pe_fld (pv 1) rfl)) pa_nil)))), ?_⟩
    refine ⟨_, rfl, q, _, ms, rfl, W2, ?_⟩
    obtain ⟨dx, tl, tk, ks, h1, h2, h3, h4⟩ := W1
    obtain ⟨dx', tl', tk', ks', h1', h2', h3', h4'⟩ := W2
    refine ⟨_, rfl, p, C, dx, _, _, rfl, h1, T.cl, T.nL, wf_letters, _, rfl, q, C, dx', _, _, rfl, h1', T.cl, T.nL, wf_letters, ?_⟩
    refine ⟨tl, tl', _, _, rfl, rfl, h2, h2', Evl.sz_of (by simp; omega), fun r H1 s1 hr1 => ?_⟩
    rw [← List.map_append] at hr1
    exact make_word (.inr hr1) (by rw [List.length_append]; exact hlen) (hl.app hl2) fun x H' s' W => k x H' (s1.trans s') W
theorem abs_eq (n : Int) : (if n < 0 then -n else n) = (n.natAbs : Int) := by split <;> omega
end
end W11
set_option Elab.async false
set_option linter.all false
set_option maxRecDepth 100000
set_option maxHeartbeats 2000000
namespace W11
open PySem L2 WR WB
abbrev sJar : Stmt := top 44
abbrev sDraw : Stmt := top 45
/-! ### the hand that draws -/
/-- at a: a hand, of which at most n cells were begun -/
def HandAt (H : Hp) (a c : Addr) (n : Nat) : Prop := ∃ (ns : List Int) (i r : Int), H a = some (.lst [.ref c, .int i, .int r]) ∧ H c = some (.lst (ns.map V.int)) ∧ c ≠ a ∧ ns.length ≤ 1000 ∧ 0 ≤ i ∧ i ≤ (n : Int) ∧ 0 ≤ r
/-- all but what is at a stands as it did -/
def Kept (a : Addr) (H H' : Hp) : Prop := ∀ b o, b ≠ a → H b = some o → H' b = some o
theorem Kept.refl {a : Addr} {H : Hp} : Kept a H H := fun _ _ _ e => e
theorem Kept.trans {a : Addr} {H H1 H2 : Hp} (h1 : Kept a H H1) (h2 : Kept a H1 H2) : Kept a H H2 := fun b o n e => h2 b o n (h1 b o n e)
theorem Kept.upd {a : Addr} {H : Hp} {o : HO} : Kept a H (upd H a o) := fun b u n e => by rw [upd_ne n]; exact e
theorem Kept.new {a p : Addr} {H H' : Hp} {o : HO} (k : Kept a H H') (hp : H' p = none) : Kept a H (L2.upd H' p o) := fun b u n e => by
  rw [upd_ne (ne_of_none (k b u n e) hp)]
  exact k b u n e

theorem HandAt.put {H : Hp} {a c : Addr} {ns : List Int} {i r : Int} {n : Nat} (hC : H c = some (.lst (ns.map V.int))) (hca : c ≠ a) (hl : ns.length ≤ 1000) (i0 : 0 ≤ i) (hi : i ≤ (n : Int)) (r0 : 0 ≤ r) :
    HandAt (L2.upd H a (.lst [.ref c, .int i, .int r])) a c n := ⟨ns, i, r, upd_same, by rw [upd_ne hca]; exact hC, hca, hl, i0, hi, r0⟩
def spHand (K : PySem.W.Frag) : Sp := fun vs H Q _ => ∃ (a : Addr) (ns : List Int), vs = [.ref a] ∧ SqL K H a (ns.map V.int) ∧ ns.length ≤ 1000 ∧
  ∀ (H' : Hp) (p c : Addr), Same H H' → H p = none → H c = none → HandAt H' p c 0 → Q (.ref p) H'
def spTake : Sp := fun vs H Q _ => ∃ (a c : Addr) (m : Int) (n : Nat), vs = [.ref a, .int m] ∧ HandAt H a c n ∧ n ≤ 10000 ∧ 0 < m ∧ m.natAbs < 2 ^ 200 ∧
  ∀ (H' : Hp) (q : Int), 0 ≤ q → q < m → HandAt H' a c (n + 1) → Kept a H H' → Q (.int q) H'

theorem dpInts {K : PySem.W.Frag} {H : Hp} : ∀ ns : List Int, DpAll K H (ns.map V.int) (ns.map PyData.int)
  | [] => .nil
  | n :: r => .cons (.int n) (dpInts r)
structure TxL (mg : Str → Option Value) : Prop where
  int : mg "int" = none
  len : mg "len" = none
  abs : mg "abs" = none
section
variable {P : Program} {w : World} {K : PySem.W.Frag} {mg : Str → Option Value} {base : Heap}
theorem scHand : FnScope ["_law_script", "_law_cell"] ["_law_script"] (defScope sJar) := ⟨rfl, rfl, rfl, by decide +kernel, rfl, by decide +kernel, by decide +kernel⟩
theorem ok_hand {f : Addr} {fd : FuncData} (F : Fun K "_law_pen" "_law_pen" sJar f fd) (T : TxL mg) : FnOk P w K mg base CX0 1 f fd ["_law_script"] (spHand K) := by
  refine F.ok scHand (fun vs H Q E h => ?_) (fun cdv A outer s H vs Q E hr h => ?_)
  · obtain ⟨a, ns, rfl, _⟩ := h
    rfl
  · obtain ⟨a, ns, rfl, hS, hlen, k⟩ := h
    refine ⟨_, pss_one (ps_ret (pe_lst (pa_cons (pe_lc (own := [("_law_cell", 1)]) (g := gName 1) (tt := tYes) rfl scHand.nd (pi_list (pe_slice sl_list (pv 0) po_none (po_some pe_int)))
      (blkOk_by (N := ["_law_script", "_law_cell"]) (sc := defScope sJar) (by decide +kernel)) (fun _ _ _ _ _ => pg_name (i := 1) scHand.nd rfl (Or.inl rfl)) (fun _ _ _ _ _ => pts_nil)
      (fun _ _ _ _ _ => pe_callTy call_int1 (by rfl) T.int (by decide +kernel) (pa_cons (pv 1) pa_nil))) (pa_cons pe_int (pa_cons pe_int pa_nil))))), ?_⟩
    refine ⟨_, rfl, 62, rfl, a, ns.map V.int, rfl, hS, fun p hp => ?_⟩
    refine ⟨p, rfl, ⟨_, SqL.of upd_same⟩, fun D hD => ?_⟩
    have hDp : D ≠ p := fun e => by
      rw [e, upd_same] at hD
      cases hD
    have hD0 : H D = none := by
      rw [upd_ne hDp] at hD
      exact hD
    have hc : cutV (ns.map V.int) none (some 62) = (ns.take 62).map V.int := by
      unfold cutV
      rw [List.map_take, List.length_map]
      have e0 : HT.sIx ns.length 0 none = 0 := rfl
      rw [e0, List.drop_zero]
      have e1 : HT.sIx ns.length ns.length (some 62) = min 62 ns.length := by
        unfold HT.sIx
        simp
        try omega
      rw [e1, Nat.sub_zero]
      by_cases h : 62 ≤ ns.length
      · rw [Nat.min_eq_left h]
      · rw [Nat.min_eq_right (by omega), List.take_of_length_le (by simp), List.take_of_length_le (by simp; omega)]
    refine lc_list (K := K) (a := p) (xs := (ns.take 62).map V.int) (fun i H' => H' D = some (.lst (((ns.take 62).take i).map V.int)) ∧ H' p = some (.lst ((ns.take 62).map V.int)) ∧ Same H H') ⟨upd_same, ?_, ?_⟩ (fun i H' _ q => SqL.of q.2.1) ?_ ?_
    · rw [upd_ne hDp.symm, upd_same, hc]
    · intro b o e
      rw [upd_ne (ne_of_none e hD0), upd_ne (ne_of_none e hp)]
      exact e
    · intro i x H' hi q
      obtain ⟨z, hz, rfl⟩ : ∃ z, (ns.take 62)[i]? = some z ∧ x = V.int z := by
        rw [List.getElem?_map] at hi
        cases e : (ns.take 62)[i]? with
        | none =>
          rw [e] at hi
          cases hi
        | some z =>
          rw [e] at hi
          exact ⟨z, rfl, (Option.some.inj hi).symm⟩
      have hli : i < (ns.take 62).length := (List.getElem?_eq_some_iff.mp hz).1
      have hl60 : (ns.take 62).length ≤ 62 := by rw [List.length_take]; omega
      refine ⟨rfl, ?_⟩
      refine yes_te ?_
      refine ⟨_, rfl, .inl ⟨z, rfl, _, q.1, Evl.sz_lt (by rw [List.length_map, List.length_take]; omega), ?_⟩⟩
      refine ⟨?_, ?_, ?_⟩
      · rw [upd_same]
        congr 2
        have ez : (ns.take 62)[i] = z := (List.getElem?_eq_some_iff.mp hz).2
        rw [List.take_succ_eq_append_getElem hli, ez, List.map_append]
        rfl
      · rw [upd_ne hDp.symm]
        exact q.2.1
      · intro b o e
        rw [upd_ne (ne_of_none e hD0)]
        exact q.2.2 b o e
    · intro H' q
      refine ⟨by show 3 ≤ sizeLine; decide, fun l hl => ?_⟩
      have hlD : D ≠ l := ne_of_none q.1 hl
      have hl0 : H l = none := by
        cases e : H l with
        | none => rfl
        | some o => rw [q.2.2 l o e] at hl; cases hl
      refine k _ l D (fun b o e => by rw [upd_ne (ne_of_none e hl0)]; exact q.2.2 b o e) hl0 hD0 ?_
      have q1 := q.1
      rw [List.length_map, List.take_length] at q1
      exact ⟨ns.take 62, 0, 0, upd_same, by rw [upd_ne hlD]; exact q1, hlD, by rw [List.length_take]; omega, Int.le_refl _, Int.le_refl _, Int.le_refl _⟩

theorem scTake : FnScope ["_law_pen_here", "_law_many", "_law_rest", "_law_at", "_law_cell", "_law_mixed_here"] ["_law_pen_here", "_law_many"] (defScope sDraw) := ⟨rfl, rfl, rfl, by decide +kernel, rfl, by decide +kernel, by decide +kernel⟩
theorem ok_take {f : Addr} {fd : FuncData} (F : Fun K "_law_draw" "_law_draw" sDraw f fd) (T : TxL mg) : FnOk P w K mg base CX0 1 f fd ["_law_pen_here", "_law_many"] spTake := by
  refine F.ok scTake (fun vs H Q E h => ?_) (fun cdv A outer s H vs Q E hr h => ?_)
  · obtain ⟨a, c, m, n, rfl, _⟩ := h
    rfl
  · obtain ⟨a, c, m, n, rfl, ⟨ns, i, r, hA, hC, hca, hlen, i0, hi, r0⟩, hn, m0, hm, k⟩ := h
    refine ⟨_, pss_cons (ps_if (pt_cmpR op_gt (pe_ix ix_list (pv 0) pe_int (fun _ _ => rfl)) pe_int (nomark _))
        (pss_cons (ps_set (i := 2) scTake.nd rfl (Or.inl rfl) (pe_callTy call_int1 (by rfl) T.int (by decide +kernel) (pa_cons (pe_ix ix_list (pv 0) pe_int (fun _ _ => rfl)) pa_nil)))
        (pss_cons (ps_asg (pe_op op_fdivW (pv 2) (pv 1)) (pg_sub (pv 0) pe_int set_list))
        (pss_one (ps_ret (pe_op op_mod (pe_callTy call_int1 (by rfl) T.int (by decide +kernel) (pa_cons (pv 2) pa_nil)) (pv 1)))))) pss_nil)
      (pss_cons (ps_set (i := 3) scTake.nd rfl (Or.inl rfl) (pe_ix ix_list (pv 0) pe_int (fun _ _ => rfl)))
      (pss_cons (ps_asg (pe_op op_add (pv 3) pe_int) (pg_sub (pv 0) pe_int set_list))
      (pss_cons (ps_set (i := 4) scTake.nd rfl (Or.inl rfl) (pe_op op_add (pe_op op_mul pe_int (pv 3)) pe_int))
      (Evl.pss_cut (ps_if (pt_cmpR (op_neD hr.units) (pe_ix ix_list (pv 0) pe_int (fun _ _ => rfl)) (pe_lst pa_nil) (nomark _))
        (pss_one (ps_set (i := 4) scTake.nd rfl (Or.inl rfl) (pe_ix ix_list (pe_ix ix_list (pv 0) pe_int (fun _ _ => rfl)) (pe_op op_mod (pe_callTy call_int1 (by rfl) T.int (by decide +kernel) (pa_cons (pv 3) pa_nil)) (pe_callB call_len_seq (by rfl) T.len PySem.boot_len (pa_cons (pe_ix ix_list (pv 0) pe_int (fun _ _ => rfl)) pa_nil))) (fun _ _ => rfl)))) pss_nil)
      (Evl.pss_cut (ps_if (PW.pt (pw_and (pt_cmpR op_lt (pv 3) (pe_callB call_len_seq (by rfl) T.len PySem.boot_len (pa_cons (pe_ix ix_list (pv 0) pe_int (fun _ _ => rfl)) pa_nil)) (nomark _)) (pw_and1 (pt_cmpR op_ge (pe_callB call_abs (by rfl) T.abs (by decide +kernel) (pa_cons (pv 4) pa_nil)) (pe_op op_pow pe_int pe_int) (nomark _)))))
        (pss_cons (ps_set (i := 2) scTake.nd rfl (Or.inl rfl) (pe_op op_add (pe_op op_mul pe_int (pe_op op_sub (pe_callB call_abs (by rfl) T.abs (by decide +kernel) (pa_cons (pv 4) pa_nil)) (pe_op op_pow pe_int pe_int))) (pe_callTy call_int1 (by rfl) T.int (by decide +kernel) (pa_cons (pe_cmpR op_lt (pv 4) pe_int (nomark _)) pa_nil))))
        (pss_cons (ps_asg (pe_op op_fdivW (pe_callTy call_int1 (by rfl) T.int (by decide +kernel) (pa_cons (pv 2) pa_nil)) (pv 1)) (pg_sub (pv 0) pe_int set_list))
        (pss_one (ps_ret (pe_op op_mod (pe_callTy call_int1 (by rfl) T.int (by decide +kernel) (pa_cons (pv 2) pa_nil)) (pv 1)))))) pss_nil)
      (pss_cons (ps_set (i := 5) scTake.nd rfl (Or.inl rfl) (pe_op op_mod (pe_callTy call_int1 (by rfl) T.int (by decide +kernel) (pa_cons (pe_op op_pow (pe_op op_add (pe_op op_add (pe_op op_mod (pe_callTy call_int1 (by rfl) T.int (by decide +kernel) (pa_cons (pv 4) pa_nil)) pe_int) (pe_op op_mul pe_int (pv 3))) pe_int) pe_int) pa_nil)) pe_int))
      (pss_cons (ps_set (i := 5) scTake.nd rfl (Or.inl rfl) (pe_op op_mod (pe_callTy call_int1 (by rfl) T.int (by decide +kernel) (pa_cons (pe_op op_pow (pe_op op_add (pe_op op_add (pe_op op_mul (pv 5) (pe_op op_add (pe_op op_mul pe_int (pv 3)) pe_int)) (pe_op op_mul (pe_op op_mul pe_int (pv 3)) (pv 3))) pe_int) pe_int) pa_nil)) pe_int))
      (pss_one (ps_ret (pe_op op_mod (pe_callTy call_int1 (by rfl) T.int (by decide +kernel) (pa_cons (pe_op op_fdiv (pv 5) pe_int) pa_nil)) (pv 1)))))))))))
      , ?_⟩
    have hdv : ∀ x : Int, CDivW x m := fun x => wide_div m0 hm (by decide) (by decide)
    -- if hand[2] > 0
    refine ⟨_, rfl, a, _, 2, _, rfl, rfl, SqL.of hA, rfl, _, _, rfl, rfl, _, rfl, ?_⟩
    refine ite2 (fun hp => ?_) (fun _ => ?_)
    · refine ⟨_, rfl, a, _, 2, _, rfl, rfl, SqL.of hA, rfl, .inl ⟨_, rfl, ?_⟩⟩
      refine ⟨_, rfl, _, rfl, _, _, rfl, rfl, hdv _, _, rfl, a, _, 2, 2, rfl, rfl, hA, rfl, ?_⟩
      refine ⟨_, rfl, .inl ⟨_, rfl, _, rfl, _, _, rfl, rfl, m0, ?_⟩⟩
      exact k _ (r % m) (Int.emod_nonneg _ (by omega)) (Int.emod_lt_of_pos _ m0) (HandAt.put hC hca hlen i0 (by omega) (Int.ediv_nonneg r0 (by omega))) Kept.upd
    -- at = hand[1]; hand[1] = at + 1; cell = ..
    refine ⟨_, rfl, a, _, 1, _, rfl, rfl, SqL.of hA, rfl, ?_⟩
    refine ⟨_, rfl, _, _, rfl, rfl, _, rfl, a, _, 1, 1, rfl, rfl, hA, rfl, ?_⟩
    refine ⟨_, rfl, _, _, rfl, rfl, .inl ⟨by decide, by decide⟩, _, _, rfl, rfl, ?_⟩
    -- H1: the heap behind this
    obtain ⟨H1, eH1⟩ : ∃ H1, H1 = upd H a (.lst [.ref c, .int (i + 1), .int r]) := ⟨_, rfl⟩
    have kH : Kept a H H1 := by rw [eH1]; exact Kept.upd
    have hA1 : H1 a = some (.lst [.ref c, .int (i + 1), .int r]) := by rw [eH1]; exact upd_same
    have hC1 : H1 c = some (.lst (ns.map V.int)) := by rw [eH1, upd_ne hca]; exact hC
    show Evl.tCut _ _ _ _ (upd H a (.lst [.ref c, .int (i + 1), .int r]))
    rw [← eH1]
    refine ⟨fun σ' H' => Same H1 H' ∧ ∃ cell : Int, σ' = [some (.ref a), some (.int m), none, some (.int i), some (.int cell), none], ?_, ?_⟩
    · refine ⟨_, rfl, a, _, 0, _, rfl, rfl, SqL.of hA1, rfl, Nat.zero_le _, fun p hp => ?_⟩
      have hcp : c ≠ p := ne_of_none hC1 hp
      have hap : a ≠ p := ne_of_none hA1 hp
      have sm : Same H1 (upd H1 p (.lst [])) := fun b o e => by rw [upd_ne (ne_of_none e hp)]; exact e
      refine ⟨.list (ns.map PyData.int), .list [], .lst (SqL.of (sm _ _ hC1)) (dpInts ns), .lst (SqL.of upd_same) .nil, PySem.W.ke_shaped_ints ns, rfl, _, rfl, ?_⟩
      refine ite2 (fun hne => ?_) (fun _ => ?_)
      · have hn0 : 0 < ns.length := by
          cases ns with
          | nil => exact absurd hne (by decide)
          | cons x xs => exact Nat.succ_pos _
        have hl0 : (0 : Int) < (((ns.map V.int).length : Nat) : Int) := by rw [List.length_map]; omega
        have hj0 : 0 ≤ i % (((ns.map V.int).length : Nat) : Int) := Int.emod_nonneg _ (by omega)
        have hj1 : i % (((ns.map V.int).length : Nat) : Int) < (((ns.map V.int).length : Nat) : Int) := Int.emod_lt_of_pos _ hl0
        obtain ⟨j, hj⟩ : ∃ j : Nat, i % (((ns.map V.int).length : Nat) : Int) = (j : Int) := ⟨(i % (((ns.map V.int).length : Nat) : Int)).toNat, by omega⟩
        have hjl : j < ns.length := by rw [List.length_map] at hj1 hj; omega
        refine ⟨_, rfl, a, _, 0, _, rfl, rfl, SqL.of (sm _ _ hA1), rfl, _, rfl, .inl ⟨_, rfl, ?_⟩⟩
        refine ⟨_, rfl, a, _, 0, _, rfl, rfl, SqL.of (sm _ _ hA1), rfl, c, _, rfl, .inl (SqL.of (sm _ _ hC1)), _, _, rfl, rfl, hl0, c, _, _, .int ns[j], rfl, rfl, SqL.of (sm _ _ hC1), ?_, ?_⟩
        · rw [hj]
          exact atI_nat (by rw [List.getElem?_map, List.getElem?_eq_getElem hjl]; rfl)
        · exact ⟨sm, ns[j], rfl⟩
      · exact ⟨sm, _, rfl⟩
    · rintro σ' H2 ⟨sm, cell, rfl⟩
      have hA2 := sm _ _ hA1
      have hC2 := sm _ _ hC1
      have kH2 : Kept a H H2 := fun b o e q => sm b o (kH b o e q)
      -- a great cell: what is left of it
      refine ⟨fun σ' H' => σ' = [some (.ref a), some (.int m), none, some (.int i), some (.int cell), none] ∧ H' = H2, ?_, ?_⟩
      · refine ⟨_, rfl, _, rfl, a, _, 0, _, rfl, rfl, SqL.of hA2, rfl, c, _, rfl, .inl (SqL.of hC2), _, _, rfl, rfl, _, rfl, ?_⟩
        refine ite2 (fun _ => ?_) (fun _ => ?_)
        · refine ⟨_, rfl, cell, rfl, _, _, rfl, rfl, ⟨by decide, by decide, by decide⟩, _, _, rfl, rfl, _, rfl, ?_⟩
          refine ite2 (fun hge => ?_) (fun _ => ⟨rfl, rfl⟩)
          have hge' := of_decide_eq_true hge
          refine ⟨_, rfl, cell, rfl, _, _, rfl, rfl, ⟨by decide, by decide, by decide⟩, _, _, rfl, rfl, _, _, rfl, rfl, .inl ⟨by decide, by decide⟩, _, rfl, _, _, rfl, rfl, .inr ⟨_, rfl, _, _, rfl, rfl, ?_⟩⟩
          have hr2 : ∀ b : Bool, 0 ≤ 2 * ((if cell < 0 then -cell else cell) - (10 : Int) ^ Int.toNat 18) + (if b = true then 1 else 0) := by
            intro b
            have e1 : (if b = true then (1 : Int) else 0) ≥ 0 := by cases b <;> decide
            have e2 : (10 : Int) ^ Int.toNat 18 ≤ (if cell < 0 then -cell else cell) := hge'
            omega
          refine ⟨_, rfl, .inl ⟨_, rfl, _, rfl, _, _, rfl, rfl, hdv _, _, rfl, a, _, 2, 2, rfl, rfl, hA2, rfl, ?_⟩⟩
          refine ⟨_, rfl, .inl ⟨_, rfl, _, rfl, _, _, rfl, rfl, m0, ?_⟩⟩
          exact k _ _ (Int.emod_nonneg _ (by omega)) (Int.emod_lt_of_pos _ m0) (HandAt.put hC2 hca hlen (by omega) (by omega) (Int.ediv_nonneg (hr2 _) (by omega))) (kH2.trans Kept.upd)
        · exact ⟨rfl, rfl⟩
      · rintro σ' H3 ⟨rfl, rfl⟩
        have hin : i ≤ 10000 := by omega
        have b1 : 0 ≤ cell % 2147483629 := Int.emod_nonneg _ (by decide)
        have b2 : cell % 2147483629 < 2147483629 := Int.emod_lt_of_pos _ (by decide)
        refine ⟨_, rfl, .inl ⟨_, rfl, _, _, rfl, rfl, (by decide : (0 : Int) < 2147483629), _, rfl, _, _, rfl, rfl, .inl ⟨by decide, by decide⟩, _, _, rfl, rfl, _, _, rfl, rfl, _, _, rfl, rfl, ⟨by decide, by decide, ?_⟩, ?_⟩⟩
        · show (cell % 2147483629 + 40111 * i + 7103).natAbs < 2 ^ 64
          have e : (2 : Nat) ^ 64 = 18446744073709551616 := by decide
          rw [e]
          omega
        have hb : ∀ x : Int, ((x % 2147483587) * (2 * i + 2203) + 56101 * i * i + 60013).natAbs < 2 ^ 64 := by
          intro x
          have b3 : 0 ≤ x % 2147483587 := Int.emod_nonneg _ (by decide)
          have b4 : x % 2147483587 < 2147483587 := Int.emod_lt_of_pos _ (by decide)
          have e : (2 : Nat) ^ 64 = 18446744073709551616 := by decide
          have c1 : 0 ≤ (x % 2147483587) * (2 * i + 2203) := Int.mul_nonneg b3 (by omega)
          have c2 : (x % 2147483587) * (2 * i + 2203) ≤ 2147483587 * 22203 := Int.mul_le_mul (by omega) (by omega) (by omega) (by omega)
          have c3 : 0 ≤ 56101 * i * i := Int.mul_nonneg (by omega) i0
          have c4 : 56101 * i * i ≤ 561010000 * 10000 := Int.mul_le_mul (by omega) hin i0 (by omega)
          rw [e]
          omega
        have hc : ∀ x : Int, CMul (x % 2147483587) (2 * i + 2203) := by
          intro x
          have b3 : 0 ≤ x % 2147483587 := Int.emod_nonneg _ (by decide)
          have b4 : x % 2147483587 < 2147483587 := Int.emod_lt_of_pos _ (by decide)
          exact .inl ⟨by omega, by omega⟩
        refine .inl ⟨_, rfl, _, _, rfl, rfl, (by decide : (0 : Int) < 2147483587), ?_⟩
        refine ⟨_, rfl, _, rfl, _, _, rfl, rfl, .inl ⟨by decide, by decide⟩, _, _, rfl, rfl, _, _, rfl, rfl, hc _, _, rfl, _, _, rfl, rfl, .inl ⟨by decide, by decide⟩, _, rfl, _, _, rfl, rfl, .inl ⟨by omega, by omega⟩, _, _, rfl, rfl, _, _, rfl, rfl, _, _, rfl, rfl, ⟨by decide, by decide, hb _⟩, ?_⟩
        refine .inl ⟨_, rfl, _, _, rfl, rfl, (by decide : (0 : Int) < 2147483549), ?_⟩
        refine ⟨_, rfl, _, _, rfl, rfl, ⟨by decide, by decide⟩, .inl ⟨_, rfl, _, rfl, _, _, rfl, rfl, m0, ?_⟩⟩
        exact k _ _ (Int.emod_nonneg _ (by omega)) (Int.emod_lt_of_pos _ m0) ⟨ns, i + 1, r, hA2, hC2, hca, hlen, by omega, by omega, r0⟩ kH2
end
end W11
set_option Elab.async false
set_option linter.all false
set_option maxRecDepth 100000
set_option maxHeartbeats 2000000
namespace W11
open PySem L2 PySem.Spec PyProof.Rows WR WB
structure EqW (P : Program) (w : World) (K : PySem.W.Frag) (mg : Str → Option Value) (base : Heap) (C : Addr) : Prop where
  ex : ∃ (f : Addr) (fd : FuncData), FnOk P w K mg base CX0 1 f fd ["self", "other"] (spEq K C) ∧ PySem.W.findIn K (.ref C) "__eq__" = some (some (.ref f)) ∧ PySem.W.isFn K (.ref f) = true ∧ Binds K fd ["self", "other"] []
/-- two words, held against one another -/
def rEqW (K : PySem.W.Frag) (C : Addr) : R2 := fun x y H Q => ∃ (p q : Addr) (ns ms : List Int), x = .ref p ∧ y = .ref q ∧ WordAt K C H p ns ∧ WordAt K C H q ms ∧ Q (.bl (decide (ns = ms))) H
section
variable {X : Cx} {C : Addr}
theorem op_eqW (M : EqW X.prog X.w X.K X.mg X.base C) {j : Nat} (hr : Room j X.A) (hj : 1 ≤ j) : OpR X (compareOp .Eq) (rEqW X.K C) := by
  intro pins s σ H x y u v Q I rx ry d
  obtain ⟨f, fd, F, hs, hf, hb⟩ := M.ex
  obtain ⟨a, b, ns, ms, rfl, rfl, W1, W2, hq⟩ := d
  cases rx
  cases ry
  obtain ⟨dx, tl, tk, ks, ha, _⟩ := id W1
  obtain ⟨dx', tl', tk', ks', hb', _⟩ := id W2
  obtain ⟨mA, J, _⟩ := ins_get I.hok ha
  obtain ⟨mB, J', _⟩ := ins_get I.hok hb'
  obtain ⟨od, J, _⟩ := J.look
  obtain ⟨od', J', _⟩ := J'.look
  obtain ⟨m, hF⟩ := I.fr
  have rm : Room 1 X.A := hr.mono hj
  show wpAny (model X.prog X.w) X.A (richCompare .Eq (.ref a) (.ref b)) (EP X pins σ Q) X.xe s
  refine PySem.W.cmp_K (op := .Eq) (tb := .ref C) rm.units0 hF I.ok.mod.kin J J'.type (by simp [PySem.W.notFirst]) hs hf ?_
  have hsp : spEq X.K C [.ref a, .ref b] H (fun v H' => ∃ c, v = .bl c ∧ Q (.bl c) H') E0 := ⟨a, b, ns, ms, rfl, W1, W2, _, rfl, hq⟩
  have e0 : Env0 X.prog X.w X.K X.mg X.base X.A X.stack s H := I.env0
  have hl := F.len _ _ _ _ hsp
  have r2 : Vals [V.ref a, V.ref b] [Value.ref a, Value.ref b] := .cons rfl (.cons rfl .nil)
  refine wpAny_call (codeAny_mono (F.run X.A X.stack s H ⟨[.ref a, .ref b], []⟩ [.ref a, .ref b] [.ref a, .ref b] _ E0 rm e0 (by
    have := hb s [.ref a, .ref b] I.kIn (by simpa using hl)
    simpa using this) r2 hsp) fun r s' hq => ?_)
  cases r with
  | error e => exact pass0 pins σ H s e s' I hq
  | ok fl =>
    cases fl with
    | ret w =>
      obtain ⟨z, H', I', rz, c, ez, q⟩ := I.after hq
      subst ez
      cases rz
      exact ⟨.bl c, H', I', rfl, q⟩
    | next => exact False.elim hq
    | brk => exact False.elim hq
    | cont => exact False.elim hq
end
end W11
set_option Elab.async false
set_option linter.all false
set_option maxRecDepth 100000
set_option maxHeartbeats 2000000
/-! x != y, of two instances whose class has an own == and no own !=. -/
namespace NeK
open PySem PySem.Spec PyProof.Rows PySem.SeqAt
section
variable {M : Model} {prog : Program} {w : World} {A : Around} {E : Value → Shared → Prop} {s : Shared} {K : PySem.W.Frag} {x y f C : Addr} {ox oy : Obj} {od od' : Option Obj}
theorem ne_entry (hu : A.units < cLine) (X : K.In s.heap) (I : PySem.W.InstAt s.heap x ox C od) (hs : PySem.W.findIn K (.ref C) "__eq__" = some (some (.ref f))) (hf : PySem.W.isFn K (.ref f) = true) {Q : Fin → Shared → Prop}
    (hcall : wpAny (model prog w) A (call (.ref f) [.ref x, .ref y]) (fun v s' => ∃ b, v = .bool b ∧ Q (.done (.ret (.bool (!b)))) s') E s) :
    wpAny (model prog w) A (Builtin.«object.__ne__» ⟨[.ref x, .ref y], []⟩) Q E s := by
  unfold Builtin.«object.__ne__»
  repeat (first
    | with_reducible refine wpAny_cRoomFor hu ?_
    | (refine wpAny_bind (m := callSpecialIfBound? (.ref x) (Str.ofString "__eq__") [.ref y])
        (PySem.W.ifBound_K X I hs hf (wpAny_mono hcall (fun r s' hr => by
          obtain ⟨b, rfl, hq⟩ := hr
          repeat (first | exact hq | exact wpAny_pure hq | exact wpAny_truthy_bool hq | (refine wpAny_bind (m := truthy (.bool _)) (wpAny_truthy_bool ?_)) | wp_step)) fun _ _ e => e)))
    | wp_step)
theorem ifBound_ne {args : List Value} {Q : Option Value → Shared → Prop} (X : K.In s.heap) (I : PySem.W.InstAt s.heap x ox C od) (hs : PySem.W.findIn K (.ref C) "__ne__" = some (some (.builtin "object.__ne__")))
    (h : wpAny M A (call (.builtin "object.__ne__") (.ref x :: args)) (fun v => Q (some v)) E s) : wpAny M A (callSpecialIfBound? (.ref x) "__ne__" args) Q E s := by
  simp only [callSpecialIfBound?, bindSpecialIfBound?]
  refine wpAny_holding (wpAny_bind (wpAny_bind (wpAny_bind (I.type.here ((PySem.W.looks_findIn X hs).here ?_)))))
  refine wpAny_bind (wpAny_askSetting (wpAny_ite ?_))
  have fin : wpAny M A (call (.builtin "object.__ne__") ([.ref x] ++ args) >>= fun v => pure (some v)) Q E s := wpAny_bind (wpAny_mono h (fun v s' h' => wpAny_pure h') fun _ _ h' => h')
  split
  · exact wpAny_bind (wpAny_of_eq (F.cmp_object.ne.bind _) (wpAny_pure (by exact fin)))
  · exact wpAny_tryCatch (wpAny_bind (wpAny_of_eq (F.cmp_object.ne.bind _) (wpAny_pure (by exact fin))))
theorem rc_ne (hu : A.units + 1 < cLine) (X : K.In s.heap) (I : PySem.W.InstAt s.heap x ox C od) (I' : PySem.W.InstAt s.heap y oy C od') (hm : PySem.W.mroIn K C (.type "object") = some true) (hs : PySem.W.findIn K (.ref C) "__eq__" = some (some (.ref f))) (hf : PySem.W.isFn K (.ref f) = true)
    (hn : PySem.W.findIn K (.ref C) "__ne__" = some (some (.builtin "object.__ne__"))) {Q : Value → Shared → Prop}
    (hcall : wpAny (model prog w) A.in1 (call (.ref f) [.ref x, .ref y]) (fun v s' => ∃ b, v = .bool b ∧ Q (.bool (!b)) s') E s) :
    wpAny (model prog w) A (richCompare .NotEq (.ref x) (.ref y)) Q E s := by
  have one : wpAny (model prog w) A (tryCompare (.ref x) "__ne__" (.ref y)) (fun r s' => ∃ b, r = some (.bool b) ∧ Q (.bool b) s') E s := by
    unfold tryCompare
    refine wpAny_bind (ifBound_ne X I hn (wpAny_call (codeAny_call_builtin F.cmp_object.ne.plain F.cmpEntry_ne (PySem.W.check_slot F.cmpKind_ne F.cmpSplit_ne (I.type.andThen (PySem.W.looks_mroIn X hm)) (F.cmpArgs_ne _ _)
      (ne_entry (A := A.in1) hu X I hs hf (wpAny_mono hcall (fun v s' hv => ?_) fun _ _ e => e))))))
    obtain ⟨b, rfl, hq⟩ := hv
    first | exact ⟨b, rfl, wpAny_pure ⟨_, rfl, hq⟩⟩ | exact ⟨b, rfl, wpAny_pure (wpAny_pure ⟨_, rfl, hq⟩)⟩ | exact ⟨b, rfl, _, rfl, hq⟩
  unfold richCompare
  simp only [oneThing_ref]
  refine wpAny_holding (wpAny_bind (wpAny_cRoomFor (Nat.lt_of_succ_lt hu) ?_))
  rw [cmpInfo_NotEq]
  dsimp only
  refine wpAny_bind (I.type.here (wpAny_bind (I'.type.here ?_)))
  rw [show (Value.ref C != Value.ref C) = false from by simp]
  simp only [Bool.false_eq_true, if_false]
  refine wpAny_bind (wpAny_pure ?_)
  simp only [Bool.false_eq_true, if_false]
  refine wpAny_bind (wpAny_mono one (fun v s' hv => ?_) fun _ _ e => e)
  obtain ⟨b, rfl, hq⟩ := hv
  first | exact wpAny_pure hq | exact wpAny_pure (wpAny_pure hq) | exact hq
end
end NeK
namespace W11
open PySem L2 PySem.Spec PyProof.Rows WR WB
def rNeW (K : PySem.W.Frag) (C : Addr) : R2 := fun x y H Q => ∃ (p q : Addr) (ns ms : List Int), x = .ref p ∧ y = .ref q ∧ WordAt K C H p ns ∧ WordAt K C H q ms ∧ Q (.bl (!decide (ns = ms))) H
section
variable {X : Cx} {C : Addr}
theorem op_neW (M : EqW X.prog X.w X.K X.mg X.base C) (hne : PySem.W.findIn X.K (.ref C) "__ne__" = some (some (.builtin "object.__ne__"))) (hmr : PySem.W.mroIn X.K C (.type "object") = some true) {j : Nat} (hr : Room j X.A) (hj : 2 ≤ j) : OpR X (compareOp .NotEq) (rNeW X.K C) := by
  intro pins s σ H x y u v Q I rx ry d
  obtain ⟨f, fd, F, hs, hf, hb⟩ := M.ex
  obtain ⟨a, b, ns, ms, rfl, rfl, W1, W2, hq⟩ := d
  cases rx
  cases ry
  obtain ⟨dx, tl, tk, ks, ha, _⟩ := id W1
  obtain ⟨dx', tl', tk', ks', hb', _⟩ := id W2
  obtain ⟨mA, J, _⟩ := ins_get I.hok ha
  obtain ⟨mB, J', _⟩ := ins_get I.hok hb'
  obtain ⟨od, J, _⟩ := J.look
  obtain ⟨od', J', _⟩ := J'.look
  have rm2 : Room 2 X.A := hr.mono hj
  have rm : Room 1 X.A.in1 := rm2.in1
  show wpAny (model X.prog X.w) X.A (richCompare .NotEq (.ref a) (.ref b)) (EP X pins σ Q) X.xe s
  refine NeK.rc_ne (by have := rm.units0; exact this) I.kIn J J' hmr hs hf hne ?_
  have hsp : spEq X.K C [.ref a, .ref b] H (fun v H' => ∃ c, v = .bl c ∧ Q (.bl (!c)) H') E0 := ⟨a, b, ns, ms, rfl, W1, W2, _, rfl, hq⟩
  have e0 : Env0 X.prog X.w X.K X.mg X.base X.A.in1 X.stack s H := by
    have e := I.env0
    exact ⟨e.frames, e.mod, e.bs, e.bsz, e.funs, e.frf, e.hok, e.bare⟩
  have hl := F.len _ _ _ _ hsp
  have r2 : Vals [V.ref a, V.ref b] [Value.ref a, Value.ref b] := .cons rfl (.cons rfl .nil)
  refine wpAny_call (codeAny_mono (F.run X.A.in1 X.stack s H ⟨[.ref a, .ref b], []⟩ [.ref a, .ref b] [.ref a, .ref b] _ E0 rm e0 (by
    have := hb s [.ref a, .ref b] I.kIn (by simpa using hl)
    simpa using this) r2 hsp) fun r s' hq => ?_)
  cases r with
  | error e => exact pass0 pins σ H s e s' I hq
  | ok fl =>
    cases fl with
    | ret w =>
      obtain ⟨z, H', I', rz, c, ez, q⟩ := I.after hq
      subst ez
      cases rz
      exact ⟨c, rfl, .bl (!c), H', I', rfl, q⟩
    | next => exact False.elim hq
    | brk => exact False.elim hq
    | cont => exact False.elim hq
end
end W11
set_option Elab.async false
set_option linter.all false
set_option maxRecDepth 100000
set_option maxHeartbeats 2000000
namespace W11
open PySem L2 PySem.Spec PyProof.Rows WR WB
abbrev sPick : Stmt := top 46
def Drew (a c : Addr) (n : Nat) (H H' : Hp) : Prop := HandAt H' a c n ∧ Kept a H H'
theorem HandAt.mono {H : Hp} {a c : Addr} {m n : Nat} (h : HandAt H a c m) (l : m ≤ n) : HandAt H a c n := by
  obtain ⟨ns, i, r, h1, h2, h3, h4, h5, h6, h7⟩ := h
  exact ⟨ns, i, r, h1, h2, h3, h4, h5, by omega, h7⟩
theorem HandAt.off {H : Hp} {a c p : Addr} {n : Nat} {o : HO} (h : HandAt H a c n) (h1 : p ≠ a) (h2 : p ≠ c) : HandAt (L2.upd H p o) a c n := by
  obtain ⟨ns, i, r, h3, h4, h5⟩ := h
  exact ⟨ns, i, r, by rw [upd_ne h1.symm]; exact h3, by rw [upd_ne h2.symm]; exact h4, h5⟩
theorem HandAt.ne {H : Hp} {a c p : Addr} {n : Nat} (h : HandAt H a c n) (hp : H p = none) : p ≠ a := by
  obtain ⟨ns, i, r, h1, _⟩ := h
  exact (ne_of_none h1 hp).symm
theorem HandAt.neC {H : Hp} {a c p : Addr} {n : Nat} (h : HandAt H a c n) (hp : H p = none) : p ≠ c := by
  obtain ⟨ns, i, r, h1, h2, _⟩ := h
  exact (ne_of_none h2 hp).symm
theorem HandAt.new {H : Hp} {a c p : Addr} {n : Nat} {o : HO} (h : HandAt H a c n) (hp : H p = none) : HandAt (L2.upd H p o) a c n := h.off (h.ne hp) (h.neC hp)
theorem Drew.refl {a c : Addr} {n : Nat} {H : Hp} (h : HandAt H a c n) : Drew a c n H H := ⟨h, Kept.refl⟩
theorem Drew.trans {a c : Addr} {m n : Nat} {H H1 H2 : Hp} (h1 : Drew a c m H H1) (h2 : Drew a c n H1 H2) : Drew a c n H H2 := ⟨h2.1, h1.2.trans h2.2⟩
theorem Drew.new {a c p : Addr} {n : Nat} {H H1 : Hp} {o : HO} (h : Drew a c n H H1) (hp : H1 p = none) : Drew a c n H (L2.upd H1 p o) := ⟨h.1.new hp, h.2.new hp⟩
theorem Drew.mono {a c : Addr} {m n : Nat} {H H1 : Hp} (h : Drew a c m H H1) (l : m ≤ n) : Drew a c n H H1 := ⟨h.1.mono l, h.2⟩
/-- an object that was not there at first may change -/
theorem Drew.put {a c p : Addr} {n : Nat} {H H1 : Hp} {o : HO} (h : Drew a c n H H1) (h0 : H p = none) (h1 : p ≠ a) (h2 : p ≠ c) : Drew a c n H (L2.upd H1 p o) :=
  ⟨h.1.off h1 h2, fun b u nb e => by rw [upd_ne (ne_of_none e h0)]; exact h.2 b u nb e⟩
theorem Drew.back {a c p : Addr} {n : Nat} {H H1 : Hp} (h : Drew a c n H H1) (hp : H1 p = none) : H p = none := by
  cases e : H p with
  | none => rfl
  | some o =>
    have q := h.2 p o (h.1.ne hp) e
    rw [hp] at q
    cases q
theorem HandAt.same {H H' : Hp} {a c : Addr} {n : Nat} (h : HandAt H a c n) (s : Same H H') : HandAt H' a c n := by
  obtain ⟨ns, i, r, h1, h2, h3⟩ := h
  exact ⟨ns, i, r, s _ _ h1, s _ _ h2, h3⟩
theorem Drew.same {a c : Addr} {n : Nat} {H H1 H2 : Hp} (h : Drew a c n H H1) (s : Same H1 H2) : Drew a c n H H2 := ⟨h.1.same s, fun b o nb e => s b o (h.2 b o nb e)⟩
/-- a new list of these ints -/
def NewL (H : Hp) (Q : VK) (ns : List Int) : Prop := ∀ p H', H p = none → Same H H' → H' p = some (.lst (iv ns)) → Q (.ref p) H'
def spPick : Sp := fun vs H Q _ => ∃ (a c p : Addr) (xs : List V) (n : Nat), vs = [.ref a, .ref p] ∧ HandAt H a c n ∧ n ≤ 10000 ∧ p ≠ a ∧ H p = some (.lst xs) ∧ 0 < xs.length ∧ xs.length ≤ 1000 ∧ ∀ v ∈ xs, ∀ H', Drew a c (n + 1) H H' → Q v H'
structure TxN (mg : Str → Option Value) : Prop where
  range : mg "range" = none
  list : mg "list" = none
theorem Drew.ofNew {a c p : Addr} {n : Nat} {H H' : Hp} (d : Drew a c n H H') (h0 : HandAt H a c n) {o : HO} (hp : H p = some o) (hn : p ≠ a) : H' p = some o := d.2 _ _ hn hp
section
variable {P : Program} {w : World} {K : PySem.W.Frag} {mg : Str → Option Value} {base : Heap}
theorem scPick : FnScope ["_law_pen_here", "_law_some"] ["_law_pen_here", "_law_some"] (defScope sPick) := ⟨rfl, rfl, rfl, by decide +kernel, rfl, by decide +kernel, by decide +kernel⟩
theorem ok_pick {f : Addr} {fd : FuncData} (F : Fun K "_law_pick" "_law_pick" sPick f fd) (GT : Cal P w K mg base "_law_draw" 1 ["_law_pen_here", "_law_many"] spTake) (T : TxL mg) : FnOk P w K mg base CX0 2 f fd ["_law_pen_here", "_law_some"] spPick := by
  refine F.ok scPick (fun vs H Q E h => ?_) (fun cdv A outer s H vs Q E hr h => ?_)
  · obtain ⟨a, c, p, xs, n, rfl, _⟩ := h
    rfl
  · obtain ⟨a, c, p, xs, n, rfl, hH, hn, hpa, hp, h0, h1, k⟩ := h
    refine ⟨_, pss_one (ps_ret (pe_ix ix_list (pv 1) (pe_cal GT hr (by decide) (by rfl) (pa_cons (pv 0) (pa_cons (pe_callB call_len_seq (by rfl) T.len PySem.boot_len (pa_cons (pv 1) pa_nil)) pa_nil))) (fun _ _ => rfl))), ?_⟩
    refine ⟨_, rfl, _, rfl, _, rfl, p, _, rfl, .inl (SqL.of hp), a, c, _, n, rfl, hH, hn, by omega, ?_, ?_⟩
    · have : (((xs.length : Nat) : Int)).natAbs ≤ 1000 := by omega
      exact Nat.lt_of_le_of_lt this (by decide)
    · intro H' q q0 q1 hH' hK
      obtain ⟨j, rfl⟩ : ∃ j : Nat, q = (j : Int) := ⟨q.toNat, by omega⟩
      have hj : j < xs.length := by omega
      refine ⟨p, xs, _, xs[j], rfl, rfl, SqL.of (hK _ _ hpa hp), atI_nat (List.getElem?_eq_getElem hj), ?_⟩
      exact k _ (List.getElem_mem hj) H' ⟨hH', hK⟩
theorem int_eq {x y : Int} : decide (V.int x = V.int y) = decide (x = y) := by
  rw [Bool.eq_iff_iff, decide_eq_true_iff, decide_eq_true_iff]
  exact ⟨fun e => by injection e, fun e => by rw [e]⟩
end
end W11
set_option Elab.async false
set_option linter.all false
set_option maxRecDepth 100000
set_option maxHeartbeats 2000000
/-! C.m(..), m a staticmethod of the class C. -/
namespace MStat
open PySem L2 PySem.Spec PyProof.Rows
/-- m is a staticmethod of C: its record at p, its def at g -/
structure SMet (K : PySem.W.Frag) (C : Addr) (mc : Value) (m : Str) (p g : Addr) : Prop where
  rd : PySem.W.readsIn K C mc = true
  ga : PySem.W.specialIn K (.ref C) "__getattribute__" = some (some (.builtin "type.__getattribute__"))
  at_ : PySem.W.findCls K (.ref C) mc m = some (.get (.builtin "staticmethod.__get__") (.ref p) .none (.ref C))
  rc : ∃ rest, PySem.W.recIn K p "staticmethod" = some (.ref g :: rest)
  kp : PySem.W.keepIn K (.ref g) = true
section
variable {X : Cx} {pins : List (Addr × Obj)} {σ : L2.St} {H : Hp} {s : Shared} {C p g : Addr} {mc : Value} {m : Str} {A : Around} {E : Value → Shared → Prop}
theorem getsm_ok {pl : Sem Bool} {Q : Value × List Value → Shared → Prop} (I : Inv X pins σ H s) (k : SMet X.K C mc m p g) (h : ∀ s', Inv X pins σ H s' → Q (.ref g, []) s') : wpAny (model X.prog X.w) A (getMethod (.ref C) m pl) Q E s := by
  obtain ⟨rest, hp⟩ := k.rc
  refine PySem.W.method_cls I.kIn k.ga (PySem.W.cls_bind I.kIn k.rd k.at_ ?_)
  refine wpAny_call (PySem.W.sm_get (s := { s with toks := s.toks + 1 }) I.kIn hp (PySem.W.handed_on rfl ?_))
  exact h _ (I.tok _)
end
/-- C.m(..) by place -/
def tSMeth (C : Addr) (sp : Sp) (ta : TE) (t : TA) : TE := fun σ H Q => ta σ H fun x H1 => x = .ref C ∧ t σ H1 fun vs H2 => sp vs H2 Q E0
/-- C.m(..) by keywords alone -/
def tSMethK (C : Addr) (sp : Sp) (gV : List V → List V) (n : Nat) (ta : TE) (tk : TA) : TE := fun σ H Q => ta σ H fun x H1 => x = .ref C ∧ tk σ H1 fun zs H2 => zs.length = n ∧ sp (gV zs) H2 Q E0
section
variable {X : Cx} {k j : Nat} {C : Addr} {sp : Sp} {ps ks : List Str} {gV : List V → List V} {o e : Expr} {es : List Expr} {m : Str} {pos apos : Pos} {ta : TE} {t tk : TA} {kws : List Keyword} {pl : Sem Bool} {fd : FuncData} {p g : Addr} {mc : Value}
theorem pe_smeth (he : PE X o ta) (c : SMet X.K C mc m p g) (F : FnOk X.prog X.w X.K X.mg X.base CX0 k g fd ps sp) (hr : Room k X.A) (hb : Binds X.K fd ps []) (ha : PA X (e :: es) t)
    (hst : starEach (e :: es) X.env = (false, eval e X.env) :: starEach es X.env := by rfl) (hpl : (backTo pos (starEach es X.env)).any (·.1) = false := by rfl)
    (ht : eval (.Call (.Attribute o m apos) (e :: es) [] pos) X.env = (do
      let ov ← eval o X.env
      standAt apos.atName
      let (f, first) ← holding [ov] (getMethod ov m pl)
      callWith pos f first (backTo pos (starEach (e :: es) X.env)) (backToKw pos (keywordEach [] X.env))) := by rfl) :
    PE X (.Call (.Attribute o m apos) (e :: es) [] pos) (tSMeth C sp ta t) := by
  refine ⟨fun pins s σ H Q I h => ?_⟩
  refine PySem.W.methodCall_KW (pl := pl) (thn (he.run pins s σ H _ I h) fun u s1 ⟨x, H1, I1, rx, ex, q⟩ => ?_) ht
  subst ex
  obtain rfl : u = Value.ref C := rx
  refine getsm_ok I1 c fun s2 I2 => ?_
  refine PySem.W.callWith_K (first := []) (h₀ := X.base) I2.ok.mod.kin c.kp (thn (ha.run pos pins s2 σ H1 _ I2 q) fun us s3 ⟨vs, H2, I3, rv, q2⟩ => ⟨I3.kIn, ?_⟩) hst hpl
  exact run_fn (us := us) (vs := vs) (dvs := []) (ds := []) F hr hb .nil pass0 I3 rv (by simpa using q2)
theorem pe_smethK (he : PE X o ta) (c : SMet X.K C mc m p g) {gg : List Value → List Value} (F : FnOk X.prog X.w X.K X.mg X.base CX0 k g fd ps sp) (hr : Room k X.A) (hb : KBn X.K fd ps 0 ks (fun _ ws => gg ws) (fun _ zs => gV zs)) (hkw : PK X kws tk)
    (hall : (backToKw pos (keywordEach kws X.env)).all (·.1.isSome) = true := by rfl) (hks : (backToKw pos (keywordEach kws X.env)).filterMap (·.1) = ks := by rfl)
    (hpl : ((backTo pos (starEach [] X.env)).any (·.1) || (backToKw pos (keywordEach kws X.env)).any (·.1.isNone)) = false := by rfl)
    (ht : eval (.Call (.Attribute o m apos) [] kws pos) X.env = (do
      let ov ← eval o X.env
      standAt apos.atName
      let (f, first) ← holding [ov] (getMethod ov m pl)
      callWith pos f first (backTo pos (starEach [] X.env)) (backToKw pos (keywordEach kws X.env))) := by rfl) :
    PE X (.Call (.Attribute o m apos) [] kws pos) (tSMethK C sp gV ks.length ta tk) := by
  refine ⟨fun pins s σ H Q I h => ?_⟩
  refine PySem.W.methodCall_KW (pl := pl) (thn (he.run pins s σ H _ I h) fun u s1 ⟨x, H1, I1, rx, ex, q⟩ => ?_) ht
  subst ex
  obtain rfl : u = Value.ref C := rx
  refine getsm_ok I1 c fun s2 I2 => ?_
  refine PySem.W.callWith_KW0 (first := []) (h₀ := X.base) I2.ok.mod.kin c.kp hall ?_ hpl
  refine thn (hkw.run pos pins s2 σ H1 _ I2 q) fun ws s3 ⟨zs, H2, I3, rz, lz, q2⟩ => ⟨I3.kIn, ?_⟩
  rw [hks]
  have r2 := hb.rel (vs := []) (us := []) .nil rz
  have hl : ws.length = ks.length := by rw [← rz.length, lz]
  refine wpAny_call (codeAny_mono (F.run X.A X.stack s3 H2 ⟨[], ks.zip ws⟩ (gg ws) (gV zs) Q E0 hr I3.env0 (hb.to s3 [] ws I3.kIn rfl hl) r2 q2) fun r s' hq => ?_)
  cases r with
  | error e => exact pass0 pins σ H2 s3 e s' I3 hq
  | ok fl =>
    cases fl with
    | ret u => exact I3.after hq
    | next => exact False.elim hq
    | brk => exact False.elim hq
    | cont => exact False.elim hq
end
end MStat
set_option Elab.async false
set_option linter.all false
set_option maxRecDepth 100000
set_option maxHeartbeats 2000000
/-! str(x), len(x), x an instance of an own class with an own __str__, __len__. -/
namespace MStr
open PySem L2 PySem.Spec PyProof.Rows
/-- a def of the class C under a special name, with its promise -/
structure Spe (P : Program) (w : World) (K : PySem.W.Frag) (mg : Str → Option Value) (base : Heap) (C : Addr) (m : Str) (k : Nat) (sp : Sp) : Prop where
  ex : ∃ (f : Addr) (fd : FuncData), FnOk P w K mg base CX0 k f fd ["self"] sp ∧ PySem.W.findIn K (.ref C) m = some (some (.ref f)) ∧ PySem.W.isFn K (.ref f) = true ∧ Binds K fd ["self"] []
def rStrO (C : Addr) (sp : Sp) : List V → Hp → VK → Prop := fun xs H Q => ∃ (p dx : Addr) (fs : List (Str × V)), xs = [.ref p] ∧ H p = some (.ins C dx fs) ∧ sp [.ref p] H (fun v H' => ∃ z : Str, v = .str z ∧ Q v H') E0
def rLenO (C : Addr) (sp : Sp) : List V → Hp → VK → Prop := fun xs H Q => ∃ (p dx : Addr) (fs : List (Str × V)), xs = [.ref p] ∧ H p = some (.ins C dx fs) ∧ sp [.ref p] H (fun v H' => ∃ n : Nat, v = .int (n : Int) ∧ n ≤ 100000 ∧ Q v H') E0
section
variable {X : Cx} {C : Addr} {k j : Nat} {sp : Sp}
theorem call_strO (M : Spe X.prog X.w X.K X.mg X.base C "__str__" k sp) (hr : Room j X.A) (hj : k + 2 ≤ j) : CallR X (.type "str") (rStrO C sp) := by
  intro pins s σ H vs us Q I r h
  obtain ⟨f, fd, F, hs, hf, hb⟩ := M.ex
  obtain ⟨p, dx, fs, rfl, hp, hsp⟩ := h
  obtain ⟨mA, J, _⟩ := ins_get I.hok hp
  obtain ⟨od, J, _⟩ := J.look
  rw [Vals.ref1 r]
  have rm2 : Room (k + 2) X.A := hr.mono hj
  have rm : Room k X.A.in1.in1 := rm2.in1.in1
  refine PySem.W.kso_call (by have := (rm2.mono (show 2 ≤ k + 2 by omega)).in1.in1.units0; exact this) I.kIn J hs hf ?_
  have e0 : Env0 X.prog X.w X.K X.mg X.base X.A.in1.in1 X.stack s H := by
    have e := I.env0
    exact ⟨e.frames, e.mod, e.bs, e.bsz, e.funs, e.frf, e.hok, e.bare⟩
  have hl := F.len _ _ _ _ hsp
  have r2 : Vals [V.ref p] [Value.ref p] := .cons rfl .nil
  refine wpAny_call (codeAny_mono (F.run X.A.in1.in1 X.stack s H ⟨[.ref p], []⟩ [.ref p] [.ref p] _ E0 rm e0 (by
    have := hb s [.ref p] I.kIn (by simpa using hl)
    simpa using this) r2 hsp) fun r s' hq => ?_)
  cases r with
  | error e => exact pass0 pins σ H s e s' I hq
  | ok fl =>
    cases fl with
    | ret w =>
      obtain ⟨z, H', I', rz, c, ez, q⟩ := I.after hq
      subst ez
      obtain ⟨t, rfl⟩ := rz
      exact ⟨.str c, H', I', ⟨t, rfl⟩, q⟩
    | next => exact False.elim hq
    | brk => exact False.elim hq
    | cont => exact False.elim hq
theorem call_lenO (M : Spe X.prog X.w X.K X.mg X.base C "__len__" k sp) (hr : Room j X.A) (hj : k + 1 ≤ j) : CallR X (.builtin "len") (rLenO C sp) := by
  intro pins s σ H vs us Q I r h
  obtain ⟨f, fd, F, hs, hf, hb⟩ := M.ex
  obtain ⟨p, dx, fs, rfl, hp, hsp⟩ := h
  obtain ⟨mA, J, _⟩ := ins_get I.hok hp
  obtain ⟨od, J, _⟩ := J.look
  obtain ⟨m, hF⟩ := I.fr
  rw [Vals.ref1 r]
  have rm : Room k X.A.in1 := (hr.mono hj).in1
  refine PySem.W.len_K hF I.ok.mod.kin J hs hf ?_
  have e0 : Env0 X.prog X.w X.K X.mg X.base X.A.in1 X.stack s H := by
    have e := I.env0
    exact ⟨e.frames, e.mod, e.bs, e.bsz, e.funs, e.frf, e.hok, e.bare⟩
  have hl := F.len _ _ _ _ hsp
  have r2 : Vals [V.ref p] [Value.ref p] := .cons rfl .nil
  refine wpAny_call (codeAny_mono (F.run X.A.in1 X.stack s H ⟨[.ref p], []⟩ [.ref p] [.ref p] _ E0 rm e0 (by
    have := hb s [.ref p] I.kIn (by simpa using hl)
    simpa using this) r2 hsp) fun r s' hq => ?_)
  cases r with
  | error e => exact pass0 pins σ H s e s' I hq
  | ok fl =>
    cases fl with
    | ret w =>
      obtain ⟨z, H', I', rz, c, ez, hc, q⟩ := I.after hq
      subst ez
      obtain ⟨t, rfl⟩ := rz
      exact ⟨⟨by omega, by omega⟩, .int (c : Int), H', I'.tok _, ⟨_, rfl⟩, q⟩
    | next => exact False.elim hq
    | brk => exact False.elim hq
    | cont => exact False.elim hq
end
end MStr
set_option Elab.async false
set_option linter.all false
set_option maxRecDepth 100000
set_option maxHeartbeats 2000000
/-! A text parted at a sign, and put together again. -/
namespace MText
open PySem PySem.StrLaws Builtin Builtin.Str
/-- the parts of a row between the signs c -/
def parts (c : Nat) : List Nat → List (List Nat)
  | [] => [[]]
  | h :: t => if h = c then [] :: parts c t else match parts c t with
    | p :: r => (h :: p) :: r
    | [] => [[h]]
/-- rows put behind one another, c between -/
def glue (c : Nat) : List (List Nat) → List Nat
  | [] => []
  | [a] => a
  | a :: b :: r => a ++ c :: glue c (b :: r)
theorem parts_ne (c : Nat) (xs : List Nat) : ∃ p r, parts c xs = p :: r := by
  cases xs with
  | nil => exact ⟨_, _, rfl⟩
  | cons h t =>
    unfold parts
    split
    · exact ⟨_, _, rfl⟩
    · split <;> exact ⟨_, _, rfl⟩
theorem parts_app {c : Nat} : ∀ {a xs : List Nat} {p : List Nat} {r : List (List Nat)}, (∀ z ∈ a, z ≠ c) → parts c xs = p :: r → parts c (a ++ xs) = (a ++ p) :: r
  | [], xs, p, r, _, h => h
  | z :: a, xs, p, r, ha, h => by
    have ih := parts_app (a := a) (fun y hy => ha y (List.mem_cons_of_mem _ hy)) h
    show parts c (z :: (a ++ xs)) = _
    unfold parts
    rw [if_neg (ha z List.mem_cons_self), ih]
    rfl
theorem parts_glue {c : Nat} : ∀ {ps : List (List Nat)}, ps ≠ [] → (∀ p ∈ ps, ∀ z ∈ p, z ≠ c) → parts c (glue c ps) = ps
  | [], h, _ => absurd rfl h
  | [a], _, ha => by
    have := parts_app (c := c) (a := a) (xs := []) (p := []) (r := []) (ha a List.mem_cons_self) rfl
    simpa [glue] using this
  | a :: b :: r, _, ha => by
    have ih := parts_glue (ps := b :: r) (by simp) (fun p hp => ha p (List.mem_cons_of_mem _ hp))
    show parts c (a ++ c :: glue c (b :: r)) = _
    have h2 : parts c (c :: glue c (b :: r)) = [] :: b :: r := by
      unfold parts
      rw [if_pos rfl, ih]
    have := parts_app (ha a List.mem_cons_self) h2
    rw [List.append_nil] at this
    exact this
/-- the places of c -/
def places (x : Str) (c a n : Nat) : List Nat := (List.range' a n).filter fun i => decide (x.cps.toList[i]? = some c)
theorem occ_run (x : Str) (c limit : Nat) : ∀ (n a : Nat) (st : Array Nat × Nat), st.2 ≤ a → st.1.size ≤ a → a + n ≤ limit →
    (forIn (List.range' a n) st (occBody x ⟨#[c]⟩ x.length limit)).run.fst.toList = st.1.toList ++ places x c a n
  | 0, a, st, _, _, _ => by
    unfold places
    simp
  | n + 1, a, st, h1, h2, h3 => by
    rw [List.range'_succ, List.forIn_cons]
    have e := subAt_one x c a
    unfold places
    rw [List.range'_succ, List.filter_cons]
    by_cases hc : x.cps.toList[a]? = some c
    · have hc' := e.mpr hc
      have eb : occBody x ⟨#[c]⟩ x.length limit a st = pure (ForInStep.yield (st.1.push a, a + (⟨#[c]⟩ : Str).length)) := by
        unfold occBody
        rw [if_pos ⟨⟨⟨by omega, h1⟩, hc'.1⟩, hc'.2⟩]
      rw [eb, if_pos (by simpa using hc)]
      have ih := occ_run x c limit n (a + 1) (st.1.push a, a + (⟨#[c]⟩ : Str).length) (by show a + 1 ≤ a + 1; omega) (by show (st.1.push a).size ≤ a + 1; rw [Array.size_push]; omega) (by omega)
      unfold places at ih
      refine Eq.trans ih ?_
      simp
    · have hc' : ¬ (a + (⟨#[c]⟩ : Str).length ≤ x.length ∧ subAt x ⟨#[c]⟩ a = true) := fun z => hc (e.mp z)
      have eb : occBody x ⟨#[c]⟩ x.length limit a st = pure (ForInStep.yield (st.1, st.2)) := by
        unfold occBody
        rw [if_neg (fun z => hc' ⟨z.1.2, z.2⟩)]
      rw [eb, if_neg (by simpa using hc)]
      have ih := occ_run x c limit n (a + 1) (st.1, st.2) (by show st.2 ≤ a + 1; omega) (by show st.1.size ≤ a + 1; omega) (by omega)
      unfold places at ih
      exact ih
theorem len_eq (x : Str) : x.cps.toList.length = x.length := by simp [Str.length]
theorem places_last (x : Str) (c a n : Nat) (h : x.length ≤ a) : places x c a n = [] := by
  unfold places
  rw [List.filter_eq_nil_iff]
  intro i hi
  have := (List.mem_range'_1.mp hi).1
  rw [List.getElem?_eq_none (by rw [len_eq]; omega)]
  simp
theorem occ_all (x : Str) (c : Nat) : occurrences x ⟨#[c]⟩ 0 x.length (x.length + 1) = places x c 0 x.length := by
  rw [occ_eq, Nat.sub_zero, occ_run x c (x.length + 1) (x.length + 1) 0 (#[], 0) (Nat.le_refl _) (Nat.le_refl _) (by omega)]
  -- the last place is behind the text
  have h2 : places x c 0 (x.length + 1) = places x c 0 x.length := by
    unfold places
    rw [List.range'_concat, List.filter_append]
    have := places_last x c (0 + 1 * x.length) 1 (by omega)
    unfold places at this
    rw [show List.range' (0 + 1 * x.length) 1 = [0 + 1 * x.length] from rfl] at this
    rw [this, List.append_nil]
  rw [h2]
  rfl
theorem sub_step (x : Str) {a b : Nat} (h : a < b) (hb : b ≤ x.length) (z : Nat) (hz : x.cps.toList[a]? = some z) : (strSub x a b).cps.toList = z :: (strSub x (a + 1) b).cps.toList := by
  rw [strSub_toList, strSub_toList]
  have hlt := (List.getElem?_eq_some_iff.mp hz).1
  have hv := (List.getElem?_eq_some_iff.mp hz).2
  rw [List.drop_eq_getElem_cons hlt, hv]
  have : b - a = (b - (a + 1)) + 1 := by omega
  rw [this, List.take_succ_cons]
theorem parts_from (x : Str) (c : Nat) : ∀ (n a : Nat), a + n = x.length → (partsFrom x 1 a (places x c a n)).map (·.cps.toList) = parts c (x.cps.toList.drop a)
  | 0, a, h => by
    have e1 : places x c a 0 = [] := rfl
    have e2 : x.cps.toList.drop a = [] := List.drop_eq_nil_of_le (by rw [len_eq]; omega)
    rw [e1, e2]
    show [(strSub x a x.length).cps.toList] = [[]]
    rw [strSub_toList, e2]
    simp
  | n + 1, a, h => by
    have hlt : a < x.cps.toList.length := by rw [len_eq]; omega
    have ih := parts_from x c n (a + 1) (by omega)
    rw [List.drop_eq_getElem_cons hlt]
    have ea : x.cps.toList[a]? = some x.cps.toList[a] := List.getElem?_eq_getElem hlt
    have ep : places x c a (n + 1) = if x.cps.toList[a] = c then a :: places x c (a + 1) n else places x c (a + 1) n := by
      unfold places
      rw [List.range'_succ, List.filter_cons, ea]
      by_cases hc : x.cps.toList[a] = c
      · rw [if_pos hc, if_pos (by simpa using hc)]
      · rw [if_neg hc, if_neg (by simpa using hc)]
    unfold parts
    rw [ep]
    by_cases hc : x.cps.toList[a] = c
    · rw [if_pos hc, if_pos hc]
      show (strSub x a a).cps.toList :: (partsFrom x 1 (a + 1) (places x c (a + 1) n)).map (·.cps.toList) = _
      rw [ih, strSub_toList]
      simp
    · rw [if_neg hc, if_neg hc, ← ih]
      cases hq : places x c (a + 1) n with
      | nil =>
        show [(strSub x a x.length).cps.toList] = _
        rw [sub_step x (by omega) (Nat.le_refl _) _ ea]
        rfl
      | cons k r =>
        have hk : k ∈ places x c (a + 1) n := by rw [hq]; exact List.mem_cons_self
        have hk2 := List.mem_range'_1.mp (List.mem_filter.mp hk).1
        show (strSub x a k).cps.toList :: (partsFrom x 1 (k + 1) r).map (·.cps.toList) = _
        rw [sub_step x (by omega) (by omega) _ ea]
        rfl
theorem kind_pos (x : Str) : 1 ≤ Str.strKind x := by
  unfold Str.strKind
  split
  · omega
  · split <;> omega
/-- x.split(c), c one sign of a byte -/
theorem split_parts (x : Str) {c : Nat} (hc : c < 256) : (Txt.split x ⟨#[c]⟩).map (·.cps.toList) = parts c x.cps.toList := by
  have hp := parts_from x c x.length 0 (by omega)
  rw [List.drop_zero] at hp
  have hk : Str.strKind ⟨#[c]⟩ = 1 := by
    unfold Str.strKind
    rw [if_pos (by simpa using hc)]
  have whole : ∀ h : places x c 0 x.length = [], [x.cps.toList] = parts c x.cps.toList := by
    intro h
    rw [← hp, h]
    show [x.cps.toList] = [(strSub x 0 x.length).cps.toList]
    rw [sub_whole]
  unfold Txt.split
  by_cases h0 : x.length < 1
  · have e0 : places x c 0 x.length = [] := by
      have : x.length = 0 := by omega
      rw [this]
      rfl
    rw [if_pos (by
      have : decide (x.length < (⟨#[c]⟩ : Str).length) = true := decide_eq_true h0
      rw [this]
      rfl)]
    exact whole e0
  · rw [if_neg (by
      have e1 : decide (x.length < (⟨#[c]⟩ : Str).length) = false := decide_eq_false h0
      have e2 : decide (Str.strKind x < Str.strKind ⟨#[c]⟩) = false := decide_eq_false (by rw [hk]; have := kind_pos x; omega)
      rw [e1, e2]
      decide)]
    rw [occ_all]
    split
    · rename_i he
      exact whole (List.isEmpty_iff.mp he)
    · rw [partsBetween_eq]
      exact hp
/-- c.join(xs) -/
theorem join_glue (c : Nat) : ∀ xs : List Str, (Txt.join ⟨#[c]⟩ xs).cps.toList = glue c (xs.map (·.cps.toList)) := by
  intro xs
  show (glued ⟨#[c]⟩ xs).cps.toList = _
  rw [glued_eq_join]
  induction xs with
  | nil => rfl
  | cons a r ih =>
    cases r with
    | nil => rfl
    | cons b r =>
      show (a ++ ⟨#[c]⟩ ++ Str.join ⟨#[c]⟩ (b :: r)).cps.toList = a.cps.toList ++ c :: glue c ((b :: r).map (·.cps.toList))
      rw [Str.cps_append, Str.cps_append, Array.toList_append, Array.toList_append, ih]
      simp
theorem str_eq {a b : Str} (h : a.cps.toList = b.cps.toList) : a = b := Str.ext' (Array.toList_inj.mp h)
theorem split_join {c : Nat} (hc : c < 256) {xs : List Str} (h0 : xs ≠ []) (h : ∀ x ∈ xs, ∀ z ∈ x.cps.toList, z ≠ c) : Txt.split (Txt.join ⟨#[c]⟩ xs) ⟨#[c]⟩ = xs := by
  have e := split_parts (Txt.join ⟨#[c]⟩ xs) hc
  rw [join_glue, parts_glue (by simpa using h0) (by
    intro p hp
    obtain ⟨x, hx, rfl⟩ := List.mem_map.mp hp
    exact h x hx)] at e
  have inj : ∀ (u v : List Str), u.map (·.cps.toList) = v.map (·.cps.toList) → u = v := by
    intro u
    induction u with
    | nil =>
      intro v h
      cases v with
      | nil => rfl
      | cons b v => simp at h
    | cons a u ih =>
      intro v h
      cases v with
      | nil => simp at h
      | cons b v =>
        simp only [List.map_cons, List.cons.injEq] at h
        rw [str_eq h.1, ih v h.2]
  exact inj _ _ e
end MText
set_option Elab.async false
set_option linter.all false
set_option maxRecDepth 100000
set_option maxHeartbeats 4000000
namespace W11
open PySem L2 PySem.Spec PyProof.Rows WR
abbrev sLText : Stmt := top 23
abbrev sLOf : Stmt := top 24
abbrev sItems : Stmt := top 25
abbrev alphS : Str := "abcdefghijklmnopqrstuvwxyz"
/-- a letter's item -/
def itm (i : Int) : Str := if 0 < i then ⟨#[96 + i.natAbs]⟩ else ⟨#[96 + i.natAbs, 39]⟩
theorem alph_at : ∀ n, n < 26 → alphS.cps.toList[n]? = some (97 + n) := by decide +kernel
theorem alph_find : ∀ n, n < 26 → Txt.find alphS ⟨#[97 + n]⟩ = (n : Int) := by decide +kernel
theorem alph_len : alphS.length ≤ sizeLine := by decide +kernel
theorem itm_len (i : Int) : (itm i).length ≤ 2 := by
  unfold itm
  split
  · show 1 ≤ 2
    decide
  · show 2 ≤ 2
    decide
theorem itm_ne (i : Int) : ∀ z ∈ (itm i).cps.toList, i.natAbs ≤ 26 → 1 ≤ i.natAbs → z ≠ 32 := by
  intro z hz h1 h2
  unfold itm at hz
  split at hz
  · simp at hz; omega
  · simp at hz; omega
theorem space_eq : (Str.ofString " ") = ⟨#[32]⟩ := by decide +kernel
theorem dash_eq : (Str.ofString "-") = ⟨#[45]⟩ := by decide +kernel
theorem tick_eq : (Str.ofString "'") = ⟨#[39]⟩ := by decide +kernel
/-- the text of a word -/
def txt (ns : List Int) : Str := if ns = [] then ⟨#[45]⟩ else Txt.join ⟨#[32]⟩ (ns.map itm)
theorem txt_split {ns : List Int} (h : Lts ns) : Txt.split (txt ns) ⟨#[32]⟩ = if ns = [] then [⟨#[45]⟩] else ns.map itm := by
  unfold txt
  by_cases h0 : ns = []
  · rw [if_pos h0, if_pos h0]
    decide +kernel
  · rw [if_neg h0, if_neg h0]
    refine MText.split_join (by decide) (by simpa using h0) fun x hx z hz => ?_
    obtain ⟨i, hi, rfl⟩ := List.mem_map.mp hx
    exact itm_ne i z hz (h i hi).2 (h i hi).1
def spLText : Sp := fun vs H Q _ => ∃ i : Int, vs = [.int i] ∧ 1 ≤ i.natAbs ∧ i.natAbs ≤ 26 ∧ Q (.str (itm i)) H
theorem txt_len {ns : List Int} : (txt ns).length ≤ 3 * ns.length + 1 := by
  unfold txt
  split
  · show 1 ≤ _
    omega
  · show (Builtin.Str.glued ⟨#[32]⟩ (ns.map itm)).length ≤ _
    rw [StrLaws.glued_eq_join]
    refine Nat.le_trans (StrLaws.join_length_le _ _) ?_
    rw [List.length_map]
    have h1 : ((ns.map itm).map (·.length)).sum ≤ 2 * ns.length := by
      induction ns with
      | nil => simp
      | cons a t ih =>
        by_cases ht : t = []
        · subst ht
          have := itm_len a
          simp
          omega
        · have := ih ht
          have := itm_len a
          simp only [List.map_cons, List.sum_cons, List.length_cons]
          omega
    have : (⟨#[32]⟩ : Str).length = 1 := rfl
    rw [this]
    omega
section
variable {P : Program} {w : World} {K : PySem.W.Frag} {mg : Str → Option Value} {base : Heap}
theorem scLText : FnScope ["letter", "sign"] ["letter"] (defScope sLText) := ⟨rfl, rfl, rfl, by decide +kernel, rfl, by decide +kernel, by decide +kernel⟩
theorem ok_lText {f : Addr} {fd : FuncData} (F : Fun K "letter_text" "letter_text" sLText f fd) (hA : ∃ t, mg "ALPHABET" = some (.str alphS t)) (habs : mg "abs" = none) : FnOk P w K mg base CX0 1 f fd ["letter"] spLText := by
  refine F.ok scLText (fun vs H Q E h => ?_) (fun cdv A outer s H vs Q E hr h => ?_)
  · obtain ⟨i, rfl, _⟩ := h
    rfl
  · obtain ⟨i, rfl, i1, i26, k⟩ := h
    obtain ⟨tA, mA⟩ := hA
    refine ⟨_, pss_cons (ps_set (i := 1) scLText.nd rfl (Or.inl rfl) (pe_ix ix_str (pe_glob (v := .str alphS) (by rfl) mA ⟨_, rfl⟩) (pe_op op_sub (pe_callB call_abs (by rfl) habs (by decide +kernel) (pa_cons (pv 0) pa_nil)) pe_int) (fun _ _ => rfl)))
      (pss_one (ps_ret (pe_ifExp (pt_cmpR op_gt (pv 0) pe_int (nomark _)) (pv 1) (pe_op op_add_str (pv 1) pe_str)))), ?_⟩
    have e1 : (if i < 0 then -i else i) - 1 = ((i.natAbs - 1 : Nat) : Int) := by split <;> omega
    have e2 : 97 + (i.natAbs - 1) = 96 + i.natAbs := by omega
    refine ⟨_, rfl, i, rfl, _, _, rfl, rfl, _, _, 96 + i.natAbs, rfl, rfl, alph_len, (by rw [e1]; exact atI_nat (by rw [alph_at _ (by omega), e2])), ?_⟩
    refine ⟨_, rfl, _, _, rfl, rfl, _, rfl, ?_⟩
    refine ite2 (fun hp => ?_) (fun hp => ?_)
    · have h0 : 0 < i := by have := of_decide_eq_true hp; omega
      refine ⟨_, rfl, ?_⟩
      have : itm i = ⟨#[96 + i.natAbs]⟩ := by unfold itm; rw [if_pos h0]
      rw [this] at k
      exact k
    · have h0 : ¬ 0 < i := fun z => hp (decide_eq_true (by omega))
      refine ⟨_, rfl, _, _, rfl, rfl, (by show 2 ≤ sizeLine; decide), ?_⟩
      have : itm i = (⟨#[96 + i.natAbs]⟩ : Str) ++ Str.ofString "'" := by
        unfold itm
        rw [if_neg h0, tick_eq]
        rfl
      rw [this] at k
      exact k
end
end W11
set_option Elab.async false
set_option linter.all false
set_option maxRecDepth 100000
set_option maxHeartbeats 1000000
/-! repr of data, by defs that are called where no repr is under way. -/
namespace RG
open PySem L2 PySem.Spec PyProof.Rows
/-- a def's promise where no repr is under way -/
structure FnG (P : Program) (w : World) (K : PySem.W.Frag) (mg : Str → Option Value) (base : Heap) (k : Nat) (f : Addr) (fd : FuncData) (ps : List Str) (sp : Sp) : Prop where
  many : ∀ zs G R S, sp zs G R S → zs.length = ps.length
  does : ∀ (B : Around) (fr : List Env) (t : Shared) (G : Hp) (as : Args) (us : List Value) (zs : List V) (R : VK) (S : XK), B.guards = some [] → Room k B → Env0 P w K mg base B fr t G → BindsTo t fd as (ps.zip us) → Vals zs us → sp zs G R S →
    codeAny (model P w) B (.call (.ref f) as) (CR CX0 fr P w G t R S) t
theorem FnG.mono {P : Program} {w : World} {K : PySem.W.Frag} {mg : Str → Option Value} {base : Heap} {j k : Nat} {f : Addr} {fd : FuncData} {ps : List Str} {sp : Sp} (F : FnG P w K mg base j f fd ps sp) (h : j ≤ k) : FnG P w K mg base k f fd ps sp :=
  ⟨F.many, fun B fr t G as us zs R S g room => F.does B fr t G as us zs R S g (room.mono h)⟩
/-- what is left behind a body -/
theorem left_ok {X : Cx} {σ : L2.St} {G G' : Hp} {t t' : Shared} {R : VK} {v : V} {u : Value} (hb : X.s_0 = t) (J : Inv X [] σ G' t') (un : Un (frs X.stack) [] G G' t.heap t'.heap) (os : t'.os = t.os) (r : RelV v u) (q : R v G') : CE X.stack X.prog X.w G t R u t' :=
  ⟨v, G', os, J.bare, un, J.hok, r, q⟩
theorem fnG_of {P : Program} {w : World} {K : PySem.W.Frag} {mg : Str → Option Value} {base : Heap} {k : Nat} {f : Addr} {nm qual : Str} {params : Arguments} {body : List Stmt} {scope : Scope} {dV kV doc pm cdv ct oc : Value} {an od : Option Addr} {osl : Array (Option Value)} {N ps : List Str} {sp : Sp}
    (lk : K.lookup f = some ⟨oc, od, .func (PySem.W.fnOf nm qual params body scope dV kV doc pm an cdv ct), osl⟩) (cd : PySem.W.codeIn K cdv qual = true) (S : FnScope N ps scope) (many : ∀ zs G R E, sp zs G R E → zs.length = ps.length)
    (B0 : ∀ (B : Around) (fr : List Env) (t : Shared) (G : Hp) (zs : List V) (R : VK) (E : XK), B.guards = some [] → Room k (B.deeper (envOfC qual scope t.heap.objs.size f cdv)) → sp zs G R E →
      ∃ tb, PSs (cxOf CX0 P w K mg base N qual scope f cdv B fr t G E) body tb ∧ tb { nx := fun _ G' => R .non G', rt := R } (L2.start N zs) G) :
    FnG P w K mg base (k + 1) f (PySem.W.fnOf nm qual params body scope dV kV doc pm an cdv ct) ps sp where
  many := many
  does := by
    intro B fr t G as us zs R E hg room e0 bind rel asked
    have n1 := many _ _ _ _ asked
    have old : ∀ b o, base.get? b = some o → t.heap.get? b = some o := fun b o e => (e0.bs b o e).1
    have KX := e0.mod.kin.keeps old
    have names : ∀ y ∈ ps.zip us, scope.names.lookup y.1 = some .local ∨ (scope.names.lookup y.1 = some .cell ∧ ((cellsFrom (t.heap.objs.size + 1) scope.names []).lookup y.1).isSome = true) := by
      rintro ⟨a, b⟩ hy
      exact (S.par a (List.of_mem_zip hy).1).imp id fun c => ⟨c, PySem.W.cellsFrom_some _ _ _ (Or.inl c)⟩
    refine codeAny_call_function room.depth (KX _ _ lk) rfl S.co S.gen rfl (PySem.W.codeRec_of KX cd) (bind _ _ _ _ (wpAny_newFunctionEnv_cells S.kind names fun env he t1 x => ?_))
    subst he
    refine ⟨(e0.mod.nolimit.keeps old).keeps x.toInCall.keep, codeAny_func ?_⟩
    obtain ⟨tb, run, read⟩ := B0 B fr t G zs R E hg (room.deeper _) asked
    have I0 := inv_start (CX := CX0) (P := P) (w := w) (E := E) S room.hd e0 n1 rel x
    refine wpAny_mono (run.run [] t1 _ G _ I0 read) ?_ fun _ _ z => z
    intro fl t2 z
    cases fl with
    | next =>
      obtain ⟨τ, G2, J, q⟩ := z
      exact ⟨.non, G2, J.os, J.bare, J.base, J.hok, rfl, q⟩
    | ret u =>
      obtain ⟨v, τ, G2, J, rv, q⟩ := z
      exact ⟨v, G2, J.os, J.bare, J.base, J.hok, rv, q⟩
    | brk => exact z.elim fun _ z => z.elim fun _ z => False.elim z.2
    | cont => exact z.elim fun _ z => z.elim fun _ z => False.elim z.2
theorem Fun.okG {P : Program} {w : World} {K : PySem.W.Frag} {mg : Str → Option Value} {base : Heap} {x qual : Str} {st : Stmt} {f : Addr} {fd : FuncData} {N ps : List Str} {k : Nat} {sp : Sp} (F : L2.Fun K x qual st f fd) (S : FnScope N ps (defScope st)) (many : ∀ zs G R E, sp zs G R E → zs.length = ps.length)
    (B0 : ∀ (cdv : Value) (B : Around) (fr : List Env) (t : Shared) (G : Hp) (zs : List V) (R : VK) (E : XK), B.guards = some [] → Room k (B.deeper (envOfC qual (defScope st) t.heap.objs.size f cdv)) → sp zs G R E →
      ∃ tb, PSs (cxOf CX0 P w K mg base N qual (defScope st) f cdv B fr t G E).nox (defBody st) tb ∧ tb { nx := fun _ G' => R .non G', rt := R } (L2.start N zs) G) : FnG P w K mg base (k + 1) f fd ps sp := by
  obtain ⟨oc, od, kV, doc, pm, an, cdv, ct, osl, rfl, lk, cd⟩ := F.ex
  refine fnG_of lk cd S many fun B fr t G zs R E hg room asked => ?_
  obtain ⟨tb, run, read⟩ := B0 cdv B fr t G zs R E hg room asked
  exact ⟨tb, run.nox, read⟩
/-- a def that the module's name x holds -/
structure CalG (P : Program) (w : World) (K : PySem.W.Frag) (mg : Str → Option Value) (base : Heap) (x : Str) (k : Nat) (ps : List Str) (sp : Sp) : Prop where
  ex : ∃ (f : Addr) (fd : FuncData), FnG P w K mg base k f fd ps sp ∧ mg x = some (.ref f) ∧ PySem.W.keepIn K (.ref f) = true ∧ Binds K fd ps []
section
variable {X : Cx} {x : Str} {k j : Nat} {ps : List Str} {sp : Sp} {p pos : Pos} {e : Expr} {es : List Expr} {ta : TA}
theorem pe_calG (C : CalG X.prog X.w X.K X.mg X.base x k ps sp) (hg : X.A.guards = some []) (room : Room j X.A) (hkj : k ≤ j) (gl : Gl X x) (ha : PA X (e :: es) ta) (hdb : (x == ("__debug__" : Str)) = false := by decide)
    (h1 : starEach (e :: es) X.env = (false, eval e X.env) :: starEach es X.env := by rfl) (h2 : (backTo pos (starEach es X.env)).any (·.1) = false := by rfl) : PE X (.Call (.Name x p) (e :: es) [] pos) (tCall sp [] E0 ta) := by
  obtain ⟨f, fd, F, at_, kp, bn⟩ := C.ex
  constructor
  intro pins s σ H Q I ask
  refine wpAny_Call_Name_kw (ld_glob I gl at_ (PySem.W.callWith_K (h₀ := X.base) I.mod.kin kp (thn (ha.run pos pins s σ H _ I ask) fun us s1 z => ?_) h1 h2) hdb)
  obtain ⟨zs, H1, I1, rel, q⟩ := z
  have q : sp (zs ++ []) H1 Q E0 := q
  rw [List.append_nil] at q
  have lu : us.length = ps.length := by rw [← rel.length]; exact F.many _ _ _ _ q
  have bd := bn s1 us I1.kIn (by rw [List.append_nil]; exact lu)
  rw [List.append_nil] at bd
  refine ⟨I1.kIn, wpAny_call (codeAny_mono ((F.mono hkj).does X.A X.stack s1 H1 ⟨us, []⟩ us zs Q E0 hg room I1.env0 bd rel q) ?_)⟩
  intro r s2 hq
  match r, hq with
  | .ok (.ret u), hq => exact I1.after hq
/-- repr of data -/
def rRepr (K : PySem.W.Frag) : List V → Hp → VK → Prop := fun xs H Q => ∃ (a : Addr) (d : PyData), xs = [.ref a] ∧ Dp K H (.ref a) d ∧ d.showable = true ∧ d.hasDict = false ∧ d.depth ≤ 30 ∧ d.shown.length ≤ sizeLine ∧ Q (.str d.shown) H
theorem call_repr (hg : X.A.guards = some []) (hu : X.A.units + 40 < cLine) : CallR X (.builtin "repr") (rRepr X.K) := by
  intro pins s σ H xs us Q I rel ask
  obtain ⟨a, d, rfl, hd, hs, hn, hdep, hz, q⟩ := ask
  obtain ⟨u, rfl, ru⟩ := vals1 rel
  cases ru
  obtain ⟨as, rd⟩ := Dp.reads I d _ _ hd rfl
  exact repr_of_reads' rd hs (fun z => by rw [hn] at z; cases z) hg (by omega) (fun _ _ e => e) (fun h' u tk hk => ⟨.str _, H, I.kept hk, ⟨u, rfl⟩, q⟩) hz
end
end RG
set_option Elab.async false
set_option linter.all false
set_option maxRecDepth 100000
set_option maxHeartbeats 1000000
/-! the law's own call: no repr is under way. -/
namespace RG
open PySem L2 PySem.Spec PyProof.Rows
section
variable {P : Program} {w : World} {K : PySem.W.Frag} {s : Shared} {a : Addr} {vs : List Value} {ns : List Int}
/-- the list that the script is -/
def scriptO (vs : List Value) : Obj := { cls := .type "list", data := .seq vs.toArray }
/-- the script is told, if the module has it not -/
def startH (K : PySem.W.Frag) (a : Addr) (vs : List Value) (ns : List Int) : Hp := fun b => if b = a ∧ K.lookup a = none then some (.frz (scriptO vs) (.lst (ns.map V.int))) else none
theorem startH_some {b : Addr} {u : HO} (h : startH K a vs ns b = some u) : b = a ∧ K.lookup a = none ∧ u = .frz (scriptO vs) (.lst (ns.map V.int)) := by
  unfold startH at h
  split at h
  · rename_i c
    exact ⟨c.1, c.2, (Option.some.inj h).symm⟩
  · cases h
theorem startH_only : Only (startH K a vs ns) := fun b => by
  cases e : startH K a vs ns b with
  | none => exact .inl rfl
  | some u => exact .inr ⟨_, _, congrArg some (startH_some e).2.2⟩
theorem startH_seq (KX : K.In s.heap) (at_ : s.heap.get? a = some (scriptO vs)) (whole : IntsAre vs ns) (few : ns.length ≤ sizeLine) : SqL K (startH K a vs ns) a (ns.map V.int) := by
  cases hk : K.lookup a with
  | none => exact Or.inl (Or.inr ⟨scriptO vs, if_pos ⟨rfl, hk⟩⟩)
  | some o =>
    have same : o = scriptO vs := Option.some.inj ((KX a o hk).symm.trans at_)
    subst same
    exact Or.inr ⟨_, vs.toArray, _, hk, rfl, rfl, rfl, by rw [List.size_toArray, whole.length]; exact few, by simpa using vals_ints whole⟩
theorem startH_ok (at_ : s.heap.get? a = some (scriptO vs)) (whole : IntsAre vs ns) (few : ns.length ≤ sizeLine) : HOk P w (startH K a vs ns) s.heap := fun b u h => by
  obtain ⟨rfl, _, rfl⟩ := startH_some h
  exact ⟨at_, (by rw [List.length_map]; exact few), vs, _, vals_ints whole, at_⟩
/-- a namespace is no list -/
theorem startH_ns (at_ : s.heap.get? a = some (scriptO vs)) {b : Addr} {m : Str → Option Value} (h : s.heap.Ns b m) : (hidT s.heap (startH K a vs ns)).Ns b m := by
  obtain ⟨o, es, ep, get, data, rest⟩ := h
  refine ⟨o, es, ep, hidT_get get ?_, data, rest⟩
  cases e : startH K a vs ns b with
  | none => rfl
  | some u =>
    obtain ⟨rfl, _⟩ := startH_some e
    have eo : o = scriptO vs := Option.some.inj (get.symm.trans at_)
    rw [eo] at data
    exact nomatch (show Data.seq vs.toArray _ = Data.dict es ep from data)
theorem startH_in (KX : K.In s.heap) : K.In (hidT s.heap (startH K a vs ns)) := fun b o e => by
  refine hidT_get (KX b o e) ?_
  cases q : startH K a vs ns b with
  | none => rfl
  | some u =>
    obtain ⟨rfl, none_, _⟩ := startH_some q
    rw [none_] at e
    cases e
theorem law_callG {mg mb : Str → Option Value} {k : Nat} {fa : Addr} {fd : FuncData} {x : Str} {sp : Sp} (KX : K.In s.heap) (top : s.heap.Ns mainGlobals mg) (bi : s.heap.Ns builtinsNs mb) (bib : ∀ x : Str, x ≠ "__name__" → mb x = bootBuiltins x) (lim : s.heap.NoLimit) (gens : s.gens = #[])
    (at_ : s.heap.get? a = some (scriptO vs)) (whole : IntsAre vs ns) (few : ns.length ≤ sizeLine) (room : Room k callerA) (F : ∀ base : Heap, K.In base → base.Ns mainGlobals mg → FnG P w K mg base k fa fd [x] sp)
    (bind : ∀ (s : Shared) (u : Value), BindsTo s fd ⟨[u], []⟩ [(x, u)]) (ask : ∀ H : Hp, Only H → SqL K H a (ns.map V.int) → sp [.ref a] H (fun v _ => v = .bl true) E0) :
    codeAny (model P w) callerA (.call (.ref fa) ⟨[.ref a], []⟩) (fun r s' => r = .ok (.ret (.bool true)) ∧ OldK s.heap s'.heap ∧ s'.os = s.os ∧ AllBare s'.gens) s := by
  have kin := startH_in (a := a) (vs := vs) (ns := ns) KX
  have top' := startH_ns (K := K) (ns := ns) at_ top
  obtain ⟨mc, l1, l2⟩ := lim
  have env : Env0 P w K mg (hidT s.heap (startH K a vs ns)) callerA [] s (startH K a vs ns) :=
    { frames := rfl, mod := ⟨kin, top', ⟨mb, startH_ns at_ bi, bib⟩, ⟨mc, startH_ns at_ l1, l2⟩⟩, bs := fun _ _ => of_hidT, bsz := Nat.le_of_eq (hidT_size _ _), funs := trivial, frf := (fun b hb => nomatch (show b ∈ ([] : List Addr) from hb)), hok := startH_ok at_ whole few, bare := AllBare.of_eq gens }
  refine codeAny_mono ((F _ kin top').does callerA [] s _ ⟨[.ref a], []⟩ [.ref a] [.ref a] _ _ rfl room env (bind s (.ref a)) (.cons rfl .nil) (ask _ startH_only (startH_seq KX at_ whole few))) ?_
  intro r t z
  match r, z with
  | .ok (.ret u), ⟨v, G, os, bare, un, ok', rel, (q : v = .bl true)⟩ =>
    subst q
    obtain rfl : u = Value.bool true := rel
    refine ⟨rfl, OldK.of_keep fun b o get => ?_, os, bare⟩
    cases c : startH K a vs ns b with
    | none => exact un.keep b o get c (fun m => nomatch (show b ∈ ([] : List Addr) from m)) (fun m => nomatch m)
    | some u =>
      obtain ⟨rfl, _, rfl⟩ := startH_some c
      have eo : o = scriptO vs := Option.some.inj (get.symm.trans at_)
      rw [eo]
      exact (ok' b _ (un.frzs b _ _ c)).1
end
theorem walkG {l : PySem.W.OpenLaw} {n k : Nat} {q : Program} {loose : List Str} {XP : (Str → Option Value) → Heap → Prop} {YP : World → Heap → Prop} {d : DefRec} {K : Params → PySem.W.Frag} {sp : PySem.W.Frag → Sp} {x : Str} (hn : l.most = some n) (hz : n ≤ sizeLine) (hdf : d.params.defaults = []) (room : Room k callerA) (hY : ∀ (w : World) (h : Heap), YP w h → (K w.params).In h)
    (F : ∀ (w : World) (mg : Str → Option Value) (fa : Addr) (h : Heap), (K w.params).In h → h.Ns mainGlobals mg → mg d.name = some (.ref fa) →
      ∃ fd : FuncData, (∀ (s : Shared) (u : Value), BindsTo s fd ⟨[u], []⟩ [(x, u)]) ∧ ∀ base : Heap, (K w.params).In base → base.Ns mainGlobals mg → FnG l.prog w (K w.params) mg base k fa fd [x] (sp (K w.params)))
    (ask : ∀ (w : World) (H : Hp) (a : Addr) (ns : List Int), ns.length ≤ n → Only H → SqL (K w.params) H a (ns.map V.int) → sp (K w.params) [.ref a] H (fun v _ => v = .bl true) E0) : PySem.W.WalkO q loose XP YP l.row.toRowW d [] (fun f vs => PySem.call f vs) := by
  refine Att.attach_call hn hdf ?_
  intro w s0 s mg mb fa o pm cd doc a vs ns G Y _ _ _ hm at_ whole few gens
  have KX := hY w _ Y
  obtain ⟨fd, bind, B⟩ := F w mg fa _ KX G.T.g hm
  exact law_callG KX G.T.g G.T.b G.T.builtins G.T.nolimit gens at_ whole (Nat.le_trans few hz) room B bind fun H o z => ask w H a ns few o z
end RG
set_option Elab.async false
set_option linter.all false
set_option maxRecDepth 100000
set_option maxHeartbeats 4000000
/-! set(a list of ints). -/
namespace WS
open PySem PySem.Spec PyProof.Rows L2
section
variable {P : Program} {w : World} {A : Around} {E : Value → Shared → Prop} {s : Shared}
/-- the heap with the new set, and with the walk of the list besides -/
abbrev hSet (w : World) (s : Shared) : Heap := s.heap.push (bareSet w)
abbrev hWalk (w : World) (s : Shared) (l : Addr) : Heap := (hSet w s).push { cls := .type "list_iterator", data := .fields #[.ref l, .int 0 0] }
theorem bare_zero {h : Heap} {a : Addr} {ns : List Int} (e : h.get? a = some (bareSet w)) : SetR w h a (fun j => decide (j ∈ ns.take 0)) 0 := setR_new_at e
/-- what set.__init__ leaves -/
def Filled (w : World) (s : Shared) (ns : List Int) (t : Shared) : Prop :=
  ∃ (g : Heap) (k m : Nat), t = { s with heap := g, toks := k } ∧ SetR w g s.heap.objs.size (fun j => decide (j ∈ ns)) m ∧ m ≤ ns.length ∧ ∀ b o, s.heap.get? b = some o → g.get? b = some o
theorem init_list {l : Addr} {its : Array Value} {ns : List Int} (quiet : A.handled = none) (hl : s.heap.IsList l its) (hit : IntsAre its.toList ns) (few : ns.length + 1 < scanBound) :
    wpAny (model P w) A (Builtin.«set.__init__» ⟨[.ref s.heap.objs.size, .ref l], []⟩) (fun r t => r = .done (.ret .none) ∧ Filled w s ns t) E { s with heap := hSet w s } := by
  have many : its.size = ns.length := by have z := hit.length; rwa [Array.length_toList] at z
  have new : (hSet w s).get? s.heap.objs.size = some (bareSet w) := Heap.get?_push_size _ rfl
  have old : ∀ {b o}, s.heap.get? b = some o → (hSet w s).get? b = some o := fun e => Heap.get?_push_of_some _ e
  have ty : Shared.TypeIs { s with heap := hSet w s } (.ref s.heap.objs.size) "set" := ⟨_, new, rfl⟩
  have hl1 : (hSet w s).IsList l its := hl.push _
  have lo : l < s.heap.objs.size := by obtain ⟨_, e, _⟩ := hl; exact Heap.lt_size e
  have sz : (hSet w s).objs.size = s.heap.objs.size + 1 := Heap.size_push ..
  obtain ⟨⟨c0, d0, x0, o0⟩, at0, cls0, n0, dat0⟩ := id hl1
  simp only at cls0 dat0
  subst cls0 dat0
  have u1 := PySem.F.sub_list_set
  have u2 := PySem.F.sub_list_frozenset
  have u3 : (Value.type "list" == Value.type "dict") = false := rfl
  unfold Builtin.«set.__init__» noKeywords Builtin.Frozenset.updateFrom
  generalize hid : pyIter = it
  wp_walk
  subst hid
  refine wpAny_pyIter_list hl1 (wpAny_bind (wpAny_runValue ?_))
  have off : s.heap.objs.size ∉ [(hSet w s).objs.size, l] := by
    intro m
    rcases List.mem_cons.mp m with m | m
    · exact absurd (m.trans sz) (Nat.ne_of_lt (Nat.lt_succ_self _))
    · exact absurd (List.mem_singleton.mp m).symm (Nat.ne_of_lt lo)
  have apart : l ≠ (hSet w s).objs.size := fun e => absurd (e.trans sz) (Nat.ne_of_lt (Nat.lt_succ_of_lt lo))
  refine set_update_ints (Walks.list (by simpa using quiet) _ l apart its).toS _ off ns many few (fun i v q => ?_) (its.size - 0) 0 { s with heap := hWalk w s l } (by omega) (Nat.zero_le _) ⟨⟨_, Heap.get?_push_size _ rfl, rfl, rfl⟩, hl1.push _⟩ ⟨0, Nat.le_refl 0, bare_zero (Heap.get?_push_of_some _ new)⟩ fun t m mv le S => ?_
  · have lt : i < ns.length := by rw [← many]; exact (Array.getElem?_eq_some_iff.mp q).1
    obtain ⟨k, e⟩ := hit.int_at i v (by rw [Array.getElem?_toList]; exact q)
    rw [List.getD_eq_getElem?_getD, List.getElem?_eq_getElem lt] at e
    exact ⟨_, k, List.getElem?_eq_getElem lt, e⟩
  · obtain ⟨g, q, d, k, z⟩ := t
    obtain rfl : q = s.gens := mv.gens
    obtain rfl : d = s.drawn := mv.drawn
    obtain rfl : z = s.os := mv.os
    refine wpAny_pure (wpAny_pure ⟨rfl, g, k, m, rfl, S, by rw [← many]; exact le, fun b o e => ?_⟩)
    have lb : b < s.heap.objs.size := Heap.lt_size e
    refine mv.heap b o (fun h => ?_) (Heap.get?_push_of_some _ (old e))
    rcases List.mem_cons.mp h with h | h
    · exact absurd h (Nat.ne_of_lt lb)
    · exact absurd ((List.mem_singleton.mp h).trans sz) (Nat.ne_of_lt (Nat.lt_succ_of_lt lb))
/-- set(xs) of a list of ints -/
theorem set_list {l : Addr} {its : Array Value} {ns : List Int} {Q : Value → Shared → Prop} (quiet : A.handled = none) (hl : s.heap.IsList l its) (hit : IntsAre its.toList ns) (few : ns.length + 1 < scanBound)
    (fin : ∀ t, Filled w s ns t → Q (.ref s.heap.objs.size) t) : wpAny (model P w) A (call (.type "set") [.ref l]) Q E s := by
  have F := PySem.F.called_set
  obtain ⟨top, below, mro⟩ := F.mro
  have f1 := F.made; have f2 := F.sub; have f3 := F.notType; have f4 := F.canCreate
  have f5 := PySem.F.typeCall_set_1 (.ref l)
  have new : (hSet w s).get? s.heap.objs.size = some (bareSet w) := Heap.get?_push_size _ rfl
  have ty : Shared.TypeIs { s with heap := hSet w s } (.ref s.heap.objs.size) "set" := ⟨_, new, rfl⟩
  have f6 := F.init.lookup; have f7 := F.init.bind (.ref s.heap.objs.size)
  refine wpAny_call (codeAny_of_tree (show wpAny _ _ (callAny (.type "set") _) _ _ _ from wpAny_pure ⟨Code.quiet_builtin _ (by decide +kernel), codeAny_builtin PySem.F.entry_type_call ?_⟩))
  rw [Around.under_plain (weight_type_call_type "set" [.ref l] []) rfl]
  repeat (any_goals (first | assumption | wp_step))
  refine codeAny_mono (code_set_led1 (.ref l) (E := E) (Q₁ := fun v t => v = .ref s.heap.objs.size ∧ t = { s with heap := hSet w s }) ⟨rfl, rfl⟩) ?_
  rintro (e | fl) t ht
  · exact ht
  cases fl with
  | next => exact ht.elim
  | brk => exact ht.elim
  | cont => exact ht.elim
  | ret v =>
  obtain ⟨rfl, rfl⟩ := ht
  repeat (any_goals (first | assumption | wp_step))
  refine codeAny_mono (codeAny_call_builtin (R := wants (fun v t => v = .none ∧ Filled w s ns t) E) F.init.plain PySem.F.entry_set_init (check_set_init_1 ty ?_)) ?_
  · refine wpAny_mono (init_list (by simpa using quiet) hl hit few) ?_ fun _ _ z => z
    rintro _ t ⟨rfl, z⟩
    exact ⟨rfl, z⟩
  rintro (e | fl) t ht
  · exact ht
  cases fl with
  | next => exact ht.elim
  | brk => exact ht.elim
  | cont => exact ht.elim
  | ret v =>
  obtain ⟨rfl, z⟩ := ht
  repeat (any_goals (first | assumption | wp_step))
  exact fin _ z
end
section
variable {X : Cx}
def rSetLI (K : PySem.W.Frag) (w : World) : List V → Hp → VK → Prop := fun xs H Q => ∃ (p : Addr) (ns : List Int), xs = [.ref p] ∧ SqL K H p (ns.map V.int) ∧ ns.length ≤ 1000 ∧
  ∀ (D : Addr) (L : List Int), H D = none → L.Nodup → (∀ k, k ∈ L ↔ k ∈ ns) → Q (.ref D) (upd H D (SetO w D (fun j => decide (j ∈ ns)) L.length))
theorem call_setLI (hc : X.calm = true) : CallR X (.type "set") (rSetLI X.K X.w) := by
  intro pins s σ H xs us Q I rel ask
  obtain ⟨p, ns, rfl, hs, few, q⟩ := ask
  obtain ⟨u, rfl, ru⟩ := vals1 rel
  cases ru
  obtain ⟨its, rv, pl, hlen⟩ := I.list hs
  refine set_list (ns := ns) (I.ok.hd hc) pl.isList (by simpa using ints_of_vals rv) (by unfold scanBound; omega) fun t ⟨g, k, m, e, S, le, keep⟩ => ?_
  subst e
  have J := I.laid (t' := k) keep (Nat.le_refl _) (setO_new S)
  obtain ⟨o, es, ep, tb, e1, e2, e3, e4, nd, mem, e5, e6, sz, _⟩ := S
  have z := q s.heap.objs.size (es.toList.map keyOf) (I.hok.fresh (Nat.le_refl _)) nd fun k => by rw [← mem k, decide_eq_true_eq]
  rw [List.length_map, Array.length_toList, sz] at z
  exact ⟨.ref _, _, J, rfl, z⟩
end
end WS
set_option linter.all false
/-! The least turned form of a row, by two places that race. -/
namespace Lt
/-- the row from place p on, read round, is less than that from place q on -/
def Ls (f : Nat → Int) (n p q : Nat) : Prop := ∃ k, k < n ∧ (∀ t, t < k → f (p + t) = f (q + t)) ∧ f (p + k) < f (q + k)
theorem Ls.irr {f n p} : ¬ Ls f n p p := by
  rintro ⟨k, _, _, h⟩
  omega
theorem Ls.trans {f : Nat → Int} {n p q r : Nat} (h1 : Ls f n p q) (h2 : Ls f n q r) : Ls f n p r := by
  obtain ⟨k, hk, e1, l1⟩ := h1
  obtain ⟨m, hm, e2, l2⟩ := h2
  by_cases h : k < m
  · exact ⟨k, hk, fun t ht => (e1 t ht).trans (e2 t (by omega)), by rw [← e2 k h]; exact l1⟩
  · by_cases h' : m < k
    · exact ⟨m, hm, fun t ht => (e1 t (by omega)).trans (e2 t ht), by rw [e1 m h']; exact l2⟩
    · have : k = m := by omega
      subst this
      exact ⟨k, hk, fun t ht => (e1 t ht).trans (e2 t ht), by omega⟩
theorem Ls.total (f : Nat → Int) (n p q : Nat) : Ls f n p q ∨ Ls f n q p ∨ ∀ t, t < n → f (p + t) = f (q + t) := by
  induction n with
  | zero => exact .inr (.inr fun t ht => by omega)
  | succ n ih =>
    rcases ih with ⟨k, hk, e, l⟩ | ⟨k, hk, e, l⟩ | e
    · exact .inl ⟨k, by omega, e, l⟩
    · exact .inr (.inl ⟨k, by omega, e, l⟩)
    · by_cases h : f (p + n) < f (q + n)
      · exact .inl ⟨n, by omega, e, h⟩
      · by_cases h' : f (q + n) < f (p + n)
        · exact .inr (.inl ⟨n, by omega, fun t ht => (e t ht).symm, h'⟩)
        · refine .inr (.inr fun t ht => ?_)
          by_cases htn : t < n
          · exact e t htn
          · have : t = n := by omega
            subst this
            omega
theorem ex_min (f : Nat → Int) (n : Nat) : ∀ m, 0 < m → ∃ p, p < m ∧ ∀ q, q < m → ¬ Ls f n q p := by
  intro m
  induction m with
  | zero => intro h; omega
  | succ m ih =>
    intro _
    by_cases h0 : m = 0
    · subst h0
      exact ⟨0, by omega, fun q hq => by have : q = 0 := by omega
                                         subst this; exact Ls.irr⟩
    · obtain ⟨p, hp, hm⟩ := ih (by omega)
      by_cases h : Ls f n m p
      · refine ⟨m, by omega, fun q hq hl => ?_⟩
        by_cases hqm : q = m
        · subst hqm; exact Ls.irr hl
        · exact hm q (by omega) (hl.trans h)
      · refine ⟨p, by omega, fun q hq => ?_⟩
        by_cases hqm : q = m
        · subst hqm; exact h
        · exact hm q (by omega)
/-- the least place whose reading is least -/
theorem ex_first (f : Nat → Int) (n m : Nat) (h : 0 < m) : ∃ p, p < m ∧ (∀ q, q < m → ¬ Ls f n q p) ∧ ∀ q, q < p → ∃ r, r < m ∧ Ls f n r q := by
  obtain ⟨p0, hp0, hm0⟩ := ex_min f n m h
  have key : ∀ k p, p ≤ k → p < m → (∀ q, q < m → ¬ Ls f n q p) → ∃ p, p < m ∧ (∀ q, q < m → ¬ Ls f n q p) ∧ ∀ q, q < p → ∃ r, r < m ∧ Ls f n r q := by
    intro k
    induction k with
    | zero => intro p hk hp hm; exact ⟨p, hp, hm, fun q hq => by omega⟩
    | succ k ih =>
      intro p hk hp hm
      by_cases hx : ∀ q, q < p → ∃ r, r < m ∧ Ls f n r q
      · exact ⟨p, hp, hm, hx⟩
      · have ⟨q, hq⟩ := Classical.not_forall.mp hx
        have ⟨hqp, hn⟩ := Classical.not_imp.mp hq
        refine ih q (by omega) (by omega) fun r hr hl => hn ⟨r, hr, hl⟩
  exact key p0 p0 (Nat.le_refl _) hp0 hm0
/-- what is left out can't be least -/
def Out (f : Nat → Int) (n p : Nat) : Prop := ∃ q, Ls f n q p
structure Race (f : Nat → Int) (n one other alike : Nat) : Prop where
  a : ∀ p, p < one → Out f n p
  b : ∀ p, p < other → p ≠ one → Out f n p
  ne : one ≠ other
  al : alike ≤ n
  e : ∀ t, t < alike → f (one + t) = f (other + t)
theorem Race.start (f : Nat → Int) (n : Nat) : Race f n 0 1 0 := ⟨fun p h => by omega, fun p h h' => by omega, by omega, Nat.zero_le _, fun t h => by omega⟩
theorem Race.more {f n one other alike} (R : Race f n one other alike) (h : alike < n) (e : f (one + alike) = f (other + alike)) : Race f n one other (alike + 1) :=
  ⟨R.a, R.b, R.ne, h, fun t ht => by
    by_cases h' : t < alike
    · exact R.e t h'
    · have : t = alike := by omega
      subst this; exact e⟩
theorem out_run {f : Nat → Int} {n p q alike t : Nat} (h : alike < n) (e : ∀ t, t < alike → f (p + t) = f (q + t)) (l : f (q + alike) < f (p + alike)) (ht : t ≤ alike) : Out f n (p + t) := by
  refine ⟨q + t, alike - t, by omega, fun s hs => ?_, ?_⟩
  · have := e (t + s) (by omega)
    rw [Nat.add_assoc, Nat.add_assoc]
    exact this.symm
  · have e1 : q + t + (alike - t) = q + alike := by omega
    have e2 : p + t + (alike - t) = p + alike := by omega
    rw [e1, e2]
    exact l
theorem Race.one {f n one other alike} (R : Race f n one other alike) (h : alike < n) (l : f (other + alike) < f (one + alike)) :
    Race f n (one + (alike + 1)) (if one + (alike + 1) = other then other + 1 else other) 0 := by
  have A : ∀ p, p < one + (alike + 1) → Out f n p := by
    intro p hp
    by_cases h' : p < one
    · exact R.a p h'
    · obtain ⟨t, rfl⟩ : ∃ t, p = one + t := ⟨p - one, by omega⟩
      exact out_run h R.e l (by omega)
  refine ⟨A, fun p hp hn => ?_, ?_, Nat.zero_le _, fun t ht => by omega⟩
  · by_cases hp1 : p < one + (alike + 1)
    · exact A p hp1
    · split at hp
      · omega
      · by_cases hpo : p = one
        · omega
        · exact R.b p hp hpo
  · split <;> omega
theorem Race.other {f n one other alike} (R : Race f n one other alike) (h : alike < n) (l : f (one + alike) < f (other + alike)) :
    Race f n one (if one = other + (alike + 1) then other + (alike + 1) + 1 else other + (alike + 1)) 0 := by
  have B : ∀ p, p < other + (alike + 1) → p ≠ one → Out f n p := by
    intro p hp hn
    by_cases h' : p < other
    · exact R.b p h' hn
    · obtain ⟨t, rfl⟩ : ∃ t, p = other + t := ⟨p - other, by omega⟩
      exact out_run h (fun t ht => (R.e t ht).symm) l (by omega)
  refine ⟨R.a, fun p hp hn => ?_, ?_, Nat.zero_le _, fun t ht => by omega⟩
  · split at hp
    · exact B p (by omega) hn
    · exact B p hp hn
  · split <;> omega
/-- round: f comes back after n -/
theorem per_mod {f : Nat → Int} {n : Nat} (hf : ∀ s, f (s + n) = f s) (s : Nat) : f (s % n) = f s := by
  have : ∀ k s, f (s + n * k) = f s := by
    intro k
    induction k with
    | zero => intro s; rfl
    | succ k ih => intro s; rw [Nat.mul_succ, ← Nat.add_assoc, hf, ih]
  have h := this (s / n) (s % n)
  rw [Nat.mod_add_div] at h
  exact h.symm
theorem out_in {f : Nat → Int} {n p : Nat} (hf : ∀ s, f (s + n) = f s) (h0 : 0 < n) (h : Out f n p) : ∃ q, q < n ∧ Ls f n q p := by
  obtain ⟨q, k, hk, e, l⟩ := h
  refine ⟨q % n, Nat.mod_lt _ h0, k, hk, fun t ht => ?_, ?_⟩
  · rw [← e t ht, ← per_mod hf (q % n + t), ← per_mod hf (q + t), Nat.mod_add_mod]
  · rw [← per_mod hf (q % n + k), Nat.mod_add_mod, per_mod hf]
    exact l
/-- what comes of the race: the place reads least -/
theorem Race.fin {f : Nat → Int} {n one other alike : Nat} (R : Race f n one other alike) (hf : ∀ s, f (s + n) = f s) (h0 : 0 < n) (hend : ¬ (one < n ∧ other < n ∧ alike < n)) :
    min one other < n ∧ ∀ q, q < n → ¬ Ls f n q (min one other) := by
  obtain ⟨p, hp, hm, hfirst⟩ := ex_first f n n h0
  have no : ¬ Out f n p := fun ho => by
    obtain ⟨q, hq, hl⟩ := out_in hf h0 ho
    exact hm q hq hl
  have h1 : one ≤ p := by
    by_cases h : p < one
    · exact absurd (R.a p h) no
    · omega
  have h2 : p = one ∨ other ≤ p := by
    by_cases h : p = one
    · exact .inl h
    · by_cases h' : p < other
      · exact absurd (R.b p h' h) no
      · omega
  by_cases hn : other < n
  · -- all letters alike
    have ha : alike = n := by
      have := R.al
      omega
    have e := R.e
    rw [ha] at e
    have eall : ∀ t, f (one + t) = f (other + t) := by
      intro t
      have := e (t % n) (Nat.mod_lt _ h0)
      rw [← per_mod hf (one + t), ← per_mod hf (other + t), ← Nat.add_mod_mod one t n, ← Nat.add_mod_mod other t n, per_mod hf, per_mod hf]
      exact this
    have same : ∀ q, Ls f n q one ↔ Ls f n q other := fun q => ⟨fun ⟨k, hk, e1, l⟩ => ⟨k, hk, fun t ht => (e1 t ht).trans (eall t), by rw [← eall k]; exact l⟩, fun ⟨k, hk, e1, l⟩ => ⟨k, hk, fun t ht => (e1 t ht).trans (eall t).symm, by rw [eall k]; exact l⟩⟩
    have hp2 : p = one ∨ p = other := by
      rcases h2 with h2 | h2
      · exact .inl h2
      · by_cases hx : p = one ∨ p = other
        · exact hx
        · exfalso
          have ⟨hx1, hx2⟩ := not_or.mp hx
          have hne := R.ne
          -- one step back
          by_cases hlt : one < other
          · have hd : p - (other - one) < p := by omega
            obtain ⟨r, hr, hl⟩ := hfirst _ hd
            refine hm r hr ?_
            obtain ⟨k, hk, e1, l⟩ := hl
            have sh : ∀ t, f (p - (other - one) + t) = f (p + t) := by
              intro t
              have := eall (p - other + t)
              have a1 : one + (p - other + t) = p - (other - one) + t := by omega
              have a2 : other + (p - other + t) = p + t := by omega
              rw [a1, a2] at this
              exact this
            exact ⟨k, hk, fun t ht => (e1 t ht).trans (sh t), by rw [← sh k]; exact l⟩
          · have hd : p - (one - other) < p := by omega
            obtain ⟨r, hr, hl⟩ := hfirst _ hd
            refine hm r hr ?_
            obtain ⟨k, hk, e1, l⟩ := hl
            have sh : ∀ t, f (p - (one - other) + t) = f (p + t) := by
              intro t
              have := eall (p - one + t)
              have a1 : other + (p - one + t) = p - (one - other) + t := by omega
              have a2 : one + (p - one + t) = p + t := by omega
              rw [a1, a2] at this
              exact this.symm
            exact ⟨k, hk, fun t ht => (e1 t ht).trans (sh t), by rw [← sh k]; exact l⟩
    refine ⟨by omega, fun q hq hl => hm q hq ?_⟩
    have hmin : min one other = one ∨ min one other = other := by omega
    rcases hp2 with rfl | rfl <;> rcases hmin with h | h <;> rw [h] at hl
    · exact hl
    · exact (same q).mpr hl
    · exact (same q).mp hl
    · exact hl
  · have hpo : p = one := by omega
    subst hpo
    have : min p other = p := by omega
    rw [this]
    exact ⟨hp, hm⟩
end Lt
namespace Lt
/-! ### rows read round -/
def rot (xs : List Int) (p : Nat) : List Int := xs.drop p ++ xs.take p
def rd (xs : List Int) (s : Nat) : Int := xs.getD (s % xs.length) 0
theorem rot_length (xs : List Int) (p : Nat) : (rot xs p).length = xs.length := by
  unfold rot
  rw [List.length_append, List.length_drop, List.length_take]
  omega
theorem rd_per (xs : List Int) (s : Nat) : rd xs (s + xs.length) = rd xs s := by
  unfold rd
  rw [Nat.add_mod_right]
theorem rd_lt {xs : List Int} {s : Nat} (h : s < xs.length) : rd xs s = xs.getD s 0 := by
  unfold rd
  rw [Nat.mod_eq_of_lt h]
theorem rot_getD {xs : List Int} {p t : Nat} (hp : p ≤ xs.length) (ht : t < xs.length) : (rot xs p).getD t 0 = rd xs (p + t) := by
  unfold rot rd
  rw [List.getD_eq_getElem?_getD, List.getD_eq_getElem?_getD]
  congr 1
  by_cases h : p + t < xs.length
  · rw [Nat.mod_eq_of_lt h, List.getElem?_append_left (by rw [List.length_drop]; omega), List.getElem?_drop]
  · have e : (p + t) % xs.length = p + t - xs.length := by
      rw [Nat.mod_eq_sub_mod (by omega)]
      by_cases h2 : p + t - xs.length < xs.length
      · exact Nat.mod_eq_of_lt h2
      · omega
    rw [e, List.getElem?_append_right (by rw [List.length_drop]; omega), List.length_drop, List.getElem?_take]
    have h3 : t - (xs.length - p) = p + t - xs.length := by omega
    rw [h3, if_pos (by omega)]
theorem ext_getD {a b : List Int} (hl : a.length = b.length) (h : ∀ t, t < a.length → a.getD t 0 = b.getD t 0) : a = b := by
  apply List.ext_getElem hl
  intro i h1 h2
  have := h i h1
  rw [List.getD_eq_getElem?_getD, List.getD_eq_getElem?_getD, List.getElem?_eq_getElem h1, List.getElem?_eq_getElem h2] at this
  exact this
theorem rot_mem {xs : List Int} {p : Nat} {x : Int} (h : x ∈ rot xs p) : x ∈ xs := by
  unfold rot at h
  rcases List.mem_append.mp h with h | h
  · exact List.mem_of_mem_drop h
  · exact List.mem_of_mem_take h
theorem rot_eq_of {xs : List Int} {p q : Nat} (hp : p ≤ xs.length) (hq : q ≤ xs.length) (h : ∀ t, t < xs.length → rd xs (p + t) = rd xs (q + t)) : rot xs p = rot xs q := by
  refine ext_getD (by rw [rot_length, rot_length]) fun t ht => ?_
  rw [rot_length] at ht
  rw [rot_getD hp ht, rot_getD hq ht, h t ht]
theorem rd_rot {xs : List Int} {p : Nat} (hp : p ≤ xs.length) (h0 : 0 < xs.length) (s : Nat) : rd (rot xs p) s = rd xs (p + s) := by
  have h1 : rd (rot xs p) s = (rot xs p).getD (s % xs.length) 0 := by
    unfold rd
    rw [rot_length]
  rw [h1, rot_getD hp (Nat.mod_lt _ h0)]
  unfold rd
  rw [Nat.add_mod_mod]
theorem rot_rot {xs : List Int} {p q : Nat} (hp : p ≤ xs.length) (hq : q ≤ xs.length) (h0 : 0 < xs.length) : rot (rot xs p) q = rot xs ((p + q) % xs.length) := by
  refine ext_getD (by rw [rot_length, rot_length, rot_length]) fun t ht => ?_
  rw [rot_length, rot_length] at ht
  rw [rot_getD (by rw [rot_length]; exact hq) (by rw [rot_length]; exact ht), rd_rot hp h0, rot_getD (Nat.le_of_lt (Nat.mod_lt _ h0)) ht]
  unfold rd
  rw [Nat.mod_add_mod, Nat.add_assoc]
/-- ms is the least of the turned forms of ns -/
def Least (ns ms : List Int) : Prop := ∃ p, p < max 1 ns.length ∧ ms = rot ns p ∧ ∀ q, q < ns.length → ¬ Ls (rd ns) ns.length q p
theorem Least.ex (ns : List Int) : ∃ ms, Least ns ms := by
  by_cases h : 0 < ns.length
  · obtain ⟨p, hp, hm⟩ := ex_min (rd ns) ns.length ns.length h
    exact ⟨_, p, by omega, rfl, hm⟩
  · exact ⟨_, 0, by omega, rfl, fun q hq => by omega⟩
theorem Least.uniq {ns a b : List Int} (h1 : Least ns a) (h2 : Least ns b) : a = b := by
  obtain ⟨p, hp, rfl, m1⟩ := h1
  obtain ⟨q, hq, rfl, m2⟩ := h2
  by_cases h0 : 0 < ns.length
  · rcases Ls.total (rd ns) ns.length p q with h | h | h
    · exact absurd h (m2 p (by omega))
    · exact absurd h (m1 q (by omega))
    · exact rot_eq_of (by omega) (by omega) h
  · have : p = q := by omega
    rw [this]
theorem Ls.shift {xs : List Int} {j p q : Nat} (hj : j ≤ xs.length) (h0 : 0 < xs.length) : Ls (rd (rot xs j)) xs.length p q ↔ Ls (rd xs) xs.length (j + p) (j + q) := by
  constructor
  · rintro ⟨k, hk, e, l⟩
    refine ⟨k, hk, fun t ht => ?_, ?_⟩
    · have := e t ht
      rw [rd_rot hj h0, rd_rot hj h0] at this
      rw [Nat.add_assoc, Nat.add_assoc]
      exact this
    · rw [rd_rot hj h0, rd_rot hj h0] at l
      rw [Nat.add_assoc, Nat.add_assoc]
      exact l
  · rintro ⟨k, hk, e, l⟩
    refine ⟨k, hk, fun t ht => ?_, ?_⟩
    · rw [rd_rot hj h0, rd_rot hj h0, ← Nat.add_assoc, ← Nat.add_assoc]
      exact e t ht
    · rw [rd_rot hj h0, rd_rot hj h0, ← Nat.add_assoc, ← Nat.add_assoc]
      exact l
theorem Ls.modl {xs : List Int} {p q : Nat} : Ls (rd xs) xs.length (p % xs.length) (q % xs.length) ↔ Ls (rd xs) xs.length p q := by
  have e : ∀ s t, rd xs (s % xs.length + t) = rd xs (s + t) := fun s t => by
    unfold rd
    rw [Nat.mod_add_mod]
  constructor
  · rintro ⟨k, hk, h, l⟩
    exact ⟨k, hk, fun t ht => by rw [← e p, ← e q]; exact h t ht, by rw [← e p, ← e q]; exact l⟩
  · rintro ⟨k, hk, h, l⟩
    exact ⟨k, hk, fun t ht => by rw [e p, e q]; exact h t ht, by rw [e p, e q]; exact l⟩
theorem Least.turn {ns ms : List Int} {j : Nat} (hj : j ≤ ns.length) (h : Least (rot ns j) ms) : Least ns ms := by
  obtain ⟨p, hp, rfl, m⟩ := h
  rw [rot_length] at hp m
  by_cases h0 : 0 < ns.length
  · refine ⟨(j + p) % ns.length, by have := Nat.mod_lt (j + p) h0; omega, rot_rot hj (by omega) h0, fun q hq hl => ?_⟩
    refine m ((q + (ns.length - j)) % ns.length) (Nat.mod_lt _ h0) ?_
    rw [Ls.shift hj h0]
    have e1 : (j + (q + (ns.length - j)) % ns.length) % ns.length = q % ns.length := by
      rw [Nat.add_mod_mod]
      have : j + (q + (ns.length - j)) = q + ns.length := by omega
      rw [this, Nat.add_mod_right]
    rw [← Ls.modl, e1, Ls.modl, ← Ls.modl]
    have := Ls.modl.mpr hl
    rw [Nat.mod_mod] at this
    exact this
  · have : ns = [] := List.length_eq_zero_iff.mp (by omega)
    subst this
    refine ⟨0, by decide, ?_, fun q hq => absurd hq (by simp)⟩
    unfold rot
    simp
theorem Least.turn' {ns ms : List Int} {j : Nat} (hj : j ≤ ns.length) (h : Least ns ms) : Least (rot ns j) ms := by
  obtain ⟨ms', h'⟩ := Least.ex (rot ns j)
  have := h.uniq (h'.turn hj)
  rw [this]
  exact h'
theorem Least.self {ns ms : List Int} (h : Least ns ms) : Least ms ms := by
  obtain ⟨p, hp, e, m⟩ := id h
  by_cases h0 : 0 < ns.length
  · have := h.turn' (j := p) (by omega)
    rw [← e] at this
    exact this
  · have : ns = [] := List.length_eq_zero_iff.mp (by omega)
    subst this
    have : ms = [] := by rw [e]; unfold rot; simp
    rw [this] at h ⊢
    exact h
theorem Least.length {ns ms : List Int} (h : Least ns ms) : ms.length = ns.length := by
  obtain ⟨p, _, e, _⟩ := h
  rw [e, rot_length]
/-! ### the order of rows of one length -/
theorem ls_rows {ns : List Int} {p q : Nat} (hp : p ≤ ns.length) (hq : q ≤ ns.length) : Ls (rd ns) ns.length p q ↔ ∃ k, k < ns.length ∧ (∀ t, t < k → (rot ns p).getD t 0 = (rot ns q).getD t 0) ∧ (rot ns p).getD k 0 < (rot ns q).getD k 0 := by
  constructor
  · rintro ⟨k, hk, e, l⟩
    refine ⟨k, hk, fun t ht => ?_, ?_⟩
    · rw [rot_getD hp (by omega), rot_getD hq (by omega)]
      exact e t ht
    · rw [rot_getD hp hk, rot_getD hq hk]
      exact l
  · rintro ⟨k, hk, e, l⟩
    refine ⟨k, hk, fun t ht => ?_, ?_⟩
    · have := e t ht
      rw [rot_getD hp (by omega), rot_getD hq (by omega)] at this
      exact this
    · rw [rot_getD hp hk, rot_getD hq hk] at l
      exact l
end Lt
set_option Elab.async false
set_option linter.all false
set_option maxRecDepth 100000
set_option maxHeartbeats 1000000
namespace W11
open PySem L2 PySem.Spec PyProof.Rows WR WB
section
variable {X : Cx}
def rCntT (K : PySem.W.Frag) : V → List V → Hp → VK → Prop := fun x xs H Q => ∃ (p : Addr) (ns : List Int) (k : Int), x = .ref p ∧ xs = [.int k] ∧ SqT K H p (iv ns) ∧ Q (.int (ns.count k : Nat)) H
theorem mt_tcount {K : PySem.W.Frag} (hK : X.K = K) : MtR X "tuple.count" (rCntT K) := by
  subst hK
  intro pins s σ H x xs v us Q I rx rxs h
  obtain ⟨p, ns, k, rfl, rfl, hs, q⟩ := h
  cases rx
  obtain ⟨u, rfl, ru⟩ := rxs.one
  obtain ⟨t, rfl⟩ := ru
  obtain ⟨its, rv, ⟨⟨cls, dd, data, sl⟩, ho, hc, n, hd⟩, hlen⟩ := I.tuple hs
  simp only at hc hd
  subst hc hd
  have hi := ints_of_vals rv
  refine call_meets PySem.F.slot_tuple_count ⟨_, ho, rfl⟩ PySem.F.entry_tuple_count (PySem.F.args_tuple_count_2 _ _)
    (SeqAt.tuple_countAt p its.toArray n dd sl (.int k t) (eqk k)) ⟨ho, fun y hy => (eqk_gives hi y (by simpa using hy)).at _ _, ?_⟩
  have ec : its.toArray.toList.countP (eqk k) = ns.count k := eqk_count hi
  refine ⟨.int (ns.count k : Nat), H, I.tok _, ⟨s.toks, ?_⟩, q⟩
  show Value.int ((its.toArray.toList.countP (eqk k) : Nat) : Int) s.toks = Value.int ((ns.count k : Nat) : Int) s.toks
  rw [ec]
def tyB (K : PySem.W.Frag) (x : V) (H : Hp) : Prop := ∃ (a : Addr) (xs : List V), x = .ref a ∧ SqB K H a xs
theorem tyB_ok {K : PySem.W.Frag} (hK : X.K = K) : TyOk X "tuple" (tyB K) := by
  subst hK
  intro pins σ H s x v I r h
  obtain ⟨a, xs, rfl, hB⟩ := h
  cases r
  obtain ⟨its, _, ⟨o1, e1, c1, _⟩, _⟩ := I.tuple hB.sq
  obtain ⟨o, u, e, d⟩ := hB.bare
  have hx : ObjOk X.prog X.w H s.heap a (.frz o u) := I.hok a _ e
  exact ⟨⟨o1, e1, c1⟩, fun b hb => by cases hb; exact ⟨o, hx.1, d⟩⟩
end
structure MethW (P : Program) (w : World) (K : PySem.W.Frag) (mg : Str → Option Value) (base : Heap) (C : Addr) (m : Str) (ps : List Str) (sp : Sp) : Prop where
  ex : ∃ (f : Addr) (fd : FuncData), Meth K C m f ∧ FnOk P w K mg base CX0 6 f fd ps sp ∧ Binds K fd ps []
section
variable {X : Cx} {C : Addr} {o e : Expr} {es : List Expr} {ta : TE} {t : TA} {m : Str} {ps : List Str} {sp : Sp} {apos pos : Pos} {j : Nat}
theorem pe_w0 {pl : Sem Bool} (M : MethW X.prog X.w X.K X.mg X.base C m ps sp) (c : Cls X.K C) (hr : Room j X.A) (hj : 6 ≤ j) (he : PE X o ta)
    (ht : eval (.Call (.Attribute o m apos) [] [] pos) X.env = (do
      let ov ← eval o X.env
      standAt apos.atName
      let (f, first) ← holding [ov] (getMethod ov m pl)
      callWith pos f first (backTo pos (starEach [] X.env)) (backToKw pos (keywordEach [] X.env))) := by rfl) :
    PE X (.Call (.Attribute o m apos) [] [] pos) (tMeth C m sp [] E0 ta tNil) := by
  obtain ⟨f, fd, hm, F, hb⟩ := M.ex
  exact pe_meth0 he c hm F (hr.mono hj) hb .nil pass0 ht
theorem pe_w1 {pl : Sem Bool} (M : MethW X.prog X.w X.K X.mg X.base C m ps sp) (c : Cls X.K C) (hr : Room j X.A) (hj : 6 ≤ j) (he : PE X o ta) (ha : PA X (e :: es) t)
    (hst : starEach (e :: es) X.env = (false, eval e X.env) :: starEach es X.env := by rfl) (hpl : (backTo pos (starEach es X.env)).any (·.1) = false := by rfl)
    (ht : eval (.Call (.Attribute o m apos) (e :: es) [] pos) X.env = (do
      let ov ← eval o X.env
      standAt apos.atName
      let (f, first) ← holding [ov] (getMethod ov m pl)
      callWith pos f first (backTo pos (starEach (e :: es) X.env)) (backToKw pos (keywordEach [] X.env))) := by rfl) :
    PE X (.Call (.Attribute o m apos) (e :: es) [] pos) (tMeth C m sp [] E0 ta t) := by
  obtain ⟨f, fd, hm, F, hb⟩ := M.ex
  exact pe_meth he c hm F (hr.mono hj) hb .nil pass0 ha hst hpl ht
end
theorem WordAt.at {K : PySem.W.Frag} {C : Addr} {H : Hp} {p : Addr} {ns : List Int} (h : WordAt K C H p ns) {m : Str} (h1 : ¬ m = "letters") (h2 : ¬ m = "length") (h3 : ¬ m = "kinds") (h4 : ¬ m = "is_short") (h5 : ¬ m = "is_short_round") :
    ∃ dx fs, H p = some (.ins C dx fs) ∧ fs.lookup m = none := by
  obtain ⟨dx, tl, tk, ks, h, _⟩ := h
  exact ⟨dx, _, h, wf_no h1 h2 h3 h4 h5⟩
theorem nm1 : ¬ (("contrary" : Str) = "letters") ∧ ¬ (("contrary" : Str) = "length") ∧ ¬ (("contrary" : Str) = "kinds") ∧ ¬ (("contrary" : Str) = "is_short") ∧ ¬ (("contrary" : Str) = "is_short_round") := by decide +kernel
theorem nm2 : ¬ (("shortened" : Str) = "letters") ∧ ¬ (("shortened" : Str) = "length") ∧ ¬ (("shortened" : Str) = "kinds") ∧ ¬ (("shortened" : Str) = "is_short") ∧ ¬ (("shortened" : Str) = "is_short_round") := by decide +kernel
theorem nm4 : ¬ (("then" : Str) = "letters") ∧ ¬ (("then" : Str) = "length") ∧ ¬ (("then" : Str) = "kinds") ∧ ¬ (("then" : Str) = "is_short") ∧ ¬ (("then" : Str) = "is_short_round") := by decide +kernel
theorem nm5 : ¬ (("times" : Str) = "letters") ∧ ¬ (("times" : Str) = "length") ∧ ¬ (("times" : Str) = "kinds") ∧ ¬ (("times" : Str) = "is_short") ∧ ¬ (("times" : Str) = "is_short_round") := by decide +kernel
theorem WordAt.no {K : PySem.W.Frag} {C : Addr} {H : Hp} {p : Addr} {ns : List Int} (h : WordAt K C H p ns) {m : Str} (n : ¬ m = "letters" ∧ ¬ m = "length" ∧ ¬ m = "kinds" ∧ ¬ m = "is_short" ∧ ¬ m = "is_short_round") :
    ∃ dx fs, H p = some (.ins C dx fs) ∧ fs.lookup m = none := h.at n.1 n.2.1 n.2.2.1 n.2.2.2.1 n.2.2.2.2
theorem WordAt.drew {K : PySem.W.Frag} {C : Addr} {H H' : Hp} {p a c : Addr} {n : Nat} {ns : List Int} (h : WordAt K C H p ns) (hH : HandAt H a c n) {m : Nat} (d : Drew a c m H H') : WordAt K C H' p ns := by
  have keep : ∀ {q : Addr} {xs : List V}, SqT K H q xs → SqT K H' q xs := by
    intro q xs h
    obtain ⟨cs, i, r, hA, _⟩ := hH
    rcases h with h | h
    · left
      rcases h with h | ⟨o, h⟩
      · exact .inl (d.2 _ _ (fun z => by rw [z, hA] at h; cases h) h)
      · exact .inr ⟨o, d.2 _ _ (fun z => by rw [z, hA] at h; cases h) h⟩
    · exact .inr h
  obtain ⟨dx, tl, tk, ks, h1, h2, h3, h4⟩ := h
  have keepB : SqB K H' tl (iv ns) := by
    refine ⟨keep h2.sq, ?_⟩
    obtain ⟨cs, i, r, hA, _⟩ := hH
    obtain ⟨o, u, e, dn⟩ := h2.bare
    exact ⟨o, u, d.2 _ _ (fun z => by rw [z, hA] at e; cases e) e, dn⟩
  refine ⟨dx, tl, tk, ks, d.2 _ _ (fun z => ?_) h1, keepB, keep h3, h4⟩
  obtain ⟨cs, i, r, hA, _⟩ := hH
  rw [z, hA] at h1
  cases h1
theorem make_at {K : PySem.W.Frag} {C : Addr} {H1 : Hp} {q x dx : Addr} {ms : List Int} {G : Hp → Prop} {E : XK} (nx : H1 x = none) (ndx : H1 dx = none) (hq : SqW K H1 q (iv ms)) (hlen : ms.length ≤ 500) (hl : Lts ms) (k : ∀ H', Same H1 H' → WordAt K C H' x ms → G H') :
    spInit K C [.ref x, .ref q] (L2.upd (L2.upd H1 dx (.own x)) x (.ins C dx [])) (fun v H2 => v = .non ∧ G H2) E := by
  have s0 : Same H1 (L2.upd (L2.upd H1 dx (.own x)) x (.ins C dx [])) := fun b o e => by
    rw [upd_ne (ne_of_none e nx), upd_ne (ne_of_none e ndx)]
    exact e
  exact ⟨H1, x, dx, q, ms, rfl, s0, nx, upd_same, hq, hlen, hl, fun H' s' W' => ⟨rfl, k H' s' W'⟩⟩
theorem eqvL_ints (ns ms : List Int) : PyData.eqv (.list (ns.map .int)) (.list (ms.map .int)) = decide (ns = ms) := by
  show PyData.eqvAll _ _ = _
  exact eqvAll_ints ns ms
theorem no_ne {b : Bool} {A B : Prop} (h : b = true) (k : B) : if (!b) = true then A else B := by rw [h]; exact iteF k
theorem units65 {j : Nat} {A : Around} (hr : Room j A) (h : 1 ≤ j) : A.units + 65 < cLine := by
  have := (hr.mono h).in1.units
  exact this
def exch (a b : List Int) : List Int := a ++ b ++ Fr.con a ++ Fr.con b
theorem exch_length (a b : List Int) : (exch a b).length = 2 * a.length + 2 * b.length := by
  unfold exch
  simp [Fr.con_length]
  omega
theorem Lts.exch {a b : List Int} (h : Lts a) (k : Lts b) : Lts (W11.exch a b) := ((h.app k).app h.con).app k.con
section
variable {P : Program} {w : World} {K : PySem.W.Frag} {mg : Str → Option Value} {base : Heap}
end
theorem tms_len (N : Int) (ns : List Int) : (tms N ns).length = N.natAbs * ns.length := by
  unfold tms
  split
  · exact Fr.rep_length _ _
  · rw [Fr.rep_length, Fr.con_length]
theorem Lts.tms {ns : List Int} (h : Lts ns) (N : Int) : Lts (W11.tms N ns) := by
  unfold W11.tms
  split
  · exact h.rep _
  · exact h.con.rep _
theorem cut_to {ns : List Int} {j : Nat} (h : j ≤ ns.length) : cutV (iv ns) none (some ((j : Nat) : Int)) = iv (ns.take j) := by
  unfold cutV
  rw [HT.sIx_none, HT.sIx_nat, List.drop_zero, Nat.sub_zero, List.length_map, Nat.min_eq_left h, ← List.map_take]
theorem cut_from {ns : List Int} {j : Nat} (h : j ≤ ns.length) : cutV (iv ns) (some ((j : Nat) : Int)) none = iv (ns.drop j) := by
  unfold cutV
  rw [HT.sIx_none, HT.sIx_nat, List.length_map, Nat.min_eq_left h, ← List.map_drop, List.take_of_length_le (by simp)]
def trn (ns : List Int) (by_ : Int) : List Int := if ns = [] then [] else Lt.rot ns (by_ % (ns.length : Int)).toNat
theorem trn_length (ns : List Int) (b : Int) : (trn ns b).length = ns.length := by
  unfold trn
  split
  · rename_i h; rw [h]
  · exact Lt.rot_length _ _
theorem Lts.trn {ns : List Int} (h : Lts ns) (b : Int) : Lts (W11.trn ns b) := by
  unfold W11.trn
  split
  · exact fun _ h => nomatch h
  · exact fun x hx => h x (Lt.rot_mem hx)
section
variable {P : Program} {w : World} {K : PySem.W.Frag} {mg : Str → Option Value} {base : Heap}
end
section
variable {P : Program} {w : World} {K : PySem.W.Frag} {mg : Str → Option Value} {base : Heap}
end
theorem nm6 : ¬ (("turned" : Str) = "letters") ∧ ¬ (("turned" : Str) = "length") ∧ ¬ (("turned" : Str) = "kinds") ∧ ¬ (("turned" : Str) = "is_short") ∧ ¬ (("turned" : Str) = "is_short_round") := by decide +kernel
inductive All2 {α β : Type} (R : α → β → Prop) : List α → List β → Prop
  | nil : All2 R [] []
  | cons {a : α} {b : β} {as : List α} {bs : List β} (h : R a b) (r : All2 R as bs) : All2 R (a :: as) (b :: bs)
theorem All2.length {α β : Type} {R : α → β → Prop} {as : List α} {bs : List β} (h : All2 R as bs) : as.length = bs.length := by
  induction h with
  | nil => rfl
  | cons _ _ ih => simp [ih]
theorem All2.imp {α β : Type} {R S : α → β → Prop} {as : List α} {bs : List β} (h : All2 R as bs) (k : ∀ a b, R a b → S a b) : All2 S as bs := by
  induction h with
  | nil => exact .nil
  | cons h _ ih => exact .cons (k _ _ h) ih
theorem All2.at {α β : Type} {R : α → β → Prop} {as : List α} {bs : List β} (h : All2 R as bs) : ∀ {i : Nat} {a : α}, as[i]? = some a → ∃ b, bs[i]? = some b ∧ R a b := by
  induction h with
  | nil => intro i a e; simp at e
  | cons h r ih =>
    intro i a e
    cases i with
    | zero => simp at e; subst e; exact ⟨_, by simp, h⟩
    | succ i => simpa using ih (by simpa using e)
theorem All2.mem {α β : Type} {R : α → β → Prop} {as : List α} {bs : List β} (h : All2 R as bs) {a : α} (ha : a ∈ as) : ∃ b, b ∈ bs ∧ R a b := by
  obtain ⟨i, e⟩ := List.mem_iff_getElem?.mp ha
  obtain ⟨b, e2, r⟩ := h.at e
  exact ⟨b, List.mem_of_getElem? e2, r⟩
theorem All2.app {α β : Type} {R : α → β → Prop} {as : List α} {bs : List β} (h : All2 R as bs) {cs : List α} {ds : List β} (k : All2 R cs ds) : All2 R (as ++ cs) (bs ++ ds) := by
  induction h with
  | nil => exact k
  | cons h _ ih => exact .cons h ih
theorem lcM {β : Type} {J : It} {xs : List V} {G : Hp → Prop} (w : Walk J xs.length G (YAt xs)) (ys : List β) (R : Addr → Hp → V → β → Prop) (hst : ∀ D H H' v b, R D H v b → Same H H' → R D H' v b) (hput : ∀ D H ws o v b, H D = some (.lst ws) → R D H v b → R D (L2.upd H D o) v b)
    (hz : xs.length < 40000) (hl : xs.length = ys.length) {g : TG} {te : TE} {vs : List Nat} {σ : L2.St} {H1 : Hp} {Q : VK} (hG : ∀ H, Same H1 H → G H)
    (hs : ∀ (i : Nat) (x : V) (b : β), xs[i]? = some x → ys[i]? = some b → ∀ D H, H1 D = none → (∃ ws, H D = some (.lst ws)) → Same H1 H → ∀ (Qy : V → Hp → Prop), (∀ v H', Same H H' → R D H' v b → Qy v H') →
      g x (wipe σ vs) H fun σ2 H2 => wipe σ2 vs = wipe σ vs ∧ te σ2 H2 Qy)
    (hg : ∀ x σ1 H A B, (∀ σ2 H2, A σ2 H2 → B σ2 H2) → g x σ1 H A → g x σ1 H B)
    (hd : ∀ (D : Addr) H' ws, H1 D = none → Same H1 H' → H' D = some (.lst ws) → All2 (R D H') ws ys → Q (.ref D) H') : tLc (fun _ H R => R J H) g tYes te vs σ H1 Q := by
  intro D hD
  refine lc_it w (fun i H => Same H1 H ∧ ∃ ws, H D = some (.lst ws) ∧ All2 (R D H) ws (ys.take i)) ⟨fun b o e => by rw [upd_ne (ne_of_none e hD)]; exact e, [], upd_same, by simp only [List.take_zero]; exact .nil⟩ (fun i H _ q => hG H q.1) ?_ ?_
  · rintro i x H H' hi ⟨sm, ws, hw, h2⟩ ⟨rfl, hx⟩
    have hi2 : i < ys.length := by omega
    refine hg _ _ _ _ _ (fun σ2 H2 q => ⟨q.1, yes_te q.2⟩) (hs i x ys[i] hx (List.getElem?_eq_getElem hi2) D H' hD ⟨ws, hw⟩ sm _ fun v H2 s2 r => ?_)
    have hw2 := s2 _ _ hw
    have hlen := h2.length
    rw [List.length_take] at hlen
    refine ⟨ws, hw2, Evl.sz_lt (by omega), fun b o e => ?_, ws ++ [v], upd_same, ?_⟩
    · rw [upd_ne (ne_of_none e hD)]
      exact s2 _ _ (sm _ _ e)
    · rw [List.take_succ_eq_append_getElem hi2]
      exact (h2.imp fun v b r => hput D H2 ws _ v b hw2 (hst D _ _ v b r s2)).app (.cons (hput D H2 ws _ v _ hw2 r) .nil)
  · rintro H ⟨sm, ws, hw, h2⟩
    rw [List.take_of_length_le (by omega)] at h2
    exact hd D H ws hD sm hw h2
theorem gName_mono {i : Nat} {x : V} {σ : L2.St} {H : Hp} {A B : L2.St → Hp → Prop} (k : ∀ σ2 H2, A σ2 H2 → B σ2 H2) (h : gName i x σ H A) : gName i x σ H B := k _ _ h
theorem gTup_mono {K : PySem.W.Frag} {i j : Nat} {x : V} {σ : L2.St} {H : Hp} {A B : L2.St → Hp → Prop} (k : ∀ σ2 H2, A σ2 H2 → B σ2 H2) (h : gTup K 2 (gCons (gName i) (gCons (gName j) gNil)) x σ H A) : gTup K 2 (gCons (gName i) (gCons (gName j) gNil)) x σ H B := by
  obtain ⟨a, xs, e1, e2, e3, v, r, e4, v2, r2, e5, e6, h⟩ := h
  exact ⟨a, xs, e1, e2, e3, v, r, e4, v2, r2, e5, e6, k _ _ h⟩
theorem SqT.keptL {K : PySem.W.Frag} {H H' : Hp} {l q : Addr} {vs xs : List V} (hl : H l = some (.lst vs)) (d : Kept l H H') (h : SqT K H q xs) : SqT K H' q xs := by
  rcases h with h | h
  · left
    rcases h with h | ⟨o, h⟩
    · exact .inl (d _ _ (fun z => by rw [z, hl] at h; cases h) h)
    · exact .inr ⟨o, d _ _ (fun z => by rw [z, hl] at h; cases h) h⟩
  · exact .inr h
section
variable {X : Cx} {K : PySem.W.Frag} {T : String} {name : Str} {id : String} {r : V → List V → Hp → VK → Prop} {o e : Expr} {es : List Expr} {to : TE} {t : TA} {apos cpos : Pos}
theorem pe_bmK (hK : X.K = K) (pa : PlainAttrs T) (slot : PySem.Slot T name id) (hty : typeOf (.builtin id) = pure (.type "method_descriptor")) (hm : MtR X id r) (ho : PE X o to) (ha : PA X (e :: es) t)
    (hbase : attributeBase o name X.env (eval o X.env) = eval o X.env := by rfl)
    (hfew : ((backTo cpos (starEach (e :: es) X.env)).all (fun x => !x.1) && (backToKw cpos (keywordEach [] X.env)).all (fun x => x.1.isSome)
      && decide ((e :: es).length + ([] : List Keyword).length + (if ([] : List Keyword).isEmpty then 0 else 1) < 30)) = true := by rfl)
    (hline : (apos.endLine == cpos.line) = true := by rfl) (hs : starEach (e :: es) X.env = (false, eval e X.env) :: starEach es X.env := by rfl) (hplain : (backTo cpos (starEach es X.env)).any (·.1) = false := by rfl) :
    PE X (.Call (.Attribute o name apos) (e :: es) [] cpos) (tBM K T r to t) := by
  subst hK
  exact pe_bm pa slot hty hm ho ha hbase hfew hline hs hplain
end
section
variable {P : Program} {w : World} {K : PySem.W.Frag} {mg : Str → Option Value} {base : Heap} {C : Addr}
end
section
variable {P : Program} {w : World} {K : PySem.W.Frag} {mg : Str → Option Value} {base : Heap} {C : Addr}
end
theorem as_lc {wi : TI} {g : TG} {tt : TT} {te : TE} {gg : TG} {vs : List Nat} {D : Ends} {σ : L2.St} {H : Hp}
    (h : wi σ H fun J H1 => tLc (fun _ H R => R J H) g tt te vs σ H1 fun z H4 => gg z σ H4 D.nx) : tAsg (tLc wi g tt te vs) gg D σ H := h
theorem at_set {σ : L2.St} {H : Hp} {v : V} {i : Nat} {f : L2.St → Hp → Prop} (h : f (σ.set i (some v)) H) : gName i v σ H f := h
theorem ixl {X : Cx} {K : PySem.W.Frag} (h : X.K = K) : IxR X (rIxL K) := h ▸ ix_list
theorem call_listK {X : Cx} {K : PySem.W.Frag} (h : X.K = K) : CallR X (.type "list") (fun xs H Q => ∃ p ys, xs = [.ref p] ∧ (SqL K H p ys ∨ SqT K H p ys) ∧ ∀ l, H l = none → Q (.ref l) (L2.upd H l (.lst ys))) := by
  subst h
  exact call_list_of
def toI : V → Int
  | .int i => i
  | _ => 0
theorem perm_iv {ys : List V} {ks0 : List Int} (h : ys.Perm (iv ks0)) : ∃ ks, ys = iv ks ∧ ks.Perm ks0 := by
  refine ⟨ys.map toI, ?_, ?_⟩
  · unfold iv
    rw [List.map_map]
    have : ∀ y ∈ ys, y = (V.int ∘ toI) y := fun y hy => by
      obtain ⟨i, _, rfl⟩ := List.mem_map.mp (h.mem_iff.mp hy)
      rfl
    have e := List.map_congr_left this
    rw [← e]
    simp
  · have := h.map toI
    have e : (iv ks0).map toI = ks0 := by
      unfold iv
      rw [List.map_map]
      have : (toI ∘ V.int) = id := rfl
      rw [this, List.map_id]
    rw [e] at this
    exact this
theorem erase_iv : ∀ (ks : List Int) (m : Nat), (iv ks).eraseIdx m = iv (ks.eraseIdx m)
  | [], _ => rfl
  | _ :: _, 0 => rfl
  | a :: t, m + 1 => by
    show V.int a :: (iv t).eraseIdx m = V.int a :: iv (t.eraseIdx m)
    rw [erase_iv t m]
theorem seq_at {j n : Nat} (h : j < n) : seqIndex? (j : Int) n = some j := by
  unfold seqIndex?
  have h1 : ¬ (j : Int) < 0 := by omega
  simp only [if_neg h1]
  rw [if_pos (by simp; omega), Int.toNat_natCast]
theorem cb_lc {r : List V → Hp → VK → Prop} {wi : TI} {g : TG} {tt : TT} {te : TE} {vs : List Nat} {σ : L2.St} {H : Hp} {Q : VK}
    (h : wi σ H fun J H1 => tLc (fun _ H R => R J H) g tt te vs σ H1 fun y H2 => r [y] H2 Q) : tCB r (tCons (tLc wi g tt te vs) tNil) σ H Q := h
/-! ### the methods that the law calls besides -/
abbrev sLenM : Stmt := inClass (top 32) 2
abbrev sStrM : Stmt := inClass (top 32) 3
abbrev sReadM : Stmt := inClass (top 32) 12
abbrev sTold : Stmt := top 26
def spLenM (K : PySem.W.Frag) (C : Addr) : Sp := fun vs H Q _ => ∃ (p : Addr) (ns : List Int), vs = [.ref p] ∧ WordAt K C H p ns ∧ Q (.int (ns.length : Nat)) H
def spStrM (K : PySem.W.Frag) (C : Addr) : Sp := fun vs H Q _ => ∃ (p : Addr) (ns : List Int), vs = [.ref p] ∧ WordAt K C H p ns ∧ ns.length ≤ 500 ∧ Lts ns ∧ ∀ H', Same H H' → Q (.str (txt ns)) H'
theorem all_iv {ws : List V} {ns : List Int} (h : All2 (fun v b => v = V.int b) ws ns) : ws = iv ns := by
  induction h with
  | nil => rfl
  | cons h _ ih => rw [h, ih]; rfl
theorem itm_dash {i : Int} (h1 : 1 ≤ i.natAbs) (h2 : i.natAbs ≤ 26) : itm i ≠ ⟨#[45]⟩ := by
  unfold itm
  split
  · intro e
    injection e with e
    injection e with e
    injection e with e
    omega
  · intro e
    injection e with e
    injection e with e
    injection e with _ e
    cases e
section
variable {P : Program} {w : World} {K : PySem.W.Frag} {mg : Str → Option Value} {base : Heap} {C : Addr}
theorem scLenM : FnScope ["self"] ["self"] (defScope sLenM) := ⟨rfl, rfl, rfl, by decide +kernel, rfl, by decide +kernel, by decide +kernel⟩
theorem ok_lenM {f : Addr} {fd : FuncData} (F : Fun K "__len__" "Word.__len__" sLenM f fd) (T : TxW K mg C) (hlen : mg "len" = none) : FnOk P w K mg base CX0 1 f fd ["self"] (spLenM K C) := by
  refine F.ok scLenM (fun vs H Q E h => ?_) (fun cdv A outer s H vs Q E hr h => ?_)
  · obtain ⟨p, ns, rfl, _⟩ := h
    rfl
  · obtain ⟨p, ns, rfl, hW, k⟩ := h
    refine ⟨_, pss_one (ps_ret (pe_callB call_len_seq (by rfl) hlen PySem.boot_len (pa_cons (pe_fld (pv 0) rfl) pa_nil))), ?_⟩
    obtain ⟨dx, tl, tk, ks, w1, w2, _⟩ := id hW
    refine ⟨_, rfl, p, C, dx, _, _, rfl, w1, T.cl, T.nL, wf_letters, tl, _, rfl, .inr w2.sq, ?_⟩
    rw [List.length_map]
    exact k
theorem scStrM : FnScope ["self", "letter"] ["self"] (defScope sStrM) := ⟨rfl, rfl, rfl, by decide +kernel, rfl, by decide +kernel, by decide +kernel⟩
theorem ok_strM {f : Addr} {fd : FuncData} (F : Fun K "__str__" "Word.__str__" sStrM f fd) (T : TxW K mg C) (GT : Cal P w K mg base "letter_text" 1 ["letter"] spLText) : FnOk P w K mg base CX0 2 f fd ["self"] (spStrM K C) := by
  refine F.ok scStrM (fun vs H Q E h => ?_) (fun cdv A outer s H vs Q E hr h => ?_)
  · obtain ⟨p, ns, rfl, _⟩ := h
    rfl
  · obtain ⟨p, ns, rfl, hW, ln, hl, k⟩ := h
    refine ⟨_, pss_cons (ps_if (pt_not (pt_truth (pe_fld (pv 0) rfl) (by intro _; rfl))) (pss_one (ps_ret pe_str)) pss_nil)
      (pss_one (ps_ret (pe_join pe_str (pe_lc (own := [("letter", 1)]) (g := gName 1) (tt := tYes) rfl scStrM.nd (pi_tup (pe_fld (pv 0) rfl)) (blkOk_by (N := ["self", "letter"]) (sc := defScope sStrM) (by decide +kernel)) (fun _ _ _ _ _ => pg_name (i := 1) scStrM.nd rfl (Or.inl rfl)) (fun _ _ _ _ _ => pts_nil)
        (fun _ _ _ _ _ => pe_cal GT hr (by decide) (by rfl) (pa_cons (pv 1) pa_nil)))))), ?_⟩
    obtain ⟨dx, tl, tk, ks, w1, w2, _⟩ := id hW
    refine ⟨_, rfl, p, C, dx, _, _, rfl, w1, T.cl, T.nL, wf_letters, _, .inr (.inl ⟨_, w2.sq, rfl⟩), ?_⟩
    by_cases h0 : ns = []
    · subst h0
      refine iteT ?_
      exact k H (Same.refl _)
    · have he : (iv ns).isEmpty = false := by
        cases ns with
        | nil => exact absurd rfl h0
        | cons => rfl
      rw [he]
      refine iteF ?_
      refine ⟨⟨_, rfl⟩, lc_in ?_⟩
      refine ⟨_, rfl, p, C, dx, _, _, rfl, w1, T.cl, T.nL, wf_letters, tl, rfl, ⟨_, w2.sq⟩, ?_⟩
      refine lcp (walk_tup (K := K) (a := tl) (xs := iv ns)) (fun _ => true) (fun x => match x with | .int i => .str (itm i) | _ => .non) (by rw [List.length_map]; omega) (fun H3 s3 => WR.Same.seqT s3 w2.sq) ?_ ?_
      · intro x hx H3 s3 Qy Qn ky kn
        obtain ⟨i, hi, rfl⟩ := List.mem_map.mp hx
        obtain ⟨i1, i2⟩ := hl i hi
        refine ⟨rfl, yes_te ?_⟩
        exact ⟨_, rfl, i, rfl, i1, i2, ky rfl H3 (Same.refl _)⟩
      · intro D H3 hD s3 h3
        have e : (((iv ns).filter fun _ => true).map fun x => match x with | .int i => V.str (itm i) | _ => .non) = (ns.map itm).map V.str := by
          rw [List.filter_eq_self.mpr (fun _ _ => rfl)]
          simp [iv, Function.comp_def]
        rw [e] at h3
        refine ⟨_, D, ns.map itm, rfl, rfl, .inl (SqL.of h3), ?_, ?_⟩
        · have hs : ∀ ms : List Int, ((ms.map itm).map (·.length)).sum ≤ 2 * ms.length := by
            intro ms
            induction ms with
            | nil => exact Nat.zero_le _
            | cons a r ih =>
              have := itm_len a
              simp only [List.map_cons, List.sum_cons, List.length_cons]
              omega
          have h1 := hs ns
          have h2 : (ns.map itm).length = ns.length := List.length_map ..
          rw [h2]
          show _ + ns.length * 1 ≤ _
          omega
        · have et : txt ns = Txt.join (Str.ofString " ") (ns.map itm) := by
            unfold txt
            rw [if_neg h0, space_eq]
          have := k H3 s3
          rw [et] at this
          exact this
end

end W11
set_option Elab.async false
set_option linter.all false
/-! Words put for letters, kinds renamed, what a row holds more of a letter than of its contrary. -/
namespace Fr
def sub (f : Int → List Int) (xs : List Int) : List Int := (xs.map f).flatten
/-- the contrary for the contrary -/
def Odd (f : Int → List Int) : Prop := ∀ x, x ≠ 0 → f (-x) = con (f x)
theorem sub_nil (f : Int → List Int) : sub f [] = [] := rfl
theorem sub_cons (f : Int → List Int) (a : Int) (t : List Int) : sub f (a :: t) = f a ++ sub f t := by simp [sub]
theorem sub_app (f : Int → List Int) (xs ys : List Int) : sub f (xs ++ ys) = sub f xs ++ sub f ys := by simp [sub]
theorem sub_one (f : Int → List Int) (a : Int) : sub f [a] = f a := by simp [sub]
theorem sub_congr {f g : Int → List Int} {xs : List Int} (h : ∀ x ∈ xs, f x = g x) : sub f xs = sub g xs := by
  unfold sub
  rw [List.map_congr_left h]
theorem sub_con {f : Int → List Int} (o : Odd f) : ∀ {xs : List Int}, NZ xs → sub f (con xs) = con (sub f xs)
  | [], _ => rfl
  | a :: t, nz => by
    have ha : a ≠ 0 := nz a List.mem_cons_self
    have ht : NZ t := fun x hx => nz x (List.mem_cons_of_mem _ hx)
    rw [con_cons, sub_app, sub_one, sub_cons, con_append, sub_con o ht, o a ha]
theorem sub_push {f : Int → List Int} (o : Odd f) {s : List Int} {a : Int} (ha : a ≠ 0) : Sm (sub f (push s a).reverse) (sub f (s.reverse ++ [a])) := by
  cases s with
  | nil => exact Sm.refl _
  | cons b t =>
    by_cases e : b = -a
    · have h1 : push (b :: t) a = t := by simp [push, e]
      rw [h1, e, List.reverse_cons, sub_app, sub_app, sub_one, sub_one, o a ha, List.append_assoc]
      have := (Sm.refl (sub f t.reverse)).app (sm_con' (f a))
      rw [List.append_nil] at this
      exact this.symm
    · have h1 : push (b :: t) a = a :: b :: t := by simp [push, e]
      rw [h1]
      simp only [List.reverse_cons]
      exact Sm.refl _
theorem sub_act {f : Int → List Int} (o : Odd f) : ∀ {xs : List Int} (s : List Int), NZ xs → Sm (sub f (act s xs).reverse) (sub f (s.reverse ++ xs))
  | [], s, _ => by
    rw [List.append_nil]
    exact Sm.refl _
  | a :: t, s, nz => by
    have ha : a ≠ 0 := nz a List.mem_cons_self
    have ht : NZ t := fun x hx => nz x (List.mem_cons_of_mem _ hx)
    rw [act_cons]
    refine (sub_act o (push s a) ht).trans ?_
    have := (sub_push o (s := s) ha).app (Sm.refl (sub f t))
    rw [← sub_app, ← sub_app, List.append_assoc] at this
    exact this
theorem sub_shr {f : Int → List Int} (o : Odd f) {xs : List Int} (nz : NZ xs) : Sm (sub f (shr xs)) (sub f xs) := sub_act o [] nz
theorem sub_sm {f g : Int → List Int} (h : ∀ x, x ≠ 0 → Sm (f x) (g x)) : ∀ {xs : List Int}, NZ xs → Sm (sub f xs) (sub g xs)
  | [], _ => Sm.refl _
  | a :: t, nz => by
    rw [sub_cons, sub_cons]
    exact (h a (nz a List.mem_cons_self)).app (sub_sm h fun x hx => nz x (List.mem_cons_of_mem _ hx))
theorem sub_id {f : Int → List Int} {xs : List Int} (h : ∀ x ∈ xs, f x = [x]) : sub f xs = xs := by
  induction xs with
  | nil => rfl
  | cons a t ih =>
    rw [sub_cons, h a List.mem_cons_self, ih fun x hx => h x (List.mem_cons_of_mem _ hx)]
    rfl
theorem sub_sub (f g : Int → List Int) : ∀ xs : List Int, sub f (sub g xs) = sub (fun x => sub f (g x)) xs
  | [] => rfl
  | a :: t => by rw [sub_cons, sub_cons, sub_app, sub_sub f g t]
theorem sub_map (h : Int → Int) (xs : List Int) : sub (fun x => [h x]) xs = xs.map h := by
  induction xs with
  | nil => rfl
  | cons a t ih => rw [sub_cons, ih]; rfl
theorem sub_length {f : Int → List Int} {m : Nat} {xs : List Int} (h : ∀ x ∈ xs, (f x).length ≤ m) : (sub f xs).length ≤ xs.length * m := by
  induction xs with
  | nil => simp [sub]
  | cons a t ih =>
    have h1 := h a List.mem_cons_self
    have h2 := ih fun x hx => h x (List.mem_cons_of_mem _ hx)
    rw [sub_cons, List.length_append, List.length_cons, Nat.add_mul]
    omega
theorem sub_mem {f : Int → List Int} {xs : List Int} {y : Int} (h : y ∈ sub f xs) : ∃ x ∈ xs, y ∈ f x := by
  unfold sub at h
  obtain ⟨l, hl, hy⟩ := List.mem_flatten.mp h
  obtain ⟨x, hx, rfl⟩ := List.mem_map.mp hl
  exact ⟨x, hx, hy⟩
/-! ### one kind's letters -/
def putF (k : Int) (os : List Int) (x : Int) : List Int := if x = k then os else if x = -k then con os else [x]
theorem putF_odd {k : Int} (hk : k ≠ 0) (os : List Int) : Odd (putF k os) := by
  intro x hx
  unfold putF
  by_cases h1 : x = k
  · subst h1
    rw [if_neg (by omega), if_pos rfl, if_pos rfl]
  · by_cases h2 : x = -k
    · subst h2
      rw [if_pos (by omega), if_neg h1, if_pos rfl, con_con]
    · rw [if_neg (by omega), if_neg (by omega), if_neg h1, if_neg h2]
      rfl
/-- what is told of the kinds -/
def tabF (g : Int → List Int) (x : Int) : List Int := if 0 < x then g x else con (g (-x))
theorem tabF_odd (g : Int → List Int) : Odd (tabF g) := by
  intro x hx
  unfold tabF
  by_cases h : 0 < x
  · rw [if_neg (by omega), if_pos h, Int.neg_neg]
  · rw [if_pos (by omega), if_neg h, con_con]
theorem tabF_put {k : Int} (hk : 0 < k) (os : List Int) {x : Int} (hx : x ≠ 0) : tabF (fun y => if y = k then os else [y]) x = putF k os x := by
  unfold tabF putF
  by_cases h : 0 < x
  · rw [if_pos h]
    dsimp only
    by_cases e : x = k
    · rw [if_pos e, if_pos e]
    · rw [if_neg e, if_neg e, if_neg (by omega)]
  · rw [if_neg h]
    dsimp only
    have nk : ¬ x = k := by omega
    rw [if_neg nk]
    by_cases e : x = -k
    · rw [if_pos (by omega), if_pos e]
    · rw [if_neg (by omega), if_neg e]
      simp [con]
/-! ### kinds renamed -/
/-- the letter that is told for a kind -/
def told? (prs : List (Int × Int)) (k : Int) : Option Int := (prs.find? fun p => decide (p.1 = k)).map (·.2)
def ren (prs : List (Int × Int)) (x : Int) : Int := if 0 < x then (told? prs x).getD x else -((told? prs (-x)).getD (-x))
theorem ren_odd (prs : List (Int × Int)) {x : Int} (hx : x ≠ 0) : ren prs (-x) = -ren prs x := by
  unfold ren
  by_cases h : 0 < x
  · rw [if_neg (by omega), if_pos h, Int.neg_neg]
  · rw [if_pos (by omega), if_neg h, Int.neg_neg]
theorem renF_odd (prs : List (Int × Int)) : Odd fun x => [ren prs x] := fun x hx => by
  show [ren prs (-x)] = con [ren prs x]
  rw [ren_odd prs hx]
  rfl
theorem told_nil (k : Int) : told? [] k = none := rfl
theorem told_cons (p : Int × Int) (r : List (Int × Int)) (k : Int) : told? (p :: r) k = if p.1 = k then some p.2 else told? r k := by
  unfold told?
  rw [List.find?_cons]
  by_cases h : p.1 = k
  · rw [if_pos h, decide_eq_true h]
    rfl
  · rw [if_neg h, decide_eq_false h]
theorem told_some {prs : List (Int × Int)} {k l : Int} (h : told? prs k = some l) : (k, l) ∈ prs := by
  induction prs with
  | nil => cases h
  | cons p r ih =>
    rw [told_cons] at h
    by_cases e : p.1 = k
    · rw [if_pos e] at h
      obtain rfl := Option.some.inj h
      rw [← e]
      exact List.mem_cons_self
    · rw [if_neg e] at h
      exact List.mem_cons_of_mem _ (ih h)
theorem told_in {prs : List (Int × Int)} (nd : (prs.map (·.1)).Nodup) {k l : Int} (h : (k, l) ∈ prs) : told? prs k = some l := by
  induction prs with
  | nil => cases h
  | cons p r ih =>
    rw [List.map_cons, List.nodup_cons] at nd
    rw [told_cons]
    rcases List.mem_cons.mp h with h | h
    · rw [← h, if_pos rfl]
    · have : p.1 ≠ k := fun e => nd.1 (List.mem_map.mpr ⟨_, h, e.symm⟩)
      rw [if_neg this]
      exact ih nd.2 h
theorem told_none {prs : List (Int × Int)} {k : Int} (h : told? prs k = none) {l : Int} : (k, l) ∉ prs := by
  induction prs with
  | nil => exact fun q => nomatch q
  | cons p r ih =>
    rw [told_cons] at h
    by_cases e : p.1 = k
    · rw [if_pos e] at h
      cases h
    · rw [if_neg e] at h
      intro q
      rcases List.mem_cons.mp q with q | q
      · rw [← q] at e
        exact e rfl
      · exact ih h q
/-- the order is nothing -/
theorem told_perm {ps qs : List (Int × Int)} (np : (ps.map (·.1)).Nodup) (h : ∀ p, p ∈ ps ↔ p ∈ qs) (nq : (qs.map (·.1)).Nodup) (k : Int) : told? ps k = told? qs k := by
  cases e : told? ps k with
  | some l => exact (told_in nq ((h _).mp (told_some e))).symm
  | none =>
    cases e2 : told? qs k with
    | none => rfl
    | some l => exact absurd ((h _).mpr (told_some e2)) (told_none e)
theorem ren_perm {ps qs : List (Int × Int)} (np : (ps.map (·.1)).Nodup) (h : ∀ p, p ∈ ps ↔ p ∈ qs) (nq : (qs.map (·.1)).Nodup) (x : Int) : ren ps x = ren qs x := by
  unfold ren
  rw [told_perm np h nq, told_perm np h nq]
/-! ### balance -/
def cnt (xs : List Int) (k : Int) : Int := (xs.count k : Int) - (xs.count (-k) : Int)
theorem cnt_app (xs ys : List Int) (k : Int) : cnt (xs ++ ys) k = cnt xs k + cnt ys k := by
  unfold cnt
  rw [List.count_append, List.count_append]
  omega
theorem cnt_nil (k : Int) : cnt [] k = 0 := rfl
theorem cnt_con (xs : List Int) (k : Int) : cnt (con xs) k = -cnt xs k := by
  have h : ∀ j : Int, (con xs).count j = xs.count (-j) := by
    intro j
    unfold con
    rw [← List.count_reverse (l := xs)]
    generalize xs.reverse = ys
    induction ys with
    | nil => rfl
    | cons a t ih =>
      rw [List.map_cons, List.count_cons, List.count_cons, ih]
      have : (-a == j) = (a == -j) := by
        rw [Bool.eq_iff_iff, beq_iff_eq, beq_iff_eq]
        omega
      rw [this]
  unfold cnt
  rw [h, h, Int.neg_neg]
  omega
theorem cnt_one (a k : Int) : cnt [a] k = (if a = k then 1 else 0) - (if a = -k then 1 else 0) := by
  unfold cnt
  simp only [List.count_cons, List.count_nil, beq_iff_eq]
  split <;> split <;> rfl
theorem cnt_cons (a : Int) (t : List Int) (k : Int) : cnt (a :: t) k = cnt [a] k + cnt t k := cnt_app [a] t k
theorem cnt_pair (a k : Int) : cnt [-a] k = -cnt [a] k := cnt_con [a] k
theorem cnt_push (s : List Int) (a k : Int) : cnt (push s a) k = cnt s k + cnt [a] k := by
  cases s with
  | nil => rw [cnt_nil]; show cnt [a] k = _; omega
  | cons b t =>
    by_cases e : b = -a
    · have h1 : push (b :: t) a = t := by simp [push, e]
      rw [h1, e, cnt_cons (-a) t, cnt_pair]
      omega
    · have h1 : push (b :: t) a = a :: b :: t := by simp [push, e]
      rw [h1, cnt_cons a]
      omega
theorem cnt_act : ∀ (xs s : List Int) (k : Int), cnt (act s xs) k = cnt s k + cnt xs k
  | [], s, k => by rw [act_nil, cnt_nil]; omega
  | a :: t, s, k => by
    rw [act_cons, cnt_act t, cnt_push, cnt_cons a t]
    omega
theorem cnt_rev (xs : List Int) (k : Int) : cnt xs.reverse k = cnt xs k := by
  unfold cnt
  rw [List.count_reverse, List.count_reverse]
theorem cnt_shr (xs : List Int) (k : Int) : cnt (shr xs) k = cnt xs k := by
  unfold shr
  rw [cnt_rev, cnt_act, cnt_nil]
  omega
theorem cnt_rep (n : Nat) (xs : List Int) (k : Int) : cnt (rep n xs) k = n * cnt xs k := by
  induction n with
  | zero => rw [rep_zero, cnt_nil]; simp
  | succ n ih =>
    rw [rep_succ, cnt_app, ih, Int.natCast_add, Int.add_mul]
    show cnt xs k + _ = _ + 1 * cnt xs k
    omega
theorem cnt_sub {k : Int} (hk : 0 < k) (os : List Int) {e : Int} (he : 0 < e) : ∀ xs : List Int, NZ xs → cnt (sub (putF k os) xs) e = (if e = k then 0 else cnt xs e) + cnt xs k * cnt os e
  | [], _ => by rw [sub_nil, cnt_nil, cnt_nil]; simp
  | a :: t, nz => by
    have ih := cnt_sub hk os he t fun x hx => nz x (List.mem_cons_of_mem _ hx)
    have ha : a ≠ 0 := nz a List.mem_cons_self
    rw [sub_cons, cnt_app, ih, cnt_cons a t, cnt_cons a t k, Int.add_mul]
    have c1 : ∀ j : Int, 0 < j → cnt [j] j = 1 := fun j hj => by rw [cnt_one, if_pos rfl, if_neg (by omega)]; rfl
    have c0 : ∀ i j : Int, i ≠ j → i ≠ -j → cnt [i] j = 0 := fun i j h1 h2 => by rw [cnt_one, if_neg h1, if_neg h2]; rfl
    have key : cnt (putF k os a) e = (if e = k then 0 else cnt [a] e) + cnt [a] k * cnt os e := by
      unfold putF
      by_cases h1 : a = k
      · rw [if_pos h1, h1, c1 k hk]
        by_cases h2 : e = k
        · rw [if_pos h2]; omega
        · rw [if_neg h2, c0 k e (by omega) (by omega)]; omega
      · rw [if_neg h1]
        by_cases h2 : a = -k
        · rw [if_pos h2, cnt_con, h2, cnt_pair, cnt_pair, c1 k hk]
          by_cases h3 : e = k
          · rw [if_pos h3]; omega
          · rw [if_neg h3, c0 k e (by omega) (by omega)]; omega
        · rw [if_neg h2, c0 a k h1 h2]
          by_cases h3 : e = k
          · rw [if_pos h3, h3, c0 a k h1 h2]; omega
          · rw [if_neg h3]; omega
    rw [key]
    by_cases h3 : e = k
    · rw [if_pos h3]; omega
    · rw [if_neg h3, if_neg h3, if_neg h3]; omega
/-- each kind that stands more often forward than backward, or less -/
def bal (xs : List Int) : List (Int × Int) := ((List.range 26).map fun (i : Nat) => ((i : Int) + 1, cnt xs ((i : Int) + 1))).filter fun p => decide (p.2 ≠ 0)
theorem bal_congr {xs ys : List Int} (h : ∀ k, cnt xs k = cnt ys k) : bal xs = bal ys := by
  unfold bal
  congr 1
  exact List.map_congr_left fun i _ => by rw [h]
theorem bal_shr (xs : List Int) : bal (shr xs) = bal xs := bal_congr (cnt_shr xs)
end Fr
set_option Elab.async false
set_option linter.all false
set_option maxRecDepth 100000
set_option maxHeartbeats 1000000
namespace W11
open PySem L2 PySem.Spec PyProof.Rows WR WB
theorem sorted_ext : ∀ (l1 l2 : List Int), l1.Pairwise (· < ·) → l2.Pairwise (· < ·) → (∀ x, x ∈ l1 ↔ x ∈ l2) → l1 = l2
  | [], [], _, _, _ => rfl
  | [], b :: t, _, _, h => absurd ((h b).mpr List.mem_cons_self) (fun q => nomatch q)
  | a :: s, [], _, _, h => absurd ((h a).mp List.mem_cons_self) (fun q => nomatch q)
  | a :: s, b :: t, h1, h2, h => by
    rw [List.pairwise_cons] at h1 h2
    have e : a = b := by
      rcases List.mem_cons.mp ((h a).mp List.mem_cons_self) with e | m
      · exact e
      · rcases List.mem_cons.mp ((h b).mpr List.mem_cons_self) with e | m2
        · exact e.symm
        · have := h2.1 a m
          have := h1.1 b m2
          omega
    subst e
    rw [sorted_ext s t h1.2 h2.2 fun x => ⟨fun hx => ?_, fun hx => ?_⟩]
    · rcases List.mem_cons.mp ((h x).mp (List.mem_cons_of_mem _ hx)) with e | m
      · have := h1.1 x hx
        omega
      · exact m
    · rcases List.mem_cons.mp ((h x).mpr (List.mem_cons_of_mem _ hx)) with e | m
      · have := h2.1 x hx
        omega
      · exact m
theorem cnt_zero {ns : List Int} {k : Int} (h : ¬ ∃ x ∈ ns, k = (x.natAbs : Int)) (hk : 0 < k) : Fr.cnt ns k = 0 := by
  have h1 : ns.count k = 0 := List.count_eq_zero.mpr fun q => h ⟨k, q, by omega⟩
  have h2 : ns.count (-k) = 0 := List.count_eq_zero.mpr fun q => h ⟨-k, q, by omega⟩
  unfold Fr.cnt
  rw [h1, h2]
  rfl
theorem bal_kinds {ns ks : List Int} (h : Lts ns) (hk : kindsOk ns ks) : (ks.map fun k => (k, Fr.cnt ns k)).filter (fun p => decide (p.2 ≠ 0)) = Fr.bal ns := by
  have e : Fr.bal ns = (((List.range 26).map fun (i : Nat) => (i : Int) + 1).map fun k => (k, Fr.cnt ns k)).filter (fun p => decide (p.2 ≠ 0)) := by
    unfold Fr.bal
    rw [List.map_map]
    rfl
  rw [e, List.filter_map, List.filter_map]
  congr 1
  refine sorted_ext _ _ (hk.1.filter _) (List.Pairwise.filter _ ?_) fun x => ?_
  · rw [List.pairwise_map]
    exact List.pairwise_lt_range.imp fun h => by omega
  · rw [List.mem_filter, List.mem_filter]
    refine and_congr_left fun hc => ?_
    have hc : Fr.cnt ns x ≠ 0 := of_decide_eq_true hc
    rw [hk.2 x, List.mem_map]
    constructor
    · rintro ⟨y, hy, rfl⟩
      obtain ⟨y1, y2⟩ := h y hy
      exact ⟨y.natAbs - 1, List.mem_range.mpr (by omega), by omega⟩
    · rintro ⟨i, hi, rfl⟩
      exact Decidable.byContradiction fun q => hc (cnt_zero q (by omega))
abbrev sBalOf : Stmt := top 14
theorem mt_lcountK {X : Cx} {K : PySem.W.Frag} (h : X.K = K) : MtR X "list.count" (rCntI K) := by
  subst h
  exact mt_lcount
/-- a tuple of two ints -/
def PrT (K : PySem.W.Frag) (H : Hp) (v : V) (p : Int × Int) : Prop := ∃ q : Addr, v = .ref q ∧ SqT K H q [.int p.1, .int p.2]
theorem PrT.same {K : PySem.W.Frag} {H H' : Hp} {v : V} {p : Int × Int} (h : PrT K H v p) (s : Same H H') : PrT K H' v p := by
  obtain ⟨q, e, h⟩ := h
  exact ⟨q, e, WR.Same.seqT s h⟩
theorem PrT.put {K : PySem.W.Frag} {D : Addr} {H : Hp} {ws : List V} {o : HO} {v : V} {p : Int × Int} (hD : H D = some (.lst ws)) (h : PrT K H v p) : PrT K (L2.upd H D o) v p := by
  obtain ⟨q, e, h⟩ := h
  exact ⟨q, e, SqT.keptL hD Kept.upd h⟩
def BalAt (K : PySem.W.Frag) (H : Hp) (a : Addr) (ps : List (Int × Int)) : Prop := ∃ vs, SqT K H a vs ∧ All2 (PrT K H) vs ps
theorem BalAt.same {K : PySem.W.Frag} {H H' : Hp} {a : Addr} {ps : List (Int × Int)} (h : BalAt K H a ps) (s : Same H H') : BalAt K H' a ps := by
  obtain ⟨vs, h1, h2⟩ := h
  exact ⟨vs, WR.Same.seqT s h1, h2.imp fun _ _ r => r.same s⟩
def spBalOf (K : PySem.W.Frag) : Sp := fun vs H Q _ => ∃ (a : Addr) (ns : List Int), vs = [.ref a] ∧ SqL K H a (iv ns) ∧ ns.length ≤ 1000 ∧ Lts ns ∧ ∀ p H', Same H H' → BalAt K H' p (Fr.bal ns) → Q (.ref p) H'
abbrev nBalOf : List Str := ["letters", "pairs", "kind", "more"]
theorem kinds_len {ns ks : List Int} (h : Lts ns) (hk : kindsOk ns ks) : ks.length ≤ 26 := by
  refine pigeon 26 ks ?_ fun k hk' => ?_
  · exact hk.1.imp fun h => by omega
  · obtain ⟨x, hx, rfl⟩ := (hk.2 k).mp hk'
    obtain ⟨y1, y2⟩ := h x hx
    omega
section
variable {P : Program} {w : World} {K : PySem.W.Frag} {mg : Str → Option Value} {base : Heap}
theorem scBalOf : FnScope nBalOf ["letters"] (defScope sBalOf) := ⟨rfl, rfl, rfl, by decide +kernel, rfl, by decide +kernel, by decide +kernel⟩
theorem ok_balOf {f : Addr} {fd : FuncData} (F : Fun K "balance_of" "balance_of" sBalOf f fd) (T : TxA mg) (GK : Cal P w K mg base "kinds_of" 1 ["letters"] (spKinds K)) : FnOk P w K mg base CX0 2 f fd ["letters"] (spBalOf K) := by
  refine F.ok scBalOf (fun vs H Q E h => ?_) (fun cdv A outer s H vs Q E hr h => ?_)
  · obtain ⟨a, ns, rfl, _⟩ := h
    rfl
  · obtain ⟨a, ns, rfl, hA, hlen, hl, k⟩ := h
    refine ⟨_, pss_cons (ps_setLc (i := 1) (own := [("kind", 2)]) (g := gName 2) (tt := tYes) rfl scBalOf.nd rfl rfl (sw_true rfl rfl rfl (by decide +kernel)) (pi_tup (pe_cal GK hr (by decide) (by rfl) (pa_cons (pv 0) pa_nil)))
        (blkOk_by (N := nBalOf) (sc := defScope sBalOf) (by decide +kernel)) (fun _ _ _ _ _ => pg_name (i := 2) scBalOf.nd rfl (Or.inl rfl)) (fun _ _ _ _ _ => pts_nil)
        (fun _ _ _ _ _ => pe_tup (pa_cons (pv 2) (pa_cons (pe_op op_sub (pe_bmK (K := K) rfl PySem.F.plainAttrs_list PySem.F.slot_list_count PySem.F.type_list_count (mt_lcountK (K := K) rfl) (pv 0) (pa_cons (pv 2) pa_nil)) (pe_bmK (K := K) rfl PySem.F.plainAttrs_list PySem.F.slot_list_count PySem.F.type_list_count (mt_lcountK (K := K) rfl) (pv 0) (pa_cons (pe_un un_neg (pv 2)) pa_nil))) pa_nil))))
      (pss_one (ps_ret (pe_callTy call_tuple_of (by rfl) T.tuple (by decide +kernel) (pa_cons (pe_lc (own := [("kind", 2), ("more", 3)]) (g := gTup K 2 (gCons (gName 2) (gCons (gName 3) gNil))) rfl scBalOf.nd (pi_list (pv 1))
        (blkOk_by (N := nBalOf) (sc := defScope sBalOf) (by decide +kernel)) (fun _ _ _ _ _ => pg_tup (n := 2) rfl (pgs_cons (pg_name (i := 2) scBalOf.nd rfl (Or.inl rfl)) (pgs_cons (pg_name (i := 3) scBalOf.nd rfl (Or.inl rfl)) pgs_nil)))
        (fun _ _ _ _ _ => pts_one (pt_cmpR op_ne (pv 3) pe_int (nomark _))) (fun _ _ _ _ _ => pe_tup (pa_cons (pv 2) (pa_cons (pv 3) pa_nil)))) pa_nil)))), ?_⟩
    refine as_lc ?_
    refine ⟨_, rfl, a, ns, rfl, .inl hA, hlen, hl, fun ks hk kp H1 s1 hkp => ?_⟩
    have hkl := kinds_len hl hk
    have hA1 := s1.seq hA
    refine ⟨kp, rfl, ⟨_, hkp⟩, ?_⟩
    refine lcM (walk_tup (K := K) (a := kp) (xs := iv ks)) (ks.map fun k => (k, Fr.cnt ns k)) (fun D H v p => PrT K H v p) (fun _ _ _ _ _ h s => h.same s) (fun _ _ _ _ _ _ hD h => h.put hD) (by rw [List.length_map]; omega) (by rw [List.length_map, List.length_map]) (fun H2 s2 => WR.Same.seqT s2 hkp) ?_ (fun x σ1 H A B k h => gName_mono k h) ?_
    · intro i x b hx hb D H2 hD ⟨us, hus⟩ s2 Qy ky
      obtain ⟨z, hz, rfl⟩ : ∃ z, ks[i]? = some z ∧ x = V.int z := by
        rw [List.getElem?_map] at hx
        cases e : ks[i]? with
        | none => rw [e] at hx; cases hx
        | some z => rw [e] at hx; exact ⟨z, rfl, (Option.some.inj hx).symm⟩
      rw [List.getElem?_map, hz] at hb
      obtain rfl := Option.some.inj hb
      have hA2 := s2.seq hA1
      have hne : iv ns ≠ [] := fun e => by
        obtain ⟨y, hy, _⟩ := (hk.2 z).mp (List.mem_of_getElem? hz)
        have : ns = [] := List.map_eq_nil_iff.mp e
        rw [this] at hy
        cases hy
      refine ⟨rfl, ?_⟩
      refine ⟨_, rfl, _, rfl, .inl ⟨rfl, _, hA2⟩, _, rfl, a, ns, z, rfl, rfl, hA2, _, rfl, .inl ⟨rfl, _, hA2⟩, _, rfl, _, rfl, a, ns, -z, rfl, rfl, hA2, ?_⟩
      refine ⟨_, _, rfl, rfl, by show 2 ≤ sizeLine; decide, fun q hq => ?_⟩
      exact ky (.ref q) _ (same_upd hq) ⟨q, rfl, SqT.of upd_same⟩
    intro D H2 ws hD s2 h2 r2
    have l2 := r2.length
    rw [List.length_map] at l2
    refine at_set ?_
    try dsimp only
    refine ⟨_, rfl, D, rfl, ⟨_, SqL.of h2⟩, fun D2 hD2 => ?_⟩
    refine lc_it (walk_list (K := K) (a := D) (xs := ws)) (fun j H' => Same H2 H' ∧ ∃ us, H' D2 = some (.lst us) ∧ us.length ≤ j ∧ All2 (PrT K H') us (((ks.map fun k => (k, Fr.cnt ns k)).take j).filter fun p => decide (p.2 ≠ 0)))
      ⟨same_upd hD2, [], upd_same, Nat.le_refl _, by rw [List.take_zero]; exact .nil⟩ (fun j H' _ q => SqL.of (q.1 _ _ h2)) ?_ ?_
    · rintro j x H3 _ hj ⟨sm, us, hus, lu, hu⟩ ⟨rfl, hx⟩
      obtain ⟨b, hb, q, rfl, hq⟩ := r2.at hx
      have hjk : j < (ks.map fun k => (k, Fr.cnt ns k)).length := (List.getElem?_eq_some_iff.mp hb).1
      have eb : (ks.map fun k => (k, Fr.cnt ns k))[j] = b := (List.getElem?_eq_some_iff.mp hb).2
      refine ⟨q, _, rfl, WR.Same.seqT sm hq, rfl, _, _, rfl, _, _, rfl, rfl, ?_⟩
      refine ⟨rfl, ?_⟩
      refine ⟨_, rfl, rfl, _, rfl, ?_⟩
      rw [List.take_succ_eq_append_getElem hjk, eb, List.filter_append]
      refine ite2 (fun hn => ?_) (fun hn => ?_)
      · refine ⟨_, rfl, _, rfl, by show 2 ≤ sizeLine; decide, fun t ht => ?_⟩
        have st := same_upd (o := .tup [.int b.1, .int b.2]) ht
        have hbn : b.2 ≠ 0 := fun z => by
          rw [z] at hn
          exact absurd hn (by decide)
        have hus2 := st _ _ hus
        refine ⟨us, hus2, Evl.sz_lt (by rw [List.length_map] at hjk; omega), fun b' o e => ?_, us ++ [.ref t], upd_same, by rw [List.length_append]; show _ + 1 ≤ _; omega, ?_⟩
        · rw [upd_ne (ne_of_none e hD2)]
          exact st _ _ (sm _ _ e)
        · refine All2.app (hu.imp fun _ _ r => (r.same st).put hus2) ?_
          have : ([b].filter fun p => decide (p.2 ≠ 0)) = [b] := by simp [hbn]
          rw [this]
          exact .cons (PrT.put hus2 ⟨t, rfl, SqT.of upd_same⟩) .nil
      · refine ⟨sm, us, hus, by omega, ?_⟩
        have hbz : b.2 = 0 := Decidable.byContradiction fun z => hn (by
          have : ¬ (V.int b.2 = V.int 0) := fun q => z (by injection q)
          simp [this])
        have : ([b].filter fun p => decide (p.2 ≠ 0)) = [] := by simp [hbz]
        rw [this, List.append_nil]
        exact hu
    · rintro H3 ⟨sm, us, hus, lu, hu⟩
      rw [l2] at hu
      rw [List.take_of_length_le (by rw [List.length_map]; exact Nat.le_refl _), bal_kinds hl hk] at hu
      refine ⟨D2, _, rfl, .inl ⟨SqL.of hus, fun p hp => ?_⟩⟩
      have sp := same_upd (o := .tup us) hp
      exact k p _ (((s1.trans s2).trans sm).trans sp) ⟨us, SqT.of upd_same, hu.imp fun _ _ r => r.same sp⟩
end
end W11
set_option Elab.async false
set_option linter.all false
set_option maxRecDepth 100000
set_option maxHeartbeats 2000000
/-! enumerate(a tuple), and enumerate of what is a list or a tuple -/
namespace WE
open PySem PySem.W PySem.Spec PyProof.Rows L2
abbrev enObj (j : Addr) : Obj := { cls := .type "enumerate", data := .fields #[.none, .bool false, .ref j, rawInt 0, .none, .none] }
set_option maxHeartbeats 4000000 in
theorem enum_new {v : Value} {o : Obj} {G : Heap → Prop} (B : Begins v o G) :
    Meets (Builtin.«enumerate.__new__» ⟨[.type "enumerate", v], []⟩) (fun _ R t => G t.heap ∧ R (.ok (.ret (.ref (t.heap.push o).objs.size))) { t with heap := (t.heap.push o).push (enObj t.heap.objs.size) }) :=
  .of_wp fun P0 w0 A0 R t k => by
    obtain ⟨hp, gl, dr, tk, os⟩ := t
    obtain ⟨g, k⟩ := k
    have subE := sub_enumerate
    have goes : ∀ {A1 : Around} {E1 : Value → Shared → Prop} {Q1 : Value → Shared → Prop}, Q1 (.ref hp.objs.size) ⟨hp.push o, gl, dr, tk, os⟩ → wpAny (model P0 w0) A1 (pyIter v) Q1 E1 ⟨hp, gl, dr, tk, os⟩ := fun q => B.iter P0 w0 _ _ ⟨hp, gl, dr, tk, os⟩ _ g q
    wp_walk using goes
    refine wpAny_stack_any fun st => wpAny_pure ?_
    split
    · rename_i c _ _ _ _ _
      cases (c == Value.type "enumerate") <;> (wp_walk using goes; exact ⟨_, rfl, k⟩)
    · wp_walk using goes
      exact ⟨_, rfl, k⟩
section
variable {prog : Program} {w : World} {A : Around} {E : Value → Shared → Prop} {s : Shared}
theorem call_enum {v : Value} {o : Obj} {G : Heap → Prop} {Q : Value → Shared → Prop} (B : Begins v o G) (g : G s.heap)
    (k : (s.heap.push o).objs.size = s.heap.objs.size + 1 → IsEnum ((s.heap.push o).push (enObj s.heap.objs.size)) (s.heap.objs.size + 1) s.heap.objs.size 0 .none → Q (.ref (s.heap.objs.size + 1)) { s with heap := (s.heap.push o).push (enObj s.heap.objs.size) }) :
    wpAny (model prog w) A (call (.type "enumerate") [v]) Q E s := by
  refine callType_new F.called_enumerate (by decide) (F.typeCall_enumerate_1 _) (F.newCall_enumerate_1 _) (fun z => F.args_object_init_2 z _) F.entry_enumerate_new (enum_new B) ⟨g, ?_⟩
  have sz : (s.heap.push o).objs.size = s.heap.objs.size + 1 := Heap.size_push ..
  have en : IsEnum ((s.heap.push o).push (enObj s.heap.objs.size)) (s.heap.objs.size + 1) s.heap.objs.size 0 .none := by
    have at_ := Heap.get?_push_size (s.heap.push o) (o := enObj s.heap.objs.size) rfl
    rw [sz] at at_
    exact at_
  show _ ∧ _
  rw [sz]
  exact ⟨⟨_, en, rfl⟩, k sz en⟩
theorem enum_end {e j t : Addr} {i : Nat} {its : Array Value} {old : Value} {Q : Option Value → Shared → Prop} (quiet : A.handled = none) (en : IsEnum s.heap e j i old) (at_ : s.heap.IsTupleIter j t i) (tp : s.heap.IsTuple t its) (no : its[i]? = none)
    (k : ∀ h', Heap.ExtBut j s.heap h' → Q none { s with heap := h' }) : wpAny (model prog w) A (pyNext (.ref e)) Q E s := by
  have ty : s.TypeIs (.ref e) "enumerate" := ⟨_, en, rfl⟩
  unfold pyNext
  refine wpAny_bind (wpAny_attempt (wpAny_callSpecial?_slot (name := Str.ofString "__next__") ty F.slot_enumerate_next (wpAny_call_entry F.slot_enumerate_next ty F.entry_enumerate_next ?_ (F.args_enumerate_next_1 _))))
  show wpAny _ _ (field (.ref e) 2 >>= _) _ _ _
  refine wpAny_bind (wpAny_field en rfl (x := .ref j) rfl (wpAny_bind (wpAny_nextOf_tuple_end quiet at_ tp no fun h' x ext ⟨o, ho, hc⟩ => ?_)))
  exact wpAny_bind (wpAny_isInstance (T := "StopIteration") (b := true) ⟨o, ho, hc⟩ isSubtype_stop (wpAny_pure (k _ ext)))
end
/-- the tuple at a, each item in a new pair -/
def IteT (K : PySem.W.Frag) (a : Addr) : It :=
  ⟨fun i H => ∃ (xs : List V) (x : V), SqT K H a xs ∧ xs[i]? = some x, fun i H v H' => ∃ T x, v = .ref T ∧ H T = none ∧ H' = upd H T (.tup [.int (i : Nat), x]) ∧ ∀ xs, SqT K H a xs → xs[i]? = some x, fun i H => ∃ xs : List V, SqT K H a xs ∧ xs.length ≤ i⟩
theorem apart {h : Heap} {a b : Addr} {x y : String} (h1 : ∃ o, h.get? a = some o ∧ o.cls = .type x) (h2 : ∃ o, h.get? b = some o ∧ o.cls = .type y) (n : x ≠ y) : a ≠ b := by
  rintro rfl
  obtain ⟨o1, e1, c1⟩ := h1
  obtain ⟨o2, e2, c2⟩ := h2
  rw [e1] at e2
  cases e2
  rw [c1] at c2
  injection c2 with c3
  exact n c3
theorem turn_enumT {P : Program} {w : World} {K : PySem.W.Frag} {elts : List Expr} {kk : Nat} {tpos : Pos} (a e j : Addr) :
    Turn P w K (.Tuple elts kk tpos) (IteT K a) [e, j] e (fun i h => (∃ o, IsEnum h e j ((i : Nat) : Int) o) ∧ h.IsTupleIter j a i ∧ e ≠ j) where
  mem := by simp
  obj := fun i h ⟨⟨o1, h1⟩, ⟨o2, h2, c2, d2⟩, _⟩ b hb => by
    rcases List.mem_cons.mp hb with z | z
    · subst z
      exact ⟨_, h1, fun _ q => nomatch q⟩
    · rw [List.mem_singleton.mp z]
      exact ⟨o2, h2, fun _ q => by rw [d2] at q; cases q⟩
  keep := fun i h h' st k => ⟨st.1.imp fun _ z => k e (by simp) _ z, st.2.1.at fun o z => k j (by simp) o z, st.2.2⟩
  item := by
    intro X eP eW eK calm i pins s σ H E I fps st go
    subst eP eW eK
    obtain ⟨⟨o1, h1⟩, h2, ej⟩ := st
    obtain ⟨xs, x, sq, hx⟩ := go
    obtain ⟨its, rv, tp, _⟩ := I.tuple sq
    obtain ⟨u, hu, ru⟩ := rv.get hx
    have in_e : e < s.heap.objs.size := Heap.lt_size h1
    have in_j : j < s.heap.objs.size := by
      obtain ⟨_, q, _⟩ := id h2
      exact Heap.lt_size q
    have ta : ∃ o, s.heap.get? a = some o ∧ o.cls = .type "tuple" := by
      obtain ⟨o, z1, z2, _⟩ := id tp
      exact ⟨o, z1, z2⟩
    have tj : ∃ o, s.heap.get? j = some o ∧ o.cls = .type "tuple_iterator" := by
      obtain ⟨o, z1, z2, _⟩ := id h2
      exact ⟨o, z1, z2⟩
    have aj := apart ta tj (by decide)
    have ea : e ≠ a := apart ⟨_, h1, rfl⟩ ta (by decide)
    have lt : i < its.toArray.size := by
      rw [List.size_toArray]
      exact (List.getElem?_eq_some_iff.mp hu).1
    refine wpAny_pyNext_enum_itemD (Draws.tuple (A := X.A.in1) (I.ok.hd calm) j a aj its.toArray) h1 ⟨h2, tp⟩ lt ej (by simp [ej, ea]) fun y h3 tk hy out at3 new sz kp => ?_
    obtain rfl : u = y := by
      rw [List.getElem?_toArray, hu] at hy
      exact Option.some.inj hy
    refine ⟨_, rfl, wpAny_letOwnedTupleGo_enum (s := { s with heap := h3, toks := tk + 1 }) out fun h4 en4 sb => ?_⟩
    have new4 : h4.get? s.heap.objs.size = some { cls := .type "tuple", data := .seq #[.int i tk, u] } := (sb.2 _ (Nat.ne_of_gt in_e)).trans new
    have ok4 : ObjOk X.prog X.w (upd H s.heap.objs.size (.tup [.int (i : Nat), x])) h4 s.heap.objs.size (.tup [.int (i : Nat), x]) :=
      ⟨Nat.le_trans (by show 2 ≤ 16; decide) (by decide), [.int i tk, u], .cons ⟨_, rfl⟩ (.cons ru .nil), ⟨_, new4, rfl, _, rfl⟩⟩
    have I4 : Inv X pins σ (upd H s.heap.objs.size (.tup [.int (i : Nat), x])) { s with heap := h4, toks := tk + 1 } :=
      I.turnedNew (ch := [e, j]) (fun b ob hb q => (sb.2 b fun z => hb (by simp [z])).trans (kp b ob (fun z => hb (by simp [z])) (fun z => hb (by simp [z])) q)) fps (Nat.le_refl _) ok4
    refine ⟨.ref s.heap.objs.size, _, I4, rfl, ⟨_, x, rfl, I.hok.fresh (Nat.le_refl _), rfl, fun ys hy => ?_⟩, ⟨⟨u, ?_⟩, at3.1.at fun o q => (sb.2 j ej.symm).trans q, ej⟩, fun b hb => ?_⟩
    · rw [I.tuple_inj hy sq]
      exact hx
    · rw [show ((i + 1 : Nat) : Int) = (i : Int) + 1 by omega]
      exact en4
    · have lb : b < s.heap.objs.size := by
        rcases List.mem_cons.mp hb with z | z
        · rw [z]; exact in_e
        · rw [List.mem_singleton.mp z]; exact in_j
      rw [upd_ne (Nat.ne_of_lt lb)]
      exact (fps b hb).1
  done := by
    intro X eP eW eK calm i pins s σ H E I fps st go
    subst eP eW eK
    obtain ⟨⟨o1, h1⟩, h2, ej⟩ := st
    obtain ⟨xs, sq, le⟩ := go
    obtain ⟨its, rv, tp, _⟩ := I.tuple sq
    have ll := rv.length
    obtain ⟨f0, f1, f2, f3, f4, f5⟩ := fps j (by simp)
    exact enum_end (I.ok.hd calm) h1 h2 tp (by rw [List.getElem?_toArray]; exact List.getElem?_eq_none (by omega)) fun h' eb => ⟨rfl, I.turned (t' := s.toks) (fun b o hb q => eb b o hb q) f0 f1 f3 f4 f5⟩
  self := fun A i s Q E st h => let ⟨⟨_, he⟩, _⟩ := st; wpAny_pyIter_enum he h
/-- what is a list or a tuple, by any walk that goes through it -/
def iEnumA (K : PySem.W.Frag) (ta : TA) : TI := fun σ H R => ta σ H fun vs H1 => ∃ a xs, vs = [.ref a] ∧ (SqL K H1 a xs ∨ SqT K H1 a xs) ∧ ∀ J G, Walk J xs.length G (YPair (fun i => some (.int (i : Nat))) (fun i => xs[i]?)) → (∀ H, Same H1 H → G H) → R J H1
theorem walk_enumT {K : PySem.W.Frag} {a : Addr} {xs : List V} : Walk (IteT K a) xs.length (fun H => SqT K H a xs) (YPair (fun i => some (.int (i : Nat))) (fun i => xs[i]?)) := by
  refine ⟨fun i _ lt q => ⟨xs, xs[i], q, List.getElem?_eq_getElem lt⟩, fun _ q => ⟨xs, q, Nat.le_refl _⟩, fun i H v H' _ q y => ?_⟩
  obtain ⟨T, x, h1, h2, h3, h4⟩ := y
  exact ⟨T, .int (i : Nat), x, h1, h2, h3, rfl, h4 xs q⟩
theorem seqL {K : PySem.W.Frag} {H H' : Hp} {a : Addr} {xs : List V} (s : Same H H') (h : SqL K H a xs) : SqL K H' a xs := s.seq h
theorem seqT {K : PySem.W.Frag} {H H' : Hp} {a : Addr} {xs : List V} (s : Same H H') (h : SqT K H a xs) : SqT K H' a xs := WR.Same.seqT s h
theorem pi_enumA {X : Cx} {K : PySem.W.Frag} {e : Expr} {ta : TA} {p pos tpos : Pos} {elts : List Expr} {kk : Nat} (hK : X.K = K) (hg : Gl X "enumerate") (hm : X.mg "enumerate" = none) (ha : PA X [e] ta) (one : starEach [e] X.env = [(false, eval e X.env)] := by rfl) :
    PI X (.Tuple elts kk tpos) (.Call (.Name "enumerate" p) [e] [] pos) (iEnumA K ta) := by
  subst hK
  refine ⟨fun pins s σ H R I h => ?_⟩
  refine Call_ (ld_blt I hg hm boot_enumerate (PyProof.Rows.callWith_type1 (thn (ha.run pos pins s σ H _ I h) fun us s1 ⟨vs, H1, I1, rv, q1⟩ => ?_) one rfl))
  obtain ⟨a, xs, ex, sq, k⟩ := q1
  subst ex
  obtain ⟨u, rfl, ru⟩ := vals1 rv
  cases ru
  have free : ∀ b ∈ [s1.heap.objs.size + 1, s1.heap.objs.size], FpOk X pins H1 b := fun b hb => by
    have ge : s1.heap.objs.size ≤ b := by
      rcases List.mem_cons.mp hb with z | z
      · rw [z]; exact Nat.le_succ _
      · rw [List.mem_singleton.mp z]; exact Nat.le_refl _
    exact I1.fpOk ge (I1.hok.fresh ge)
  rcases sq with sq | sq
  · obtain ⟨its, rw_, pl, _⟩ := I1.list sq
    refine call_enumerate_list pl.isList fun h2 en at_ _ kp => wpAny_pyIter_enum en ?_
    exact ⟨s1.heap.objs.size + 1, [s1.heap.objs.size + 1, s1.heap.objs.size], _, _, H1, rfl, I1.kept (t' := s1.toks) kp, turn_enum a (s1.heap.objs.size + 1) s1.heap.objs.size, ⟨⟨.none, en⟩, at_, Nat.succ_ne_self _⟩, free, k _ _ walk_enum fun _ z => seqL z sq⟩
  · obtain ⟨its, rw_, tp, _⟩ := I1.tuple sq
    refine call_enum (begins_tuple a its.toArray) tp fun sz en => wpAny_pyIter_enum en ?_
    have kp : ∀ b o, s1.heap.get? b = some o → ((s1.heap.push { cls := .type "tuple_iterator", data := .fields #[.ref a, .int 0 0] }).push (enObj s1.heap.objs.size)).get? b = some o := fun b o z => Heap.get?_push_of_some _ (Heap.get?_push_of_some _ z)
    exact ⟨s1.heap.objs.size + 1, [s1.heap.objs.size + 1, s1.heap.objs.size], _, _, H1, rfl, I1.kept (t' := s1.toks) kp, turn_enumT a (s1.heap.objs.size + 1) s1.heap.objs.size, ⟨⟨.none, en⟩, ⟨_, Heap.get?_push_of_some _ (Heap.get?_push_size _ rfl), rfl, rfl⟩, Nat.succ_ne_self _⟩, free, k _ _ walk_enumT fun _ z => seqT z sq⟩
/-- a walk through what is a list or a tuple -/
def iSeqA (K : PySem.W.Frag) (te : TE) : TI := fun σ H R => te σ H fun x H1 => ∃ a xs, x = .ref a ∧ (SqL K H1 a xs ∨ SqT K H1 a xs) ∧ ∀ J G, Walk J xs.length G (YAt xs) → (∀ H, Same H1 H → G H) → R J H1
theorem pi_seqA {X : Cx} {K : PySem.W.Frag} {tg e : Expr} {te : TE} (hK : X.K = K) (he : PE X e te) : PI X tg e (iSeqA K te) := by
  subst hK
  refine ⟨fun pins s σ H R I h => ?_⟩
  refine thn (he.run pins s σ H _ I h) fun v s1 ⟨x, H1, I1, rx, q1⟩ => ?_
  obtain ⟨a, xs, ex, sq, k⟩ := q1
  subst ex
  cases rx
  have free : ∀ b ∈ [s1.heap.objs.size], FpOk X pins H1 b := fun b hb => by
    rw [List.mem_singleton.mp hb]
    exact I1.fpOk (Nat.le_refl _) (I1.hok.fresh (Nat.le_refl _))
  rcases sq with sq | sq
  · obtain ⟨its, _, pl, _⟩ := I1.list sq
    exact wpAny_pyIter_list pl.isList ⟨s1.heap.objs.size, [s1.heap.objs.size], _, _, H1, rfl, I1.kept (t' := s1.toks) fun b o e => Heap.get?_push_of_some _ e, turn_list a _, ⟨_, Heap.get?_push_size _ rfl, rfl, rfl⟩, free, k _ _ walk_list fun _ z => seqL z sq⟩
  · obtain ⟨its, _, pl, _⟩ := I1.tuple sq
    exact wpAny_pyIter_tuple (show s1.heap.IsTuple a its.toArray from pl) ⟨s1.heap.objs.size, [s1.heap.objs.size], _, _, H1, rfl, I1.kept (t' := s1.toks) fun b o e => Heap.get?_push_of_some _ e, turn_tuple a _, ⟨_, Heap.get?_push_size _ rfl, rfl, rfl⟩, free, k _ _ walk_tup fun _ z => seqT z sq⟩
/-- an item of what is a list or a tuple -/
def rIxA (K : PySem.W.Frag) : R2 := fun x y H Q => ∃ p xs i v, x = .ref p ∧ y = .int i ∧ (SqL K H p xs ∨ SqT K H p xs) ∧ atI xs i = some v ∧ Q v H
theorem ixA {X : Cx} {K : PySem.W.Frag} (hK : X.K = K) : IxR X (rIxA K) := by
  subst hK
  intro value slice pins s σ H x y v u Q I rx ry ⟨p, xs, i, w, e1, e2, sq, at_, q⟩ hs
  rcases sq with sq | sq
  · exact ix_list value slice pins s σ H x y v u Q I rx ry ⟨p, xs, i, w, e1, e2, sq, at_, q⟩ hs
  · exact ix_tup value slice pins s σ H x y v u Q I rx ry ⟨p, xs, i, w, e1, e2, sq, at_, q⟩ hs
end WE
set_option Elab.async false
set_option linter.all false
set_option maxRecDepth 100000
set_option maxHeartbeats 600000
/-! a for through what is a list or a tuple, other things changing -/
namespace WE
open PySem PySem.W PySem.Spec PyProof.Rows L2
def iSeqC (K : PySem.W.Frag) (te : TE) : TI := fun σ H R => te σ H fun x H1 => ∃ a xs, x = .ref a ∧ ((SqL K H1 a xs ∧ R (Itl K a) H1) ∨ (SqT K H1 a xs ∧ R (Itt K a) H1))
theorem pi_seqC {X : Cx} {K : PySem.W.Frag} {tg e : Expr} {te : TE} (hK : X.K = K) (he : PE X e te) : PI X tg e (iSeqC K te) := by
  subst hK
  refine ⟨fun pins s σ H R I h => ?_⟩
  refine thn (he.run pins s σ H _ I h) fun v s1 ⟨x, H1, I1, rx, q1⟩ => ?_
  obtain ⟨a, xs, ex, sq⟩ := q1
  subst ex
  cases rx
  have free : ∀ b ∈ [s1.heap.objs.size], FpOk X pins H1 b := fun b hb => by
    rw [List.mem_singleton.mp hb]
    exact I1.fpOk (Nat.le_refl _) (I1.hok.fresh (Nat.le_refl _))
  rcases sq with ⟨sq, k⟩ | ⟨sq, k⟩
  · obtain ⟨its, _, pl, _⟩ := I1.list sq
    exact wpAny_pyIter_list pl.isList ⟨s1.heap.objs.size, [s1.heap.objs.size], _, _, H1, rfl, I1.kept (t' := s1.toks) fun b o e => Heap.get?_push_of_some _ e, turn_list a _, ⟨_, Heap.get?_push_size _ rfl, rfl, rfl⟩, free, k⟩
  · obtain ⟨its, _, pl, _⟩ := I1.tuple sq
    exact wpAny_pyIter_tuple (show s1.heap.IsTuple a its.toArray from pl) ⟨s1.heap.objs.size, [s1.heap.objs.size], _, _, H1, rfl, I1.kept (t' := s1.toks) fun b o e => Heap.get?_push_of_some _ e, turn_tuple a _, ⟨_, Heap.get?_push_size _ rfl, rfl, rfl⟩, free, k⟩
theorem for_sq {K : PySem.W.Frag} {a : Addr} {xs : List V} {H0 H : Hp} (hA : SqL K H0 a xs ∨ SqT K H0 a xs) (s : Same H0 H) {g : TG} {tb : TS} {D : Ends} {σ : L2.St} (Pv : Nat → L2.St → Hp → Prop) (h0 : Pv 0 σ H) (hS : ∀ i σ H, i ≤ xs.length → Pv i σ H → Same H0 H)
    (hs : ∀ i x σ H, xs[i]? = some x → Pv i σ H → g x σ H fun σ2 H2 => tb { D with nx := Pv (i + 1), ct := Pv (i + 1), bk := D.nx } σ2 H2) (hd : ∀ σ H, Pv xs.length σ H → D.nx σ H) :
    ∃ b us, V.ref a = .ref b ∧ ((SqL K H b us ∧ (fun J H => ∃ W : Nat → Nat → L2.St → Hp → Prop, (∃ m, W 0 m σ H) ∧ ∀ i m σ H, W i m σ H →
      (J.stop i H ∧ D.nx σ H) ∨ (J.go i H ∧ ∃ N : L2.St → Hp → Prop, (∀ σ' H', N σ' H' → ∃ m', m' < m ∧ W (i + 1) m' σ' H') ∧ ∀ x H', J.yld i H x H' → g x σ H' fun σ2 H2 => tb { D with nx := N, ct := N, bk := D.nx } σ2 H2)) (Itl K b) H) ∨
      (SqT K H b us ∧ (fun J H => ∃ W : Nat → Nat → L2.St → Hp → Prop, (∃ m, W 0 m σ H) ∧ ∀ i m σ H, W i m σ H →
      (J.stop i H ∧ D.nx σ H) ∨ (J.go i H ∧ ∃ N : L2.St → Hp → Prop, (∀ σ' H', N σ' H' → ∃ m', m' < m ∧ W (i + 1) m' σ' H') ∧ ∀ x H', J.yld i H x H' → g x σ H' fun σ2 H2 => tb { D with nx := N, ct := N, bk := D.nx } σ2 H2)) (Itt K b) H)) := by
  refine ⟨a, xs, rfl, ?_⟩
  rcases hA with h | h
  · exact .inl ⟨seqL s h, for_it walk_list Pv h0 (fun i σ H hi p => seqL (hS i σ H hi p) h) (fun i x σ H H' hi p y => by obtain ⟨rfl, hx⟩ := y; exact hs i x σ H' hx p) hd⟩
  · exact .inr ⟨seqT s h, for_it walk_tup Pv h0 (fun i σ H hi p => seqT (hS i σ H hi p) h) (fun i x σ H H' hi p y => by obtain ⟨rfl, hx⟩ := y; exact hs i x σ H' hx p) hd⟩
end WE
set_option Elab.async false
set_option linter.all false
set_option maxRecDepth 100000
set_option maxHeartbeats 1000000
namespace W11
open PySem L2 PySem.Spec PyProof.Rows WR WB
/-! ### a comprehension of two walks in which nothing else changes -/
theorem lc2_in {J1 : It} {ys : List V} {G1 : Hp → Prop} (w1 : Walk J1 ys.length G1 (YAt ys)) {g1 : TG} {tt1 : TT} {te : TE} {vs1 : List Nat} {σ2 : L2.St} {H1 H4 : Hp} {D : Addr} {acc : List V} {Nx : Hp → Prop} (v : V → V) (hD : H1 D = none) (s4 : Same H1 H4) (a4 : H4 D = some (.lst acc)) (hz : acc.length + ys.length < 40000) (hG : ∀ H, Same H1 H → G1 H)
    (hs : ∀ y ∈ ys, ∀ H, Same H1 H → ∀ Qy : V → Hp → Prop, (∀ H', Same H H' → Qy (v y) H') → ∀ Qn : Hp → Prop, g1 y (wipe σ2 vs1) H fun σ3 H5 => wipe σ3 vs1 = wipe σ2 vs1 ∧ tt1 σ3 H5 fun b H6 => if b = true then te σ3 H6 Qy else Qn H6)
    (hd : ∀ H, Same H1 H → H D = some (.lst (acc ++ ys.map v)) → Nx H) :
    ∃ W1 : Nat → Nat → Hp → Prop, (∃ m, W1 0 m H4) ∧ ∀ j k H, W1 j k H →
      (J1.stop j H ∧ Nx H) ∨ (J1.go j H ∧ ∃ Nx1 : Hp → Prop, (∀ H', Nx1 H' → ∃ k', k' < k ∧ W1 (j + 1) k' H') ∧ ∀ x H', J1.yld j H x H' → g1 x (wipe σ2 vs1) H' fun σ3 H5 => wipe σ3 vs1 = wipe σ2 vs1 ∧ tt1 σ3 H5 fun b H6 =>
        if b = true then te σ3 H6 fun y H7 => ∃ acc, H7 D = some (.lst acc) ∧ acc.length < sizeLine ∧ Nx1 (L2.upd H7 D (.lst (acc ++ [y]))) else Nx1 H6) := by
  refine ⟨fun j k H => k = ys.length - j ∧ j ≤ ys.length ∧ Same H1 H ∧ H D = some (.lst (acc ++ (ys.take j).map v)), ⟨_, rfl, Nat.zero_le _, s4, by rw [List.take_zero]; simpa using a4⟩, ?_⟩
  rintro j k H ⟨rfl, hj, sm, hDD⟩
  by_cases hlt : j < ys.length
  · right
    refine ⟨w1.goes j H hlt (hG H sm), fun H' => Same H1 H' ∧ H' D = some (.lst (acc ++ (ys.take (j + 1)).map v)), fun H' q => ⟨ys.length - (j + 1), by omega, rfl, hlt, q.1, q.2⟩, fun x H' hy => ?_⟩
    obtain ⟨rfl, hx⟩ := w1.yields j H x H' hlt (hG H sm) hy
    have ex : ys[j] = x := (List.getElem?_eq_some_iff.mp hx).2
    refine hs x (List.mem_of_getElem? hx) H' sm _ (fun H2 s2 => ⟨_, s2 _ _ hDD, ?_, ?_, ?_⟩) _
    · refine Evl.sz_lt ?_
      rw [List.length_append, List.length_map, List.length_take]
      omega
    · intro b o e
      rw [upd_ne (ne_of_none e hD)]
      exact s2 _ _ (sm _ _ e)
    · rw [upd_same, List.take_succ_eq_append_getElem hlt, ex, List.map_append, ← List.append_assoc]
      rfl
  · left
    have e : j = ys.length := by omega
    subst e
    rw [List.take_length] at hDD
    exact ⟨w1.stops H (hG H sm), hd H sm hDD⟩
theorem lc2_out {J : It} {n : Nat} {G : Hp → Prop} {Y : Nat → Hp → V → Hp → Prop} (w : Walk J n G Y) {g : TG} {tt : TT} {wi1 : TI} {g1 : TG} {tt1 : TT} {te : TE} {vs vs1 : List Nat} {σ : L2.St} {H1 : Hp} {Q : VK} (out : Nat → List V) (hG : ∀ H, Same H1 H → G H)
    (hs : ∀ i x D H H', i < n → Y i H x H' → H1 D = none → Same H1 H → H D = some (.lst (((List.range i).map out).flatten)) → ∀ Nx : Hp → Prop, (∀ H', Same H1 H' → H' D = some (.lst (((List.range i).map out).flatten ++ out i)) → Nx H') →
      g x (wipe σ vs) H' fun σ2 H2 => wipe σ2 vs = wipe σ vs ∧ tt σ2 H2 fun b H3 => if b = true then wi1 σ2 H3 fun J1 H4 => ∃ W1 : Nat → Nat → Hp → Prop, (∃ m, W1 0 m H4) ∧ ∀ j k H, W1 j k H →
      (J1.stop j H ∧ Nx H) ∨ (J1.go j H ∧ ∃ Nx1 : Hp → Prop, (∀ H', Nx1 H' → ∃ k', k' < k ∧ W1 (j + 1) k' H') ∧ ∀ x H', J1.yld j H x H' → g1 x (wipe σ2 vs1) H' fun σ3 H5 => wipe σ3 vs1 = wipe σ2 vs1 ∧ tt1 σ3 H5 fun b H6 =>
        if b = true then te σ3 H6 fun y H7 => ∃ acc, H7 D = some (.lst acc) ∧ acc.length < sizeLine ∧ Nx1 (L2.upd H7 D (.lst (acc ++ [y]))) else Nx1 H6) else Nx H3)
    (hd : ∀ D H, H1 D = none → Same H1 H → H D = some (.lst (((List.range n).map out).flatten)) → Q (.ref D) H) : tLc2 (fun _ H R => R J H) g tt wi1 g1 tt1 te vs vs1 σ H1 Q := by
  intro D hD
  refine ⟨fun i m H => m = n - i ∧ i ≤ n ∧ Same H1 H ∧ H D = some (.lst (((List.range i).map out).flatten)), ⟨_, rfl, Nat.zero_le _, fun b o e => by rw [upd_ne (ne_of_none e hD)]; exact e, by rw [upd_same]; rfl⟩, ?_⟩
  rintro i m H ⟨rfl, hi, sm, hDD⟩
  by_cases hlt : i < n
  · right
    refine ⟨w.goes i H hlt (hG H sm), fun H' => Same H1 H' ∧ H' D = some (.lst (((List.range (i + 1)).map out).flatten)), fun H' q => ⟨n - (i + 1), by omega, rfl, hlt, q.1, q.2⟩, fun x H' hy => ?_⟩
    refine hs i x D H H' hlt (w.yields i H x H' hlt (hG H sm) hy) hD sm hDD _ fun H2 s2 h2 => ⟨s2, ?_⟩
    rw [h2, List.range_succ, List.map_append, List.flatten_append]
    simp
  · left
    have e : i = n := by omega
    subst e
    exact ⟨w.stops H (hG H sm), hd D H hD sm hDD⟩
theorem pe_fldK {X : Cx} {K : PySem.W.Frag} {e : Expr} {f : Str} {pos : Pos} {ta : TE} (h : X.K = K) (he : PE X e ta) (hb : attributeBase e f X.env (eval e X.env) = eval e X.env) : PE X (.Attribute e f pos) (tFld K ta f) := by
  subst h
  exact pe_fld he hb
theorem ar_lc {wi : TI} {g : TG} {tt : TT} {te : TE} {vs : List Nat} {σ : L2.St} {H : Hp} {Q : List V → Hp → Prop}
    (h : wi σ H fun J H1 => tLc (fun _ H R => R J H) g tt te vs σ H1 fun y H2 => Q [y] H2) : tCons (tLc wi g tt te vs) tNil σ H Q := h
/-! ### the small defs that rims want -/
abbrev sFilled : Stmt := top 30
abbrev sNeedB : Stmt := top 34
abbrev sFewP : Stmt := top 39
abbrev sNexts : Stmt := top 41
structure TxR (mg : Str → Option Value) : Prop where
  words : ∃ t, mg "MOST_WORDS" = some (.int 4 t)
  places : ∃ t, mg "MOST_PLACES" = some (.int 24 t)
  range : mg "range" = none
  enum : mg "enumerate" = none
def spFilled (K : PySem.W.Frag) (C : Addr) : Sp := fun vs H Q _ => ∃ (p : Addr) (ns : List Int), vs = [.ref p] ∧ WordAt K C H p ns ∧ Q (.bl (decide (0 < (ns.length : Int)))) H
def spNeedB (K : PySem.W.Frag) : Sp := fun vs H Q _ => ∃ (a : Addr) (ns : List Int), vs = [.ref a] ∧ SqL K H a (iv ns) ∧ ns.length ≤ 1000 ∧ Lts ns ∧ Fr.bal ns = [] ∧ ∀ H', Same H H' → Q .non H'
def spFewP : Sp := fun vs H Q _ => ∃ n : Int, vs = [.int n] ∧ n ≤ 24 ∧ Q .non H
/-- the places that stand behind each one, from place f on -/
def nxF (f : Nat) : List (List Int) → List Int
  | [] => []
  | w :: r => ((List.range w.length).map fun (t : Nat) => (f : Int) + (((t + 1) % w.length : Nat) : Int)) ++ nxF (f + w.length) r
theorem nxF_len : ∀ (ws : List (List Int)) (f : Nat), (nxF f ws).length = ws.flatten.length
  | [], _ => rfl
  | w :: r, f => by
    unfold nxF
    rw [List.length_append, nxF_len r, List.flatten_cons, List.length_append, List.length_map, List.length_range]
theorem nxF_snoc : ∀ (ws : List (List Int)) (w : List Int) (f : Nat), nxF f (ws ++ [w]) = nxF f ws ++ ((List.range w.length).map fun (t : Nat) => ((f + ws.flatten.length : Nat) : Int) + (((t + 1) % w.length : Nat) : Int))
  | [], w, f => by simp [nxF]
  | a :: r, w, f => by
    rw [List.cons_append]
    unfold nxF
    rw [nxF_snoc r w, List.append_assoc, List.flatten_cons, List.length_append]
    congr 3
    funext t
    congr 2
    omega
theorem nxF_take {ws : List (List Int)} {i : Nat} {w : List Int} (h : ws[i]? = some w) : nxF 0 (ws.take (i + 1)) = nxF 0 (ws.take i) ++ ((List.range w.length).map fun (t : Nat) => (((ws.take i).flatten.length : Nat) : Int) + (((t + 1) % w.length : Nat) : Int)) := by
  have hi := (List.getElem?_eq_some_iff.mp h).1
  have e := (List.getElem?_eq_some_iff.mp h).2
  rw [List.take_succ_eq_append_getElem hi, e, nxF_snoc, Nat.zero_add]
theorem flat_take {ws : List (List Int)} {i : Nat} {w : List Int} (h : ws[i]? = some w) : (ws.take i).flatten.length + w.length ≤ ws.flatten.length := by
  have hi := (List.getElem?_eq_some_iff.mp h).1
  have e := (List.getElem?_eq_some_iff.mp h).2
  have s : ws = ws.take i ++ (w :: ws.drop (i + 1)) := by
    rw [← e, List.getElem_cons_drop, List.take_append_drop]
  have := congrArg (fun z => z.flatten.length) s
  simp only [List.flatten_append, List.flatten_cons, List.length_append] at this
  omega
/-- words that stand at these places -/
def Wds (K : PySem.W.Frag) (C : Addr) (H : Hp) (xs : List Addr) (ws : List (List Int)) : Prop := All2 (fun p ns => WordAt K C H p ns) xs ws
theorem Wds.same {K : PySem.W.Frag} {C : Addr} {H H' : Hp} {xs : List Addr} {ws : List (List Int)} (h : Wds K C H xs ws) (s : Same H H') : Wds K C H' xs ws := h.imp fun _ _ r => r.same s
def spNexts (K : PySem.W.Frag) (C : Addr) : Sp := fun vs H Q _ => ∃ (a : Addr) (xs : List Addr) (ws : List (List Int)), vs = [.ref a] ∧ SqE K H a (xs.map V.ref) ∧ Wds K C H xs ws ∧ ws.length ≤ 4 ∧ (∀ w ∈ ws, w ≠ []) ∧ ws.flatten.length ≤ 24 ∧ NewB K H Q (iv (nxF 0 ws))
section
variable {P : Program} {w : World} {K : PySem.W.Frag} {mg : Str → Option Value} {base : Heap} {C : Addr}
theorem scFilled : FnScope ["value"] ["value"] (defScope sFilled) := ⟨rfl, rfl, rfl, by decide +kernel, rfl, by decide +kernel, by decide +kernel⟩
theorem ok_filled {f : Addr} {fd : FuncData} (F : Fun K "is_filled" "is_filled" sFilled f fd) (T : TxW K mg C) : FnOk P w K mg base CX0 1 f fd ["value"] (spFilled K C) := by
  refine F.ok scFilled (fun vs H Q E h => ?_) (fun cdv A outer s H vs Q E hr h => ?_)
  · obtain ⟨p, ns, rfl, _⟩ := h
    rfl
  · obtain ⟨p, ns, rfl, W1, k⟩ := h
    refine ⟨_, pss_one (ps_ret (pe_and (pe_callB call_isi (by rfl) T.isin (by decide +kernel) (pa_cons (pv 0) (pa_cons (pe_glob (v := .ref C) (by rfl) T.mgW rfl) pa_nil)))
      (pe_one (pe_cmpR op_gt (pe_fld (pv 0) rfl) pe_int (nomark _))))), ?_⟩
    refine ⟨_, rfl, _, _, _, _, _, rfl, .own C, W1.tyx T, kit_self C, _, rfl, ?_⟩
    refine iteT ?_
    obtain ⟨dx, tl, tk, ks, h1, h2, h3, h4⟩ := W1
    exact ⟨_, rfl, p, C, dx, _, _, rfl, h1, T.cl, T.nN, wf_length, _, _, rfl, rfl, k⟩
theorem scFewP : FnScope ["many"] ["many"] (defScope sFewP) := ⟨rfl, rfl, rfl, by decide +kernel, rfl, by decide +kernel, by decide +kernel⟩
theorem ok_fewP {f : Addr} {fd : FuncData} (F : Fun K "need_few_places" "need_few_places" sFewP f fd) (T : TxR mg) : FnOk P w K mg base CX0 1 f fd ["many"] spFewP := by
  refine F.ok scFewP (fun vs H Q E h => ?_) (fun cdv A outer s H vs Q E hr h => ?_)
  · obtain ⟨n, rfl, _⟩ := h
    rfl
  · obtain ⟨n, rfl, hn, k⟩ := h
    obtain ⟨tk, mM⟩ := T.places
    refine ⟨_, pss_one (ps_if (pt_cmpR op_gt (pv 0) (pe_glob (v := .int 24) (by rfl) mM ⟨_, rfl⟩) (nomark _)) (pss_one ps_never) pss_nil), ?_⟩
    refine ⟨_, rfl, _, _, rfl, rfl, _, rfl, ?_⟩
    exact iteF' (decide_eq_false (by omega)) k
theorem scNeedB : FnScope ["letters", "pairs"] ["letters"] (defScope sNeedB) := ⟨rfl, rfl, rfl, by decide +kernel, rfl, by decide +kernel, by decide +kernel⟩
theorem ok_needB {f : Addr} {fd : FuncData} (F : Fun K "need_balanced" "need_balanced" sNeedB f fd) (GB : Cal P w K mg base "balance_of" 2 ["letters"] (spBalOf K)) : FnOk P w K mg base CX0 3 f fd ["letters"] (spNeedB K) := by
  refine F.ok scNeedB (fun vs H Q E h => ?_) (fun cdv A outer s H vs Q E hr h => ?_)
  · obtain ⟨a, ns, rfl, _⟩ := h
    rfl
  · obtain ⟨a, ns, rfl, hA, hlen, hl, hb, k⟩ := h
    refine ⟨_, pss_cons (ps_set (i := 1) scNeedB.nd rfl (Or.inl rfl) (pe_cal GB hr (by decide) (by rfl) (pa_cons (pv 0) pa_nil)))
      (pss_one (ps_if (pt_truth (pv 1) (by intro _; rfl)) (pss_one ps_never) pss_nil)), ?_⟩
    refine ⟨_, rfl, a, ns, rfl, hA, hlen, hl, fun p H1 s1 hB => ?_⟩
    rw [hb] at hB
    obtain ⟨vs, h1, h2⟩ := hB
    cases h2
    refine at_set ?_
    try dsimp only
    exact ⟨_, rfl, _, .inr (.inl ⟨_, h1, rfl⟩), iteF (k H1 s1)⟩
abbrev nNexts : List Str := ["words", "nexts", "word", "first", "at"]
theorem scNexts : FnScope nNexts ["words"] (defScope sNexts) := ⟨rfl, rfl, rfl, by decide +kernel, rfl, by decide +kernel, by decide +kernel⟩
theorem ok_nexts {f : Addr} {fd : FuncData} (F : Fun K "nexts_of" "nexts_of" sNexts f fd) (T : TxW K mg C) (TA : TxA mg) (R : TxR mg) : FnOk P w K mg base CX0 1 f fd ["words"] (spNexts K C) := by
  refine F.ok scNexts (fun vs H Q E h => ?_) (fun cdv A outer s H vs Q E hr h => ?_)
  · obtain ⟨a, xs, ws, rfl, _⟩ := h
    rfl
  · obtain ⟨a, xs, ws, rfl, hA, hW, l4, hne, l24, k⟩ := h
    refine ⟨_, pss_cons (ps_set (i := 1) scNexts.nd rfl (Or.inl rfl) (pe_lst pa_nil))
      (pss_cons (ps_for PassesOwn.never rfl (WE.pi_seqC (K := K) rfl (pv 0)) (pg_name (i := 2) scNexts.nd rfl (Or.inr rfl))
        (pss_cons (ps_set (i := 3) scNexts.nd rfl (Or.inr rfl) (pe_callB call_len_seq (by rfl) TA.len PySem.boot_len (pa_cons (pv 1) pa_nil)))
        (pss_one (ps_expr (pe_bm PySem.F.plainAttrs_list PySem.F.slot_list_extend PySem.F.type_list_extend mt_extend (pv 1) (pa_cons (pe_lc (own := [("at", 4)]) (g := gName 4) (tt := tYes) rfl scNexts.nd (pi_range1 (by rfl) R.range (pa_cons (pe_fld (pv 2) rfl) pa_nil))
          (blkOk_by (N := nNexts) (sc := defScope sNexts) (by decide +kernel)) (fun _ _ _ _ _ => pg_name (i := 4) scNexts.nd rfl (Or.inl rfl)) (fun _ _ _ _ _ => pts_nil)
          (fun _ _ _ _ _ => pe_op op_add (pv 3) (pe_op op_mod (pe_op op_add (pv 4) pe_int) (pe_fldK (K := K) rfl (pv 2) rfl)))) pa_nil))))))
      (pss_one (ps_ret (pe_callTy call_tupB (by rfl) TA.tuple (by decide +kernel) (pa_cons (pv 1) pa_nil))))), ?_⟩
    refine ⟨Nat.zero_le _, fun l hl0 => ?_⟩
    have s0 := same_upd (o := .lst []) hl0
    refine ⟨_, rfl, WE.for_sq (K := K) (a := a) (xs := xs.map V.ref) hA s0 (fun i σ H' => ∃ v2 v3 : Option V, σ = [some (.ref a), some (.ref l), v2, v3, none] ∧ Same H H' ∧ H' l = some (.lst (iv (nxF 0 (ws.take i)))))
      ⟨none, none, rfl, s0, upd_same⟩ (fun i σ H1 _ ⟨_, _, _, s, _⟩ => s) ?_ ?_⟩
    · rintro i y σ H1 hi ⟨v2, v3, rfl, sm, hL⟩
      obtain ⟨q, hq, rfl⟩ : ∃ q, xs[i]? = some q ∧ y = V.ref q := by
        rw [List.getElem?_map] at hi
        cases e : xs[i]? with
        | none => rw [e] at hi; cases hi
        | some q => rw [e] at hi; exact ⟨q, rfl, (Option.some.inj hi).symm⟩
      obtain ⟨u, hu, Wq⟩ := hW.at hq
      have Wq := Wq.same sm
      have hft := flat_take hu
      have hup : 0 < u.length := List.length_pos_iff.mpr (hne u (List.mem_of_getElem? hu))
      refine ⟨_, rfl, l, _, rfl, .inl (SqL.of hL), ?_⟩
      refine at_set ?_
      try dsimp only
      have el : ((iv (nxF 0 (ws.take i))).length : Int) = (((ws.take i).flatten.length : Nat) : Int) := by rw [List.length_map, nxF_len]
      rw [el]
      refine ⟨_, rfl, .inl ⟨rfl, _, SqL.of hL⟩, ?_⟩
      refine ar_lc ?_
      obtain ⟨dx, tl, tk, ks, w1, _⟩ := id Wq
      refine ⟨_, rfl, q, C, dx, _, _, rfl, w1, T.cl, T.nN, wf_length, _, rfl, by omega, by omega, fun D hD => ?_⟩
      have sD := same_upd (o := .lst []) hD
      refine lc_range (lo := 0) (n := ((u.length : Nat) : Int).toNat) (fun j H' => Same H1 H' ∧ H' D = some (.lst (iv ((List.range j).map fun (t : Nat) => (((ws.take i).flatten.length : Nat) : Int) + (((t + 1) % u.length : Nat) : Int))))) ⟨sD, upd_same⟩ ?_ ?_
      · rintro j H2 hj ⟨s2, hDD⟩
        rw [Int.toNat_natCast] at hj
        have w2 := s2 _ _ w1
        refine ⟨rfl, yes_te ?_⟩
        refine ⟨_, rfl, _, rfl, _, _, rfl, rfl, _, rfl, q, C, dx, _, _, rfl, w2, T.cl, T.nN, wf_length, _, _, rfl, rfl, by omega, _, _, rfl, rfl, ?_⟩
        refine ⟨_, hDD, Evl.sz_lt (by rw [List.length_map, List.length_map, List.length_range]; omega), fun b o e => ?_, ?_⟩
        · rw [upd_ne (ne_of_none e hD)]
          exact s2 _ _ e
        · rw [upd_same, List.range_succ, List.map_append]
          unfold iv
          rw [List.map_append]
          have ev : ((0 : Int) + (j : Nat) + 1) % ((u.length : Nat) : Int) = (((j + 1) % u.length : Nat) : Int) := by
            rw [Int.natCast_emod]
            congr 1
            omega
          exact congrArg (fun z => some (HO.lst (_ ++ [V.int ((((ws.take i).flatten.length : Nat) : Int) + z)]))) ev
      · rintro H2 ⟨s2, hDD⟩
        rw [Int.toNat_natCast] at hDD
        have hL2 := s2 _ _ hL
        refine ⟨l, D, _, _, rfl, rfl, hL2, hDD, Evl.sz_of (by rw [List.length_map, List.length_map, List.length_map, List.length_range, nxF_len]; omega), ?_⟩
        refine ⟨_, _, rfl, same_put (sm.trans s2) hl0, ?_⟩
        rw [upd_same, nxF_take hu]
        unfold iv
        rw [List.map_append]
    · rintro σ H1 ⟨v2, v3, rfl, sm, hL⟩
      have e : ws.take (xs.map V.ref).length = ws := List.take_of_length_le (by rw [List.length_map, hW.length]; exact Nat.le_refl _)
      rw [e] at hL
      refine ⟨_, rfl, l, _, rfl, .inl ⟨SqL.of hL, fun t H2 s2 B2 => k t H2 (sm.trans s2) B2⟩⟩
end
end W11
set_option Elab.async false
set_option linter.all false
set_option maxRecDepth 100000
set_option maxHeartbeats 1000000
namespace W11
open PySem L2 PySem.Spec PyProof.Rows WR WB
theorem sqw_new {K : PySem.W.Frag} {H0 H : Hp} {a : Addr} {xs : List V} {Q : VK} (hS : SqW K H0 a xs) (s : Same H0 H) (k : ∀ tw H5, Same H H5 → SqB K H5 tw xs → Q (.ref tw) H5) : (SqL K H a xs ∧ NewB K H Q xs) ∨ (SqB K H a xs ∧ Q (.ref a) H) := by
  rcases hS with h | h
  · exact .inl ⟨s.seq h, fun tw H5 s5 B5 => k tw H5 s5 B5⟩
  · exact .inr ⟨SqB.same s h, k a H (Same.refl _) (SqB.same s h)⟩
abbrev sInitR : Stmt := inClass (top 40) 0
theorem pi_tupK {X : Cx} {K : PySem.W.Frag} {tg l : Expr} {tl : TE} (h : X.K = K) (hl : PE X l tl) : PI X tg l (iTup K tl) := by
  subst h
  exact pi_tup hl
theorem nx_lc2 {wi wi1 : TI} {g g1 gg : TG} {tt tt1 : TT} {te : TE} {vs vs1 : List Nat} {D : Ends} {σ : L2.St} {H : Hp} {Cc : TS} {b1 b2 : L2.St → Hp → Prop} {rt : VK}
    (h : wi σ H fun J H1 => tLc2 (fun _ H R => R J H) g tt wi1 g1 tt1 te vs vs1 σ H1 fun z H4 => gg z σ H4 (Cc D)) : tNext { nx := tSeq (tAsg (tLc2 wi g tt wi1 g1 tt1 te vs vs1) gg) Cc D, rt := rt, bk := b1, ct := b2 } σ H := h
theorem nx_not_lc {r : List V → Hp → VK → Prop} {wi : TI} {g : TG} {tt : TT} {te : TE} {vs : List Nat} {D : Ends} {σ : L2.St} {H : Hp} {A B Cc : TS} {b1 b2 : L2.St → Hp → Prop} {rt : VK}
    (h : wi σ H fun J H1 => tLc (fun _ H R => R J H) g tt te vs σ H1 fun x H2 => r [x] H2 fun v H3 => ∃ c, v = .bl c ∧ if (!c) = true then A { D with nx := Cc D } σ H3 else B { D with nx := Cc D } σ H3) :
    tNext { nx := tSeq (tIfS (tNot (fun σ H Q => tCB r (tCons (tLc wi g tt te vs) tNil) σ H fun x H1 => ∃ c, x = .bl c ∧ Q c H1)) A B) Cc D, rt := rt, bk := b1, ct := b2 } σ H := h
theorem sq_fld {K : PySem.W.Frag} {ta tv : TE} {f : Str} {Cc : TS} {D : Ends} {σ : L2.St} {H : Hp} (h : tv σ H fun y H1 => sFld K ta (fun _ H Q => Q y H) f { D with nx := Cc D } σ H1) : tSeq (sFld K ta tv f) Cc D σ H := h
theorem cb_lc2 {r : List V → Hp → VK → Prop} {wi wi1 : TI} {g g1 : TG} {tt tt1 : TT} {te : TE} {vs vs1 : List Nat} {σ : L2.St} {H : Hp} {Q : VK}
    (h : wi σ H fun J H1 => tLc2 (fun _ H R => R J H) g tt wi1 g1 tt1 te vs vs1 σ H1 fun y H2 => r [y] H2 Q) : tCB r (tCons (tLc2 wi g tt wi1 g1 tt1 te vs vs1) tNil) σ H Q := h
theorem flat_to {ws : List (List Int)} {i : Nat} (h : i ≤ ws.length) : ((List.range i).map fun i => iv (ws.getD i [])).flatten = iv (ws.take i).flatten := by
  have e : (List.range i).map (fun i => ws.getD i []) = ws.take i := by
    refine List.ext_getElem (by rw [List.length_map, List.length_range, List.length_take]; omega) fun j h1 h2 => ?_
    rw [List.length_take] at h2
    rw [List.getElem_map, List.getElem_range, List.getElem_take, List.getD_eq_getElem?_getD, List.getElem?_eq_getElem (by omega)]
    rfl
  rw [← e]
  unfold iv
  rw [List.map_flatten, List.map_map]
  rfl
def rf (tw tl : Addr) (n b : Nat) (sh : Bool) (th tn : Addr) : List (Str × V) := [("words", .ref tw), ("letters", .ref tl), ("many", .int (n : Int)), ("bands", .int (b : Int)), ("is_short", .bl sh), ("homes", .ref th), ("nexts", .ref tn)]
theorem pr1 {tw : Addr} : putF "words" (.ref tw) ([] : List (Str × V)) = ([("words", .ref tw)] : List (Str × V)) := by
  rfl
theorem pr2 {tw : Addr} {tl : Addr} : putF "letters" (.ref tl) ([("words", .ref tw)] : List (Str × V)) = ([("words", .ref tw), ("letters", .ref tl)] : List (Str × V)) := by
  rw [pf_ne (show ¬ (("words" : Str) = "letters") by decide +kernel)]
  rfl
theorem pr3 {tw : Addr} {tl : Addr} {n : Nat} : putF "many" (.int (n : Int)) ([("words", .ref tw), ("letters", .ref tl)] : List (Str × V)) = ([("words", .ref tw), ("letters", .ref tl), ("many", .int (n : Int))] : List (Str × V)) := by
  rw [pf_ne (show ¬ (("words" : Str) = "many") by decide +kernel), pf_ne (show ¬ (("letters" : Str) = "many") by decide +kernel)]
  rfl
theorem pr4 {tw : Addr} {tl : Addr} {n : Nat} {b : Nat} : putF "bands" (.int (b : Int)) ([("words", .ref tw), ("letters", .ref tl), ("many", .int (n : Int))] : List (Str × V)) = ([("words", .ref tw), ("letters", .ref tl), ("many", .int (n : Int)), ("bands", .int (b : Int))] : List (Str × V)) := by
  rw [pf_ne (show ¬ (("words" : Str) = "bands") by decide +kernel), pf_ne (show ¬ (("letters" : Str) = "bands") by decide +kernel), pf_ne (show ¬ (("many" : Str) = "bands") by decide +kernel)]
  rfl
theorem pr5 {tw : Addr} {tl : Addr} {n : Nat} {b : Nat} {sh : Bool} : putF "is_short" (.bl sh) ([("words", .ref tw), ("letters", .ref tl), ("many", .int (n : Int)), ("bands", .int (b : Int))] : List (Str × V)) = ([("words", .ref tw), ("letters", .ref tl), ("many", .int (n : Int)), ("bands", .int (b : Int)), ("is_short", .bl sh)] : List (Str × V)) := by
  rw [pf_ne (show ¬ (("words" : Str) = "is_short") by decide +kernel), pf_ne (show ¬ (("letters" : Str) = "is_short") by decide +kernel), pf_ne (show ¬ (("many" : Str) = "is_short") by decide +kernel), pf_ne (show ¬ (("bands" : Str) = "is_short") by decide +kernel)]
  rfl
theorem pr6 {tw : Addr} {tl : Addr} {n : Nat} {b : Nat} {sh : Bool} {th : Addr} : putF "homes" (.ref th) ([("words", .ref tw), ("letters", .ref tl), ("many", .int (n : Int)), ("bands", .int (b : Int)), ("is_short", .bl sh)] : List (Str × V)) = ([("words", .ref tw), ("letters", .ref tl), ("many", .int (n : Int)), ("bands", .int (b : Int)), ("is_short", .bl sh), ("homes", .ref th)] : List (Str × V)) := by
  rw [pf_ne (show ¬ (("words" : Str) = "homes") by decide +kernel), pf_ne (show ¬ (("letters" : Str) = "homes") by decide +kernel), pf_ne (show ¬ (("many" : Str) = "homes") by decide +kernel), pf_ne (show ¬ (("bands" : Str) = "homes") by decide +kernel), pf_ne (show ¬ (("is_short" : Str) = "homes") by decide +kernel)]
  rfl
theorem pr7 {tw : Addr} {tl : Addr} {n : Nat} {b : Nat} {sh : Bool} {th : Addr} {tn : Addr} : putF "nexts" (.ref tn) ([("words", .ref tw), ("letters", .ref tl), ("many", .int (n : Int)), ("bands", .int (b : Int)), ("is_short", .bl sh), ("homes", .ref th)] : List (Str × V)) = rf tw tl n b sh th tn := by
  rw [pf_ne (show ¬ (("words" : Str) = "nexts") by decide +kernel), pf_ne (show ¬ (("letters" : Str) = "nexts") by decide +kernel), pf_ne (show ¬ (("many" : Str) = "nexts") by decide +kernel), pf_ne (show ¬ (("bands" : Str) = "nexts") by decide +kernel), pf_ne (show ¬ (("is_short" : Str) = "nexts") by decide +kernel), pf_ne (show ¬ (("homes" : Str) = "nexts") by decide +kernel)]
  rfl
/-- the number of each letter's word, from f on -/
def hmF (f : Nat) : List (List Int) → List Int
  | [] => []
  | w :: r => List.replicate w.length (f : Int) ++ hmF (f + 1) r
theorem hm_to : ∀ (ws : List (List Int)) (f : Nat), ((List.range ws.length).map fun i => iv (List.replicate (ws.getD i []).length ((f + i : Nat) : Int))).flatten = iv (hmF f ws)
  | [], f => rfl
  | w :: r, f => by
    have ih := hm_to r (f + 1)
    rw [List.length_cons, List.range_succ_eq_map, List.map_cons, List.flatten_cons, List.map_map]
    unfold hmF
    have e : (List.range r.length).map ((fun i => iv (List.replicate ((w :: r).getD i []).length ((f + i : Nat) : Int))) ∘ Nat.succ) = (List.range r.length).map fun i => iv (List.replicate (r.getD i []).length ((f + 1 + i : Nat) : Int)) := by
      refine List.map_congr_left fun i _ => ?_
      show iv (List.replicate ((w :: r).getD (i + 1) []).length ((f + (i + 1) : Nat) : Int)) = _
      rw [List.getD_cons_succ, show f + (i + 1) = f + 1 + i by omega]
    rw [e, ih]
    unfold iv
    rw [List.map_append]
    rfl
theorem all_bl {vs : List V} {ws : List (List Int)} {f : List Int → Bool} (h : All2 (fun v u => v = V.bl (f u)) vs ws) : vs = (ws.map f).map V.bl := by
  induction h with
  | nil => rfl
  | cons e _ ih => rw [e, ih]; rfl
theorem all_map (ws : List (List Int)) (f : List Int → Bool) : (ws.map f).all id = ws.all f := by
  rw [List.all_map]
  rfl
def RimsAt (K : PySem.W.Frag) (C CR : Addr) (H : Hp) (p : Addr) (xs : List Addr) (ws : List (List Int)) : Prop :=
  ∃ (dx tw tl th tn : Addr), H p = some (.ins CR dx (rf tw tl ws.flatten.length (ws.flatten.length / 2) (ws.all fun w => decide (Fr.rnd w = w)) th tn)) ∧ SqB K H tw (xs.map V.ref) ∧ Wds K C H xs ws ∧ SqB K H tl (iv ws.flatten) ∧ SqB K H th (iv (hmF 0 ws)) ∧ SqB K H tn (iv (nxF 0 ws))
/-- what may be made to rims -/
def RimOk (ws : List (List Int)) : Prop := 1 ≤ ws.length ∧ ws.length ≤ 4 ∧ (∀ w ∈ ws, w ≠ []) ∧ ws.flatten.length ≤ 24 ∧ Lts ws.flatten ∧ Fr.bal ws.flatten = []
structure TxRC (K : PySem.W.Frag) (mg : Str → Option Value) (CR : Addr) : Prop where
  cl : Cls K CR
  n1 : NoAttr K CR "words"
  n2 : NoAttr K CR "letters"
  n3 : NoAttr K CR "many"
  n4 : NoAttr K CR "bands"
  n5 : NoAttr K CR "is_short"
  n6 : NoAttr K CR "homes"
  n7 : NoAttr K CR "nexts"
  mgR : mg "Rims" = some (.ref CR)
  ca : PySem.W.findIn K (.ref CR) "__class__" = some (some (.builtin "object.__class__"))
  cm : PySem.W.mroIn K CR (.type "object") = some true
def spInitR (K : PySem.W.Frag) (C CR : Addr) : Sp := fun vs H Q _ => ∃ (H0 : Hp) (p dx a : Addr) (xs : List Addr) (ws : List (List Int)), vs = [.ref p, .ref a] ∧ Same H0 H ∧ H0 p = none ∧ H p = some (.ins CR dx []) ∧ SqW K H0 a (xs.map V.ref) ∧ Wds K C H0 xs ws ∧ RimOk ws ∧
  ∀ H', Same H0 H' → RimsAt K C CR H' p xs ws → Q .non H'
abbrev nInitR : List Str := ["self", "words", "letters", "word", "letter", "home", "_"]
section
variable {P : Program} {w : World} {K : PySem.W.Frag} {mg : Str → Option Value} {base : Heap} {C CR : Addr}
theorem scInitR : FnScope nInitR ["self", "words"] (defScope sInitR) := ⟨rfl, rfl, rfl, by decide +kernel, rfl, by decide +kernel, by decide +kernel⟩
theorem ok_initR {f : Addr} {fd : FuncData} (F : Fun K "__init__" "Rims.__init__" sInitR f fd) (T : TxW K mg C) (TC : TxRC K mg CR) (TA : TxA mg) (R : TxR mg) (GL : Cal P w K mg base "is_listed" 1 ["value"] (spListE K)) (GF : Cal P w K mg base "is_filled" 1 ["value"] (spFilled K C))
    (GP : Cal P w K mg base "need_few_places" 1 ["many"] spFewP) (GB : Cal P w K mg base "need_balanced" 3 ["letters"] (spNeedB K)) (GN : Cal P w K mg base "nexts_of" 1 ["words"] (spNexts K C)) :
    FnOk P w K mg base CX0 4 f fd ["self", "words"] (spInitR K C CR) := by
  refine F.ok scInitR (fun vs H Q E h => ?_) (fun cdv A outer s H vs Q E hr h => ?_)
  · obtain ⟨H0, p, dx, a, xs, ws, rfl, _⟩ := h
    rfl
  · obtain ⟨H0, p, dx, a, xs, ws, rfl, s0, p0, hp, hS, hW, ⟨l1, l4, hne, l24, hl, hb⟩, k⟩ := h
    obtain ⟨tW, mW⟩ := R.words
    refine ⟨_, pss_cons (ps_if (PW.pt (pw_or (pt_not (pt_val (pe_cal GL hr (by decide) (by rfl) (pa_cons (pv 1) pa_nil)))) (pw_or1 (pt_not (pt_chain op_le op_le pe_int (pe_callB call_len_seq (by rfl) TA.len PySem.boot_len (pa_cons (pv 1) pa_nil)) (pe_glob (v := .int 4) (by rfl) mW ⟨_, rfl⟩)))))) (pss_one ps_never) pss_nil)
      (pss_cons (ps_if (pt_not (pt_val (pe_callB (cr_all rfl) (by rfl) T.all (by decide +kernel) (pa_cons (pe_lc (own := [("word", 3)]) (g := gName 3) (tt := tYes) rfl scInitR.nd (WE.pi_seqA (K := K) rfl (pv 1))
          (blkOk_by (N := nInitR) (sc := defScope sInitR) (by decide +kernel)) (fun _ _ _ _ _ => pg_name (i := 3) scInitR.nd rfl (Or.inl rfl)) (fun _ _ _ _ _ => pts_nil)
          (fun _ _ _ _ _ => pe_cal GF hr (by decide) (by rfl) (pa_cons (pv 3) pa_nil))) pa_nil)))) (pss_one ps_never) pss_nil)
      (pss_cons (ps_setLc2 (i := 2) (own := [("word", 3), ("letter", 4)]) (vs1 := [4]) (g := gName 3) (tt := tYes) (g1 := gName 4) (tt1 := tYes) rfl scInitR.nd rfl rfl (sw_true rfl rfl rfl (by decide +kernel)) (WE.pi_seqA (K := K) rfl (pv 1))
          (blkOk_by (N := nInitR) (sc := defScope sInitR) (by decide +kernel)) (by decide) (fun _ _ _ _ _ => pg_name (i := 3) scInitR.nd rfl (Or.inl rfl)) (fun _ _ _ _ _ => pts_nil)
          (fun _ _ _ _ _ => pi_tupK (K := K) rfl (pe_fldK (K := K) rfl (pv 3) rfl)) (fun _ _ _ _ _ => pg_name (i := 4) scInitR.nd rfl (Or.inl rfl)) (fun _ _ _ _ _ => pts_nil) (fun _ _ _ _ _ => pv 4))
      (pss_cons (ps_expr (pe_cal GP hr (by decide) (by rfl) (pa_cons (pe_callB call_len_seq (by rfl) TA.len PySem.boot_len (pa_cons (pv 2) pa_nil)) pa_nil)))
      (pss_cons (ps_expr (pe_cal GB hr (by decide) (by rfl) (pa_cons (pv 2) pa_nil)))
      (pss_cons (ps_fld (pv 0) (pe_callTy call_tupB (by rfl) TA.tuple (by decide +kernel) (pa_cons (pv 1) pa_nil)) rfl)
      (pss_cons (ps_fld (pv 0) (pe_callTy call_tupB (by rfl) TA.tuple (by decide +kernel) (pa_cons (pv 2) pa_nil)) rfl)
      (pss_cons (ps_fld (pv 0) (pe_callB call_len_seq (by rfl) TA.len PySem.boot_len (pa_cons (pv 2) pa_nil)) rfl)
      (pss_cons (ps_fld (pv 0) (pe_op op_fdiv (pe_callB call_len_seq (by rfl) TA.len PySem.boot_len (pa_cons (pv 2) pa_nil)) pe_int) rfl)
      (pss_cons (ps_fld (pv 0) (pe_callB (cr_all rfl) (by rfl) T.all (by decide +kernel) (pa_cons (pe_lc (own := [("word", 3)]) (g := gName 3) (tt := tYes) rfl scInitR.nd (WE.pi_seqA (K := K) rfl (pv 1))
          (blkOk_by (N := nInitR) (sc := defScope sInitR) (by decide +kernel)) (fun _ _ _ _ _ => pg_name (i := 3) scInitR.nd rfl (Or.inl rfl)) (fun _ _ _ _ _ => pts_nil)
          (fun _ _ _ _ _ => pe_fldK (K := K) rfl (pv 3) rfl)) pa_nil)) rfl)
      (pss_cons (ps_fld (pv 0) (pe_callTy call_tupB (by rfl) TA.tuple (by decide +kernel) (pa_cons (pe_lc2 (own := [("home", 5), ("word", 3), ("_", 6)]) (vs1 := [6]) (g := gTup K 2 (gCons (gName 5) (gCons (gName 3) gNil))) (tt := tYes) (g1 := gName 6) (tt1 := tYes) rfl scInitR.nd (WE.pi_enumA (K := K) rfl (by rfl) R.enum (pa_cons (pv 1) pa_nil))
          (blkOk_by (N := nInitR) (sc := defScope sInitR) (by decide +kernel)) (by decide) (fun _ _ _ _ _ => pg_tup (n := 2) rfl (pgs_cons (pg_name (i := 5) scInitR.nd rfl (Or.inl rfl)) (pgs_cons (pg_name (i := 3) scInitR.nd rfl (Or.inl rfl)) pgs_nil))) (fun _ _ _ _ _ => pts_nil)
          (fun _ _ _ _ _ => pi_tupK (K := K) rfl (pe_fldK (K := K) rfl (pv 3) rfl)) (fun _ _ _ _ _ => pg_name (i := 6) scInitR.nd rfl (Or.inl rfl)) (fun _ _ _ _ _ => pts_nil) (fun _ _ _ _ _ => pv 5)) pa_nil)) rfl)
      (pss_one (ps_fld (pv 0) (pe_cal GN hr (by decide) (by rfl) (pa_cons (pv 1) pa_nil)) rfl)))))))))))), ?_⟩
    have lxw : xs.length = ws.length := hW.length
    have E0 : SqE K H0 a (xs.map V.ref) := hS.e
    refine ⟨_, rfl, a, _, rfl, E0.same s0, fun H1 s1 => ⟨_, rfl, ?_⟩⟩
    have s01 := s0.trans s1
    refine iteF ?_
    have hp1 := s1 _ _ hp
    refine ⟨_, rfl, a, _, rfl, E0.same s01, _, _, rfl, rfl, _, rfl, iteT' (decide_eq_true (by rw [List.length_map, lxw]; omega)) ⟨_, _, rfl, rfl, _, rfl, no_ne (decide_eq_true (by rw [List.length_map, lxw]; omega)) ?_⟩⟩
    refine nx_not_lc ?_
    refine ⟨_, rfl, a, _, rfl, E0.same s01, fun J G wk hG => ?_⟩
    refine lcp wk (fun _ => true) (fun _ => V.bl true) (by rw [List.length_map]; omega) (fun H2 s => hG _ s) ?_ ?_
    · intro x hx H2 s2 Qy Qn ky kn
      obtain ⟨q, hq, rfl⟩ := List.mem_map.mp hx
      obtain ⟨u, hu, Wq⟩ := All2.mem hW hq
      have up : 0 < u.length := List.length_pos_iff.mpr (hne u hu)
      refine ⟨rfl, yes_te ⟨_, rfl, q, u, rfl, Wq.same (s01.trans s2), ?_⟩⟩
      rw [decide_eq_true (show (0 : Int) < (u.length : Int) by omega)]
      exact ky rfl H2 (fun _ _ e => e)
    intro D1 H2 hD1 s2 h2
    have s02 := s01.trans s2
    have hp2 := s2 _ _ hp1
    refine ⟨D1, xs.map fun _ => true, rfl, SqL.of (by
      rw [h2, List.filter_eq_self.mpr (fun _ _ => rfl), List.map_map, List.map_map]
      rfl), ?_⟩
    have eall : (xs.map fun _ => true).all id = true := by
      rw [List.all_eq_true]
      intro b hb
      obtain ⟨_, _, rfl⟩ := List.mem_map.mp hb
      rfl
    rw [eall]
    refine ⟨_, rfl, iteF ?_⟩
    refine nx_lc2 ?_
    refine ⟨_, rfl, a, _, rfl, E0.same s02, fun J G wk hG => ?_⟩
    refine lc2_out wk (fun i => iv (ws.getD i [])) (fun H s => hG _ s) ?_ ?_
    · rintro i x D H H' hi ⟨rfl, hx⟩ hD sm hDD Nx kN
      obtain ⟨q, hq, rfl⟩ : ∃ q, xs[i]? = some q ∧ x = V.ref q := by
        rw [List.getElem?_map] at hx
        cases e : xs[i]? with
        | none => rw [e] at hx; cases hx
        | some q => rw [e] at hx; exact ⟨q, rfl, (Option.some.inj hx).symm⟩
      obtain ⟨u, hu, Wq⟩ := hW.at hq
      have eu : ws.getD i [] = u := by rw [List.getD_eq_getElem?_getD, hu]; rfl
      obtain ⟨dx1, tl, tk, ks, w1, w2, _⟩ := Wq.same s02
      refine ⟨rfl, yes_te ?_⟩
      refine ⟨_, rfl, q, C, dx1, _, _, rfl, sm _ _ w1, T.cl, T.nL, wf_letters, tl, rfl, ⟨_, WR.Same.seqT sm w2.sq⟩, ?_⟩
      have hft := flat_take hu
      refine lc2_in (walk_tup (xs := iv u)) (fun y => y) hD sm hDD ?_ (fun H s => ?_) ?_ ?_
      · rw [flat_to (by have := (List.getElem?_eq_some_iff.mp hu).1; omega)]
        rw [List.length_map, List.length_map]
        omega
      · exact WR.Same.seqT s w2.sq
      · intro y hy H2 s2 Qy ky Qn
        exact ⟨rfl, yes_te ⟨_, rfl, ky H2 (fun _ _ e => e)⟩⟩
      · intro H2 s2 h2
        refine kN H2 s2 ?_
        rw [h2, List.map_id', eu]
    intro D H3 hD s3 h3
    have eD : ((List.range (xs.map V.ref).length).map fun i => iv (ws.getD i [])).flatten = iv ws.flatten := by
      rw [List.length_map, lxw, flat_to (Nat.le_refl _), List.take_length]
    rw [eD] at h3
    refine at_set ?_
    try dsimp only
    have s03 := s02.trans s3
    have hp3 := s3 _ _ hp2
    have elen : ((iv ws.flatten).length : Int) = (ws.flatten.length : Int) := by rw [List.length_map]
    refine ⟨_, rfl, D, _, rfl, .inl (SqL.of h3), _, rfl, by rw [elen]; omega, ?_⟩
    refine ⟨_, rfl, D, ws.flatten, rfl, SqL.of h3, by omega, hl, hb, fun H4 s4 => ?_⟩
    have s04 := s03.trans s4
    have hp4 := s4 _ _ hp3
    have h4 := s4 _ _ h3
    -- its words
    refine ⟨_, rfl, a, xs.map V.ref, rfl, ?_⟩
    refine sqw_new hS s04 fun tw H5 s5 B5 => ?_
    refine ⟨_, rfl, p, CR, dx, _, rfl, s5 _ _ hp4, TC.cl, TC.n1, (by show 0 < 1000; decide), ?_⟩
    have hDp : ¬ D = p := fun c => by
      rw [c, hp4] at h4
      cases h4
    have s05 := s04.trans s5
    have h5 := s5 _ _ h4
    have hpp1 : L2.upd H5 p (.ins CR dx (putF "words" (.ref tw) [])) p = some (.ins CR dx [("words", .ref tw)]) := by rw [upd_same, pr1]
    have s06 := same_put (o := (.ins CR dx (putF "words" (.ref tw) []))) s05 p0
    have w6 := SqB.put (o := (.ins CR dx (putF "words" (.ref tw) []))) B5 (s5 _ _ hp4)
    have h6 : L2.upd H5 p (.ins CR dx (putF "words" (.ref tw) [])) D = some (.lst (iv ws.flatten)) := by rw [upd_ne (fun c => hDp c)]; exact h5
    obtain ⟨H6, eH6⟩ : ∃ H', H' = L2.upd H5 p (.ins CR dx (putF "words" (.ref tw) [])) := ⟨_, rfl⟩
    rw [← eH6] at hpp1 s06 w6 h6 ⊢
    clear eH6
    refine ⟨_, rfl, D, _, rfl, .inl ⟨SqL.of h6, fun tl H7 s7 B7 => ?_⟩⟩
    refine ⟨_, rfl, p, CR, dx, _, rfl, s7 _ _ hpp1, TC.cl, TC.n2, (by show 1 < 1000; decide), ?_⟩
    have s07 := s06.trans s7
    have w7 := SqB.same s7 w6
    have h7 := s7 _ _ h6
    have hpp2 : L2.upd H7 p (.ins CR dx (putF "letters" (.ref tl) [("words", .ref tw)])) p = some (.ins CR dx [("words", .ref tw), ("letters", .ref tl)]) := by rw [upd_same, pr2]
    have s08 := same_put (o := (.ins CR dx (putF "letters" (.ref tl) [("words", .ref tw)]))) s07 p0
    have w8 := SqB.put (o := (.ins CR dx (putF "letters" (.ref tl) [("words", .ref tw)]))) w7 (s7 _ _ hpp1)
    have b8 := SqB.put (o := (.ins CR dx (putF "letters" (.ref tl) [("words", .ref tw)]))) B7 (s7 _ _ hpp1)
    have h8 : L2.upd H7 p (.ins CR dx (putF "letters" (.ref tl) [("words", .ref tw)])) D = some (.lst (iv ws.flatten)) := by rw [upd_ne (fun c => hDp c)]; exact h7
    obtain ⟨H8, eH8⟩ : ∃ H', H' = L2.upd H7 p (.ins CR dx (putF "letters" (.ref tl) [("words", .ref tw)])) := ⟨_, rfl⟩
    rw [← eH8] at hpp2 s08 w8 b8 h8 ⊢
    clear eH8
    refine ⟨_, rfl, D, _, rfl, .inl (SqL.of h8), ?_⟩
    rw [elen]
    refine ⟨_, rfl, p, CR, dx, _, rfl, hpp2, TC.cl, TC.n3, (by show 2 < 1000; decide), ?_⟩
    have hpp3 : L2.upd H8 p (.ins CR dx (putF "many" (.int (ws.flatten.length : Nat)) [("words", .ref tw), ("letters", .ref tl)])) p = some (.ins CR dx [("words", .ref tw), ("letters", .ref tl), ("many", .int (ws.flatten.length : Nat))]) := by rw [upd_same, pr3]
    have s09 := same_put (o := (.ins CR dx (putF "many" (.int (ws.flatten.length : Nat)) [("words", .ref tw), ("letters", .ref tl)]))) s08 p0
    have w9 := SqB.put (o := (.ins CR dx (putF "many" (.int (ws.flatten.length : Nat)) [("words", .ref tw), ("letters", .ref tl)]))) w8 hpp2
    have b9 := SqB.put (o := (.ins CR dx (putF "many" (.int (ws.flatten.length : Nat)) [("words", .ref tw), ("letters", .ref tl)]))) b8 hpp2
    have h9 : L2.upd H8 p (.ins CR dx (putF "many" (.int (ws.flatten.length : Nat)) [("words", .ref tw), ("letters", .ref tl)])) D = some (.lst (iv ws.flatten)) := by rw [upd_ne (fun c => hDp c)]; exact h8
    obtain ⟨H9, eH9⟩ : ∃ H', H' = L2.upd H8 p (.ins CR dx (putF "many" (.int (ws.flatten.length : Nat)) [("words", .ref tw), ("letters", .ref tl)])) := ⟨_, rfl⟩
    rw [← eH9] at hpp3 s09 w9 b9 h9 ⊢
    clear eH9
    refine ⟨_, rfl, D, _, rfl, .inl (SqL.of h9), _, _, rfl, rfl, ⟨by decide, by decide⟩, ?_⟩
    rw [elen]
    have e2 : ((ws.flatten.length : Nat) : Int) / 2 = ((ws.flatten.length / 2 : Nat) : Int) := by omega
    try dsimp only
    rw [e2]
    refine ⟨_, rfl, p, CR, dx, _, rfl, hpp3, TC.cl, TC.n4, (by show 3 < 1000; decide), ?_⟩
    have hpp4 : L2.upd H9 p (.ins CR dx (putF "bands" (.int ((ws.flatten.length / 2) : Nat)) [("words", .ref tw), ("letters", .ref tl), ("many", .int (ws.flatten.length : Nat))])) p = some (.ins CR dx [("words", .ref tw), ("letters", .ref tl), ("many", .int (ws.flatten.length : Nat)), ("bands", .int ((ws.flatten.length / 2) : Nat))]) := by rw [upd_same, pr4]
    have s0A := same_put (o := (.ins CR dx (putF "bands" (.int ((ws.flatten.length / 2) : Nat)) [("words", .ref tw), ("letters", .ref tl), ("many", .int (ws.flatten.length : Nat))]))) s09 p0
    have wA := SqB.put (o := (.ins CR dx (putF "bands" (.int ((ws.flatten.length / 2) : Nat)) [("words", .ref tw), ("letters", .ref tl), ("many", .int (ws.flatten.length : Nat))]))) w9 hpp3
    have bA := SqB.put (o := (.ins CR dx (putF "bands" (.int ((ws.flatten.length / 2) : Nat)) [("words", .ref tw), ("letters", .ref tl), ("many", .int (ws.flatten.length : Nat))]))) b9 hpp3
    obtain ⟨HA, eHA⟩ : ∃ H', H' = L2.upd H9 p (.ins CR dx (putF "bands" (.int ((ws.flatten.length / 2) : Nat)) [("words", .ref tw), ("letters", .ref tl), ("many", .int (ws.flatten.length : Nat))])) := ⟨_, rfl⟩
    rw [← eHA] at hpp4 s0A wA bA ⊢
    clear eHA
    have sqA := E0.same s0A
    have WA : Wds K C HA xs ws := hW.same s0A
    refine sq_fld ?_
    refine cb_lc ?_
    refine ⟨_, rfl, a, _, rfl, sqA, fun J G wk hG => ?_⟩
    refine lcM wk ws (fun _ _ v u => v = V.bl (decide (Fr.rnd u = u))) (fun _ _ _ _ _ h _ => h) (fun _ _ _ _ _ _ _ h => h) (by rw [List.length_map]; omega) (by rw [List.length_map]; exact lxw) (fun H s => hG _ s) ?_ (fun x σ1 H A B k h => gName_mono k h) ?_
    · intro i x u hx hu D2 H2 hD2 _ s2 Qy ky
      obtain ⟨q, hq, rfl⟩ : ∃ q, xs[i]? = some q ∧ x = V.ref q := by
        rw [List.getElem?_map] at hx
        cases e : xs[i]? with
        | none => rw [e] at hx; cases hx
        | some q => rw [e] at hx; exact ⟨q, rfl, (Option.some.inj hx).symm⟩
      obtain ⟨u', hu', Wq⟩ := WA.at hq
      obtain rfl : u' = u := Option.some.inj (hu'.symm.trans hu)
      obtain ⟨dx1, tl1, tk, ks, w1, _⟩ := Wq.same s2
      exact ⟨rfl, _, rfl, q, C, dx1, _, _, rfl, w1, T.cl, T.nR, wf_round, ky _ H2 (fun _ _ e => e) rfl⟩
    intro D2 HB bs hD2 sB hB2 hbs
    rw [all_bl hbs] at hB2
    refine ⟨D2, _, rfl, SqL.of hB2, ?_⟩
    rw [all_map]
    have s0B := s0A.trans sB
    have wB := SqB.same sB wA
    have bB := SqB.same sB bA
    refine ⟨_, rfl, p, CR, dx, _, rfl, sB _ _ hpp4, TC.cl, TC.n5, (by show 4 < 1000; decide), ?_⟩
    have hpp5 : L2.upd HB p (.ins CR dx (putF "is_short" (.bl (ws.all fun w => decide (Fr.rnd w = w))) [("words", .ref tw), ("letters", .ref tl), ("many", .int (ws.flatten.length : Nat)), ("bands", .int ((ws.flatten.length / 2) : Nat))])) p = some (.ins CR dx [("words", .ref tw), ("letters", .ref tl), ("many", .int (ws.flatten.length : Nat)), ("bands", .int ((ws.flatten.length / 2) : Nat)), ("is_short", .bl (ws.all fun w => decide (Fr.rnd w = w)))]) := by rw [upd_same, pr5]
    have s0C := same_put (o := (.ins CR dx (putF "is_short" (.bl (ws.all fun w => decide (Fr.rnd w = w))) [("words", .ref tw), ("letters", .ref tl), ("many", .int (ws.flatten.length : Nat)), ("bands", .int ((ws.flatten.length / 2) : Nat))]))) s0B p0
    have wC := SqB.put (o := (.ins CR dx (putF "is_short" (.bl (ws.all fun w => decide (Fr.rnd w = w))) [("words", .ref tw), ("letters", .ref tl), ("many", .int (ws.flatten.length : Nat)), ("bands", .int ((ws.flatten.length / 2) : Nat))]))) wB (sB _ _ hpp4)
    have bC := SqB.put (o := (.ins CR dx (putF "is_short" (.bl (ws.all fun w => decide (Fr.rnd w = w))) [("words", .ref tw), ("letters", .ref tl), ("many", .int (ws.flatten.length : Nat)), ("bands", .int ((ws.flatten.length / 2) : Nat))]))) bB (sB _ _ hpp4)
    obtain ⟨HC, eHC⟩ : ∃ H', H' = L2.upd HB p (.ins CR dx (putF "is_short" (.bl (ws.all fun w => decide (Fr.rnd w = w))) [("words", .ref tw), ("letters", .ref tl), ("many", .int (ws.flatten.length : Nat)), ("bands", .int ((ws.flatten.length / 2) : Nat))])) := ⟨_, rfl⟩
    rw [← eHC] at hpp5 s0C wC bC ⊢
    clear eHC
    have sqC := E0.same s0C
    have WC : Wds K C HC xs ws := hW.same s0C
    try dsimp only
    refine sq_fld ?_
    refine cb_lc2 ?_
    refine ⟨_, rfl, a, _, rfl, sqC, fun J G wk hG => ?_⟩
    refine lc2_out wk (fun i => iv (List.replicate (ws.getD i []).length ((0 + i : Nat) : Int))) (fun H s => hG _ s) ?_ ?_
    · rintro i x D3 H H' hi ⟨T3, y1, y2, rfl, hT, rfl, e1, hx⟩ hD sm hDD Nx kN
      cases e1
      have hx : (xs.map V.ref)[i]? = some y2 := hx
      obtain ⟨q, hq, rfl⟩ : ∃ q, xs[i]? = some q ∧ y2 = V.ref q := by
        rw [List.getElem?_map] at hx
        cases e : xs[i]? with
        | none => rw [e] at hx; cases hx
        | some q => rw [e] at hx; exact ⟨q, rfl, (Option.some.inj hx).symm⟩
      obtain ⟨u, hu, Wq⟩ := WC.at hq
      have eu : ws.getD i [] = u := by rw [List.getD_eq_getElem?_getD, hu]; rfl
      have sT := same_upd (o := .tup [.int (i : Nat), .ref q]) hT
      have smT := sm.trans sT
      obtain ⟨dx1, tl1, tk, ks, w1, w2, _⟩ := Wq
      have hft := flat_take hu
      refine ⟨T3, _, rfl, SqT.of upd_same, rfl, _, _, rfl, _, _, rfl, rfl, ?_⟩
      refine ⟨rfl, yes_te ?_⟩
      refine ⟨_, rfl, q, C, dx1, _, _, rfl, smT _ _ w1, T.cl, T.nL, wf_letters, tl1, rfl, ⟨_, WR.Same.seqT smT w2.sq⟩, ?_⟩
      refine lc2_in (walk_tup (xs := iv u)) (fun _ => .int ((0 + i : Nat) : Int)) hD smT (sT _ _ hDD) ?_ (fun H s => WR.Same.seqT s w2.sq) ?_ ?_
      · have el : ∀ j, j ≤ ws.length → (((List.range j).map fun i => iv (List.replicate (ws.getD i []).length ((0 + i : Nat) : Int))).flatten).length = (ws.take j).flatten.length := by
          intro j
          induction j with
          | zero => intro _; rfl
          | succ j ih =>
            intro hj
            have ej : ws[j]? = some (ws.getD j []) := by
              rw [List.getD_eq_getElem?_getD, List.getElem?_eq_getElem (show j < ws.length by omega)]
              rfl
            rw [List.range_succ, List.map_append, List.flatten_append, List.length_append, ih (by omega), List.take_succ_eq_append_getElem (show j < ws.length by omega), List.flatten_append, List.length_append]
            simp only [List.map_cons, List.map_nil, List.flatten_cons, List.flatten_nil, List.append_nil, List.length_map, List.length_replicate]
            rw [List.getD_eq_getElem?_getD, List.getElem?_eq_getElem (show j < ws.length by omega)]
            rfl
        rw [el i (by have := (List.getElem?_eq_some_iff.mp hu).1; omega), List.length_map]
        omega
      · intro y hy H2 s2 Qy ky Qn
        refine ⟨rfl, yes_te ⟨_, rfl, ?_⟩⟩
        have := ky H2 (fun _ _ e => e)
        rw [Nat.zero_add] at this
        exact this
      · intro H2 s2 h2
        refine kN H2 s2 ?_
        rw [h2, eu]
        congr 3
        unfold iv
        rw [List.map_map, List.map_replicate]
        exact List.map_const ..
    intro D3 HD hD3 sD hDD
    rw [List.length_map, lxw, hm_to ws 0] at hDD
    have s0D := s0C.trans sD
    refine ⟨D3, _, rfl, .inl ⟨SqL.of hDD, fun th HE sE BE => ?_⟩⟩
    have s0E := s0D.trans sE
    have sCE := sD.trans sE
    have wE := SqB.same sCE wC
    have bE := SqB.same sCE bC
    refine ⟨_, rfl, p, CR, dx, _, rfl, sCE _ _ hpp5, TC.cl, TC.n6, (by show 5 < 1000; decide), ?_⟩
    have hpp6 : L2.upd HE p (.ins CR dx (putF "homes" (.ref th) [("words", .ref tw), ("letters", .ref tl), ("many", .int (ws.flatten.length : Nat)), ("bands", .int ((ws.flatten.length / 2) : Nat)), ("is_short", .bl (ws.all fun w => decide (Fr.rnd w = w)))])) p = some (.ins CR dx [("words", .ref tw), ("letters", .ref tl), ("many", .int (ws.flatten.length : Nat)), ("bands", .int ((ws.flatten.length / 2) : Nat)), ("is_short", .bl (ws.all fun w => decide (Fr.rnd w = w))), ("homes", .ref th)]) := by rw [upd_same, pr6]
    have s0F := same_put (o := (.ins CR dx (putF "homes" (.ref th) [("words", .ref tw), ("letters", .ref tl), ("many", .int (ws.flatten.length : Nat)), ("bands", .int ((ws.flatten.length / 2) : Nat)), ("is_short", .bl (ws.all fun w => decide (Fr.rnd w = w)))]))) s0E p0
    have wF := SqB.put (o := (.ins CR dx (putF "homes" (.ref th) [("words", .ref tw), ("letters", .ref tl), ("many", .int (ws.flatten.length : Nat)), ("bands", .int ((ws.flatten.length / 2) : Nat)), ("is_short", .bl (ws.all fun w => decide (Fr.rnd w = w)))]))) wE (sCE _ _ hpp5)
    have bF := SqB.put (o := (.ins CR dx (putF "homes" (.ref th) [("words", .ref tw), ("letters", .ref tl), ("many", .int (ws.flatten.length : Nat)), ("bands", .int ((ws.flatten.length / 2) : Nat)), ("is_short", .bl (ws.all fun w => decide (Fr.rnd w = w)))]))) bE (sCE _ _ hpp5)
    have tF := SqB.put (o := (.ins CR dx (putF "homes" (.ref th) [("words", .ref tw), ("letters", .ref tl), ("many", .int (ws.flatten.length : Nat)), ("bands", .int ((ws.flatten.length / 2) : Nat)), ("is_short", .bl (ws.all fun w => decide (Fr.rnd w = w)))]))) BE (sCE _ _ hpp5)
    obtain ⟨HF, eHF⟩ : ∃ H', H' = L2.upd HE p (.ins CR dx (putF "homes" (.ref th) [("words", .ref tw), ("letters", .ref tl), ("many", .int (ws.flatten.length : Nat)), ("bands", .int ((ws.flatten.length / 2) : Nat)), ("is_short", .bl (ws.all fun w => decide (Fr.rnd w = w)))])) := ⟨_, rfl⟩
    rw [← eHF] at hpp6 s0F wF bF tF ⊢
    clear eHF
    refine ⟨_, rfl, a, xs, ws, rfl, E0.same s0F, hW.same s0F, l4, hne, l24, fun tn HG sG BG => ?_⟩
    have s0G := s0F.trans sG
    have wG := SqB.same sG wF
    have bG := SqB.same sG bF
    have tG := SqB.same sG tF
    refine ⟨_, rfl, p, CR, dx, _, rfl, sG _ _ hpp6, TC.cl, TC.n7, (by show 6 < 1000; decide), ?_⟩
    have hpp7 : L2.upd HG p (.ins CR dx (putF "nexts" (.ref tn) [("words", .ref tw), ("letters", .ref tl), ("many", .int (ws.flatten.length : Nat)), ("bands", .int ((ws.flatten.length / 2) : Nat)), ("is_short", .bl (ws.all fun w => decide (Fr.rnd w = w))), ("homes", .ref th)])) p = some (.ins CR dx (rf tw tl ws.flatten.length (ws.flatten.length / 2) (ws.all fun w => decide (Fr.rnd w = w)) th tn)) := by rw [upd_same, pr7]
    have s0I := same_put (o := (.ins CR dx (putF "nexts" (.ref tn) [("words", .ref tw), ("letters", .ref tl), ("many", .int (ws.flatten.length : Nat)), ("bands", .int ((ws.flatten.length / 2) : Nat)), ("is_short", .bl (ws.all fun w => decide (Fr.rnd w = w))), ("homes", .ref th)]))) s0G p0
    have wI := SqB.put (o := (.ins CR dx (putF "nexts" (.ref tn) [("words", .ref tw), ("letters", .ref tl), ("many", .int (ws.flatten.length : Nat)), ("bands", .int ((ws.flatten.length / 2) : Nat)), ("is_short", .bl (ws.all fun w => decide (Fr.rnd w = w))), ("homes", .ref th)]))) wG (sG _ _ hpp6)
    have bI := SqB.put (o := (.ins CR dx (putF "nexts" (.ref tn) [("words", .ref tw), ("letters", .ref tl), ("many", .int (ws.flatten.length : Nat)), ("bands", .int ((ws.flatten.length / 2) : Nat)), ("is_short", .bl (ws.all fun w => decide (Fr.rnd w = w))), ("homes", .ref th)]))) bG (sG _ _ hpp6)
    have tI := SqB.put (o := (.ins CR dx (putF "nexts" (.ref tn) [("words", .ref tw), ("letters", .ref tl), ("many", .int (ws.flatten.length : Nat)), ("bands", .int ((ws.flatten.length / 2) : Nat)), ("is_short", .bl (ws.all fun w => decide (Fr.rnd w = w))), ("homes", .ref th)]))) tG (sG _ _ hpp6)
    have nI := SqB.put (o := (.ins CR dx (putF "nexts" (.ref tn) [("words", .ref tw), ("letters", .ref tl), ("many", .int (ws.flatten.length : Nat)), ("bands", .int ((ws.flatten.length / 2) : Nat)), ("is_short", .bl (ws.all fun w => decide (Fr.rnd w = w))), ("homes", .ref th)]))) BG (sG _ _ hpp6)
    obtain ⟨HI, eHI⟩ : ∃ H', H' = L2.upd HG p (.ins CR dx (putF "nexts" (.ref tn) [("words", .ref tw), ("letters", .ref tl), ("many", .int (ws.flatten.length : Nat)), ("bands", .int ((ws.flatten.length / 2) : Nat)), ("is_short", .bl (ws.all fun w => decide (Fr.rnd w = w))), ("homes", .ref th)])) := ⟨_, rfl⟩
    rw [← eHI] at hpp7 s0I wI bI tI nI ⊢
    clear eHI
    exact k HI s0I ⟨dx, tw, tl, th, tn, hpp7, wI, hW.same s0I, bI, tI, nI⟩
end
end W11
set_option Elab.async false
set_option linter.all false
set_option maxRecDepth 100000
set_option maxHeartbeats 2000000
/-! t == u of tuples, whatever their items' == answers. -/
namespace TE
open PySem PySem.SeqAt PySem.Spec PyProof.Rows
open AutoSeq1 (wpAny_loadPart')
section
variable {P : Program} {w : World} {A : Around} {R : Result → Shared → Prop}
/-- the whole answer -/
abbrev ans (xs ys : Array Value) (e : Nat → Bool) : Bool := (List.range (min xs.size ys.size)).all e && xs.size == ys.size
theorem tup_eq (l b : Addr) (xs ys : Array Value) (n k : Nat) (d1 d2 : Option Addr) (o1 o2 : Array (Option Value)) (e : Nat → Bool) (I : Nat → Shared → Prop)
    (step : ∀ i (h1 : i < xs.size) (h2 : i < ys.size) t, I i t → wpAny (model P w) A.in1 (eqBool xs[i] ys[i]) (fun r t' => r = e i ∧ I (i + 1) t') (fun x t' => R (.error x) t') t)
    (out : ∀ i t, I i t → R (.ok (.ret (.bool (ans xs ys e)))) t) {s : Shared} (at1 : s.heap.get? l = some { cls := .type "tuple", dict := d1, data := .seq xs n, slots := o1 }) (at2 : s.heap.get? b = some { cls := .type "tuple", dict := d2, data := .seq ys k, slots := o2 }) (start : I 0 s) :
    wpAny (model P w) A.in1 (Builtin.«tuple.__eq__» ⟨[.ref l, .ref b], []⟩) (GQ.FinOf P w A R) (fun x t => R (.error x) t) s := by
  have sub := AutoSeq1.sub_tuple_tuple
  have len : (xs.toList.zip ys.toList).length = min xs.size ys.size := by simp
  have i0 := start
  obtain ⟨hp, g, d, tk, os⟩ := s
  wp_walk using wpAny_loadPart' at1, wpAny_loadPart' at2, wpAny_forIn_list _ (fun rest b t => b.1 = none ∧ ∃ i, rest = (xs.toList.zip ys.toList).drop i ∧ (∀ j, j < i → j < min xs.size ys.size → e j = true) ∧ I i t) _
  case turn =>
    rintro ⟨y, x⟩ rest b t ⟨hb, i, hz, before, it⟩
    have lt : i < (xs.toList.zip ys.toList).length := Nat.lt_of_not_le fun h' => by
      rw [List.drop_of_length_le h'] at hz
      cases hz
    have lm : i < min xs.size ys.size := len ▸ lt
    have h1 : i < xs.size := by omega
    have h2 : i < ys.size := by omega
    rw [List.drop_eq_getElem_cons lt] at hz
    obtain ⟨pq, more⟩ := List.cons.inj hz
    obtain rfl : y = xs[i] := by simpa using congrArg Prod.fst pq
    obtain rfl : x = ys[i] := by simpa using congrArg Prod.snd pq
    refine wpAny_bind (wpAny_mono (step i h1 h2 t it) (fun r t2 q => ?_) fun _ _ z => z)
    obtain ⟨rfl, it2⟩ := q
    cases he : e i with
    | true =>
      wp_walk
      refine ⟨rfl, i + 1, more, fun j hj lj => ?_, it2⟩
      rcases Nat.lt_succ_iff_lt_or_eq.mp hj with h | rfl
      · exact before j h lj
      · exact he
    | false =>
      wp_walk
      have no : ans xs ys e = false := by
        have : (List.range (min xs.size ys.size)).all e = false := List.all_eq_false.mpr ⟨i, List.mem_range.mpr lm, by rw [he]; decide⟩
        rw [ans, this, Bool.false_and]
      have := out _ _ it2
      rw [no] at this
      exact this
  case fin =>
    rintro ⟨b1, b2⟩ t ⟨hb, i, hz, before, it⟩
    simp only at hb
    subst hb
    have ge : min xs.size ys.size ≤ i := Nat.le_of_not_lt fun h => by
      rw [List.drop_eq_getElem_cons (len ▸ h)] at hz
      cases hz
    have yes : (List.range (min xs.size ys.size)).all e = true := List.all_eq_true.mpr fun j hj => before j (by have := List.mem_range.mp hj; omega) (List.mem_range.mp hj)
    have fin := out _ _ it
    rw [ans, yes, Bool.true_and] at fin
    wp_walk
    simpa [Builtin.Tuple.tupleCompareSizes] using fin
  case h => exact ⟨rfl, 0, rfl, fun j hj => absurd hj (Nat.not_lt_zero j), i0⟩
end
end TE
set_option Elab.async false
set_option linter.all false
set_option maxRecDepth 100000
set_option maxHeartbeats 1000000
namespace W11
open PySem L2 PySem.Spec PyProof.Rows WR WB
/-! ### tuples of words, held against one another -/
section
variable {X : Cx} {C : Addr} {pins : List (Addr × Obj)} {σ : L2.St} {H : Hp} {s : Shared}
theorem vals_ints_inj : ∀ {ns ms : List Int} {us : List Value}, Vals (iv ns) us → Vals (iv ms) us → ns = ms
  | [], [], _, _, _ => rfl
  | [], _ :: _, _, .nil, h => nomatch h
  | _ :: _, [], _, h, .nil => nomatch h
  | n :: ns, m :: ms, _, .cons h1 t1, h2 => by
    cases h2 with
    | cons h3 t3 =>
      obtain ⟨t, rfl⟩ := h1
      obtain ⟨t', e⟩ := h3
      cases e
      rw [vals_ints_inj t1 t3]
theorem word_inj (I : Inv X pins σ H s) {p : Addr} {ns ms : List Int} (h1 : WordAt X.K C H p ns) (h2 : WordAt X.K C H p ms) : ns = ms := by
  obtain ⟨dx, tl, tk, ks, a1, a2, _⟩ := h1
  obtain ⟨dy, ul, uk, js, b1, b2, _⟩ := h2
  have e := Option.some.inj (a1.symm.trans b1)
  injection e with _ _ ef
  have et : tl = ul := by
    have := List.cons.inj ef
    have := Prod.mk.inj this.1
    injection this.2
  subst et
  obtain ⟨its, v1, ⟨o1, g1, _, n1, d1⟩, _⟩ := I.tuple a2.sq
  obtain ⟨its2, v2, ⟨o2, g2, _, n2, d2⟩, _⟩ := I.tuple b2.sq
  have eo := Option.some.inj (g1.symm.trans g2)
  subst eo
  have ei : its = its2 := by
    have := d1.symm.trans d2
    injection this with this
    simpa using this
  subst ei
  exact vals_ints_inj v1 v2
theorem rcW (M : EqW X.prog X.w X.K X.mg X.base C) {A : Around} (sb : Sub X 1 A) (I : Inv X pins σ H s) {a b : Addr} {ns ms : List Int} (W1 : WordAt X.K C H a ns) (W2 : WordAt X.K C H b ms) :
    wpAny (model X.prog X.w) A (richCompare .Eq (.ref a) (.ref b)) (fun r s' => r = .bool (decide (ns = ms)) ∧ Inv X pins σ H s') X.xe s := by
  obtain ⟨f, fd, F, hs, hf, hb⟩ := M.ex
  obtain ⟨dx, tl, tk, ks, ha, _⟩ := id W1
  obtain ⟨dx', tl', tk', ks', hb', _⟩ := id W2
  obtain ⟨mA, J, _⟩ := ins_get I.hok ha
  obtain ⟨mB, J', _⟩ := ins_get I.hok hb'
  obtain ⟨od, J, _⟩ := J.look
  obtain ⟨od', J', _⟩ := J'.look
  obtain ⟨m, hF⟩ := I.fr
  refine PySem.W.cmp_K (op := .Eq) (tb := .ref C) sb.room.units0 hF I.ok.mod.kin J J'.type (by simp [PySem.W.notFirst]) hs hf ?_
  have hsp : spEq X.K C [.ref a, .ref b] H (fun v H' => v = .bl (decide (ns = ms)) ∧ H' = H) E0 := ⟨a, b, ns, ms, rfl, W1, W2, rfl, rfl⟩
  have e0 : Env0 X.prog X.w X.K X.mg X.base A X.stack s H := by
    have e := I.env0
    exact ⟨by rw [sb.fr]; exact e.frames, e.mod, e.bs, e.bsz, e.funs, e.frf, e.hok, e.bare⟩
  have hl := F.len _ _ _ _ hsp
  have r2 : Vals [V.ref a, V.ref b] [Value.ref a, Value.ref b] := .cons rfl (.cons rfl .nil)
  refine wpAny_call (codeAny_mono (F.run A X.stack s H ⟨[.ref a, .ref b], []⟩ [.ref a, .ref b] [.ref a, .ref b] _ E0 sb.room e0 (by
    have := hb s [.ref a, .ref b] I.kIn (by simpa using hl)
    simpa using this) r2 hsp) fun r s' hq => ?_)
  cases r with
  | error e => exact pass0 pins σ H s e s' I hq
  | ok fl =>
    cases fl with
    | ret w =>
      obtain ⟨z, H', I', rz, ez, eH⟩ := I.after hq
      subst ez eH
      cases rz
      exact ⟨rfl, I'⟩
    | next => exact False.elim hq
    | brk => exact False.elim hq
    | cont => exact False.elim hq
theorem ebW (M : EqW X.prog X.w X.K X.mg X.base C) {A : Around} (sb : Sub X 1 A) (I : Inv X pins σ H s) {a b : Addr} {ns ms : List Int} (W1 : WordAt X.K C H a ns) (W2 : WordAt X.K C H b ms) :
    wpAny (model X.prog X.w) A (eqBool (.ref a) (.ref b)) (fun r s' => r = decide (ns = ms) ∧ Inv X pins σ H s') X.xe s := by
  by_cases hab : a = b
  · subst hab
    have e := word_inj I W1 W2
    subst e
    exact (SeqAt.EqAt.same (A := A) (s := s) (.ref a)) X.prog X.w X.xe _ ⟨(decide_eq_true rfl).symm, I⟩
  · refine GQ.eqBool_refG hab (wpAny_mono (rcW M sb I W1 W2) (fun v s' q => ⟨_, q.1, rfl, q.2⟩) fun _ _ z => z)
end
def rEqWT (K : PySem.W.Frag) (C : Addr) : R2 := fun x y H Q => ∃ (a b : Addr) (xs ys : List Addr) (ws vs : List (List Int)), x = .ref a ∧ y = .ref b ∧ SqT K H a (xs.map V.ref) ∧ SqT K H b (ys.map V.ref) ∧ Wds K C H xs ws ∧ Wds K C H ys vs ∧ Q (.bl (decide (ws = vs))) H
theorem all_same {ws vs : List (List Int)} {n m : Nat} (hn : n = ws.length) (hm : m = vs.length) : (((List.range (min n m)).all fun i => decide (ws.getD i [] = vs.getD i [])) && n == m) = decide (ws = vs) := by
  subst hn hm
  rw [Bool.eq_iff_iff, Bool.and_eq_true, List.all_eq_true, decide_eq_true_eq, beq_iff_eq]
  constructor
  · rintro ⟨h1, h2⟩
    refine List.ext_getElem h2 fun i a b => ?_
    have := of_decide_eq_true (h1 i (List.mem_range.mpr (by omega)))
    rw [List.getD_eq_getElem?_getD, List.getD_eq_getElem?_getD, List.getElem?_eq_getElem a, List.getElem?_eq_getElem b] at this
    exact this
  · rintro rfl
    exact ⟨fun i _ => decide_eq_true rfl, rfl⟩
section
variable {X : Cx} {C : Addr}
theorem op_eqWT (M : EqW X.prog X.w X.K X.mg X.base C) {j : Nat} (hr : Room j X.A) (hj : 2 ≤ j) : OpR X (compareOp .Eq) (rEqWT X.K C) := by
  intro pins s σ H x y u v Q I rx ry d
  obtain ⟨a, b, xs, ys, ws, vs, rfl, rfl, ha, hb, hW, hV, q⟩ := d
  cases rx
  cases ry
  have rm : Room 2 X.A := hr.mono hj
  obtain ⟨its, r, ⟨⟨cls, dd, data, sl⟩, ho, hc, n, hd⟩, _⟩ := I.tuple ha
  obtain ⟨its2, r2, ⟨⟨cls2, dd2, data2, sl2⟩, ho2, hc2, n2, hd2⟩, _⟩ := I.tuple hb
  simp only at hc hd hc2 hd2
  subst hc hd hc2 hd2
  have l1 : its.toArray.size = ws.length := by rw [List.size_toArray, ← r.length, List.length_map, hW.length]
  have l2 : its2.toArray.size = vs.length := by rw [List.size_toArray, ← r2.length, List.length_map, hV.length]
  have sb : Sub X 1 X.A.in1 := ⟨rm.in1, rfl⟩
  show wpAny (model X.prog X.w) X.A (richCompare .Eq (.ref a) (.ref b)) (EP X pins σ Q) X.xe s
  refine wpAny_richCompare_same_room (op := .Eq) ⟨_, ho, rfl⟩ ⟨_, ho2, rfl⟩ PySem.F.slot_tuple_eq (GQ.call_here PySem.F.slot_tuple_eq ⟨_, ho, rfl⟩ PySem.F.entry_tuple_eq (PySem.F.args_tuple_eq_2 _ _) ?_) rm.units0
  refine TE.tup_eq a b its.toArray its2.toArray n n2 dd dd2 sl sl2 (fun i => decide (ws.getD i [] = vs.getD i [])) (fun _ t => Inv X pins σ H t) (fun i h1 h2 t It => ?_) (fun i t It => ?_) ho ho2 I
  · have k1 : i < xs.length := by rw [hW.length]; omega
    have k2 : i < ys.length := by rw [hV.length]; omega
    obtain ⟨w1, hw1, Wa⟩ := hW.at (List.getElem?_eq_getElem k1)
    obtain ⟨w2, hw2, Wb⟩ := hV.at (List.getElem?_eq_getElem k2)
    obtain ⟨u1, hu1, ru1⟩ := r.get (show (xs.map V.ref)[i]? = some (V.ref xs[i]) by rw [List.getElem?_map, List.getElem?_eq_getElem k1]; rfl)
    obtain ⟨u2, hu2, ru2⟩ := r2.get (show (ys.map V.ref)[i]? = some (V.ref ys[i]) by rw [List.getElem?_map, List.getElem?_eq_getElem k2]; rfl)
    cases ru1
    cases ru2
    have e1 : its.toArray[i] = .ref xs[i] := by
      have := (List.getElem?_eq_some_iff.mp hu1).2
      simpa using this
    have e2 : its2.toArray[i] = .ref ys[i] := by
      have := (List.getElem?_eq_some_iff.mp hu2).2
      simpa using this
    rw [e1, e2, List.getD_eq_getElem?_getD, List.getD_eq_getElem?_getD, hw1, hw2]
    exact ebW M sb It Wa Wb
  · have e : TE.ans its.toArray its2.toArray (fun i => decide (ws.getD i [] = vs.getD i [])) = decide (ws = vs) := all_same l1 l2
    rw [e]
    exact ⟨(fun z => nomatch z), .bl _, H, It, rfl, q⟩
end
end W11
set_option Elab.async false
set_option linter.all false
set_option maxRecDepth 100000
set_option maxHeartbeats 1000000
namespace W11
open PySem L2 PySem.Spec PyProof.Rows WR WB
theorem rf_words {tw tl th tn : Addr} {n b : Nat} {sh : Bool} : (rf tw tl n b sh th tn).lookup ("words" : Str) = some (.ref tw) := by
  unfold rf
  exact lk_eq
theorem rf_letters {tw tl th tn : Addr} {n b : Nat} {sh : Bool} : (rf tw tl n b sh th tn).lookup ("letters" : Str) = some (.ref tl) := by
  unfold rf
  rw [lk_ne (show ¬ (("letters" : Str) = "words") by decide +kernel)]
  exact lk_eq
theorem rf_many {tw tl th tn : Addr} {n b : Nat} {sh : Bool} : (rf tw tl n b sh th tn).lookup ("many" : Str) = some (.int (n : Int)) := by
  unfold rf
  rw [lk_ne (show ¬ (("many" : Str) = "words") by decide +kernel), lk_ne (show ¬ (("many" : Str) = "letters") by decide +kernel)]
  exact lk_eq
theorem rf_bands {tw tl th tn : Addr} {n b : Nat} {sh : Bool} : (rf tw tl n b sh th tn).lookup ("bands" : Str) = some (.int (b : Int)) := by
  unfold rf
  rw [lk_ne (show ¬ (("bands" : Str) = "words") by decide +kernel), lk_ne (show ¬ (("bands" : Str) = "letters") by decide +kernel), lk_ne (show ¬ (("bands" : Str) = "many") by decide +kernel)]
  exact lk_eq
theorem rf_is_short {tw tl th tn : Addr} {n b : Nat} {sh : Bool} : (rf tw tl n b sh th tn).lookup ("is_short" : Str) = some (.bl sh) := by
  unfold rf
  rw [lk_ne (show ¬ (("is_short" : Str) = "words") by decide +kernel), lk_ne (show ¬ (("is_short" : Str) = "letters") by decide +kernel), lk_ne (show ¬ (("is_short" : Str) = "many") by decide +kernel), lk_ne (show ¬ (("is_short" : Str) = "bands") by decide +kernel)]
  exact lk_eq
theorem rf_homes {tw tl th tn : Addr} {n b : Nat} {sh : Bool} : (rf tw tl n b sh th tn).lookup ("homes" : Str) = some (.ref th) := by
  unfold rf
  rw [lk_ne (show ¬ (("homes" : Str) = "words") by decide +kernel), lk_ne (show ¬ (("homes" : Str) = "letters") by decide +kernel), lk_ne (show ¬ (("homes" : Str) = "many") by decide +kernel), lk_ne (show ¬ (("homes" : Str) = "bands") by decide +kernel), lk_ne (show ¬ (("homes" : Str) = "is_short") by decide +kernel)]
  exact lk_eq
theorem rf_nexts {tw tl th tn : Addr} {n b : Nat} {sh : Bool} : (rf tw tl n b sh th tn).lookup ("nexts" : Str) = some (.ref tn) := by
  unfold rf
  rw [lk_ne (show ¬ (("nexts" : Str) = "words") by decide +kernel), lk_ne (show ¬ (("nexts" : Str) = "letters") by decide +kernel), lk_ne (show ¬ (("nexts" : Str) = "many") by decide +kernel), lk_ne (show ¬ (("nexts" : Str) = "bands") by decide +kernel), lk_ne (show ¬ (("nexts" : Str) = "is_short") by decide +kernel), lk_ne (show ¬ (("nexts" : Str) = "homes") by decide +kernel)]
  exact lk_eq
/-- no name of a method is a field -/
theorem rf_no {tw tl th tn : Addr} {n b : Nat} {sh : Bool} {m : Str} (h : (["words", "letters", "many", "bands", "is_short", "homes", "nexts"] : List Str).all (fun x => !decide (m = x)) = true) : (rf tw tl n b sh th tn).lookup m = none := by
  have g : ∀ x ∈ (["words", "letters", "many", "bands", "is_short", "homes", "nexts"] : List Str), ¬ m = x := fun x hx => by
    have := List.all_eq_true.mp h x hx
    simpa using this
  unfold rf
  rw [lk_ne (g _ (by simp)), lk_ne (g _ (by simp)), lk_ne (g _ (by simp)), lk_ne (g _ (by simp)), lk_ne (g _ (by simp)), lk_ne (g _ (by simp)), lk_ne (g _ (by simp))]
  rfl
theorem RimsAt.same {K : PySem.W.Frag} {C CR : Addr} {H H' : Hp} {p : Addr} {xs : List Addr} {ws : List (List Int)} (h : RimsAt K C CR H p xs ws) (s : Same H H') : RimsAt K C CR H' p xs ws := by
  obtain ⟨dx, tw, tl, th, tn, h1, h2, h3, h4, h5, h6⟩ := h
  exact ⟨dx, tw, tl, th, tn, s _ _ h1, SqB.same s h2, h3.same s, SqB.same s h4, SqB.same s h5, SqB.same s h6⟩
theorem RimsAt.tyx {K : PySem.W.Frag} {mg : Str → Option Value} {C CR : Addr} {H : Hp} {p : Addr} {xs : List Addr} {ws : List (List Int)} (h : RimsAt K C CR H p xs ws) (T : TxW K mg C) (TC : TxRC K mg CR) : TyX K H (.ref p) (.ref CR) := by
  obtain ⟨dx, tw, tl, th, tn, h1, _⟩ := h
  exact .base (.ins h1 TC.cl TC.ca T.cn T.ct TC.cm)
/-! ### rims made -/
structure MkR (P : Program) (w : World) (K : PySem.W.Frag) (mg : Str → Option Value) (base : Heap) (C CR : Addr) : Prop where
  ex : ∃ (f : Addr) (fd : FuncData), Mk K CR f ∧ FnOk P w K mg base CX0 4 f fd ["self", "words"] (spInitR K C CR) ∧ Binds K fd ["self", "words"] []
def NewR (K : PySem.W.Frag) (C CR : Addr) (H : Hp) (Q : VK) (xs : List Addr) (ws : List (List Int)) : Prop := ∀ p H', Same H H' → RimsAt K C CR H' p xs ws → Q (.ref p) H'
section
variable {X : Cx} {C CR : Addr} {p pos : Pos} {e : Expr} {es : List Expr} {t : TA} {j : Nat}
theorem pe_rims {mg : Str → Option Value} (M : MkR X.prog X.w X.K X.mg X.base C CR) (T : TxRC X.K X.mg CR) (hr : Room j X.A) (hkj : 5 ≤ j) (hg : Gl X "Rims") (ha : PA X (e :: es) t)
    (he : starEach (e :: es) X.env = (false, eval e X.env) :: starEach es X.env := by rfl) (hpl : (backTo pos (starEach es X.env)).any (·.1) = false := by rfl) :
    PE X (.Call (.Name "Rims" p) (e :: es) [] pos) (tMake CR (spInitR X.K C CR) [] E0 t) := by
  obtain ⟨f, fd, M, F, hb⟩ := M.ex
  exact pe_make M F (hr.mono hkj) hg T.mgR hb .nil pass0 ha (by decide) he hpl
end
theorem rims_at {K : PySem.W.Frag} {C CR : Addr} {H1 : Hp} {q x dx : Addr} {xs : List Addr} {ws : List (List Int)} {G : Hp → Prop} {E : XK} (nx : H1 x = none) (ndx : H1 dx = none) (hq : SqW K H1 q (xs.map V.ref)) (hW : Wds K C H1 xs ws) (ok : RimOk ws) (k : ∀ H', Same H1 H' → RimsAt K C CR H' x xs ws → G H') :
    spInitR K C CR [.ref x, .ref q] (L2.upd (L2.upd H1 dx (.own x)) x (.ins CR dx [])) (fun v H2 => v = .non ∧ G H2) E := by
  have s0 : Same H1 (L2.upd (L2.upd H1 dx (.own x)) x (.ins CR dx [])) := fun b o e => by
    rw [upd_ne (ne_of_none e nx), upd_ne (ne_of_none e ndx)]
    exact e
  exact ⟨H1, x, dx, q, xs, ws, rfl, s0, nx, upd_same, hq, hW, ok, fun H' s' W' => ⟨rfl, k H' s' W'⟩⟩
/-! ### rims held against one another, and their places -/
abbrev sEqR : Stmt := inClass (top 40) 1
abbrev sNextR : Stmt := inClass (top 40) 3
abbrev sNeedPl : Stmt := top 38
def spEqR (K : PySem.W.Frag) (C CR : Addr) : Sp := fun vs H Q _ => ∃ (p q : Addr) (xs ys : List Addr) (ws us : List (List Int)), vs = [.ref p, .ref q] ∧ RimsAt K C CR H p xs ws ∧ RimsAt K C CR H q ys us ∧ Q (.bl (decide (ws = us))) H
def spNeedPl (K : PySem.W.Frag) (C CR : Addr) : Sp := fun vs H Q _ => ∃ (p : Addr) (i : Int) (xs : List Addr) (ws : List (List Int)), vs = [.ref p, .int i] ∧ RimsAt K C CR H p xs ws ∧ 0 ≤ i ∧ i < ws.flatten.length ∧ Q .non H
def spNextR (K : PySem.W.Frag) (C CR : Addr) (g : List (List Int) → List Int) : Sp := fun vs H Q _ => ∃ (p : Addr) (i : Nat) (xs : List Addr) (ws : List (List Int)), vs = [.ref p, .int (i : Int)] ∧ RimsAt K C CR H p xs ws ∧ i < ws.flatten.length ∧ ∀ z, (g ws)[i]? = some z → Q (.int z) H
theorem hmF_len : ∀ (ws : List (List Int)) (f : Nat), (hmF f ws).length = ws.flatten.length
  | [], _ => rfl
  | w :: r, f => by
    unfold hmF
    rw [List.length_append, hmF_len r, List.flatten_cons, List.length_append, List.length_replicate]
section
variable {P : Program} {w : World} {K : PySem.W.Frag} {mg : Str → Option Value} {base : Heap} {C CR : Addr}
theorem scEqR : FnScope ["self", "other"] ["self", "other"] (defScope sEqR) := ⟨rfl, rfl, rfl, by decide +kernel, rfl, by decide +kernel, by decide +kernel⟩
theorem ok_eqR {f : Addr} {fd : FuncData} (F : Fun K "__eq__" "Rims.__eq__" sEqR f fd) (T : TxW K mg C) (TC : TxRC K mg CR) (M : EqW P w K mg base C) : FnOk P w K mg base CX0 3 f fd ["self", "other"] (spEqR K C CR) := by
  refine F.ok scEqR (fun vs H Q E h => ?_) (fun cdv A outer s H vs Q E hr h => ?_)
  · obtain ⟨p, q, xs, ys, ws, us, rfl, _⟩ := h
    rfl
  · obtain ⟨p, q, xs, ys, ws, us, rfl, R1, R2, k⟩ := h
    refine ⟨_, pss_one (ps_ret (pe_and (pe_callB call_isi (by rfl) T.isin (by decide +kernel) (pa_cons (pv 1) (pa_cons (pe_glob (v := .ref CR) (by rfl) TC.mgR rfl) pa_nil)))
      (pe_one (pe_cmpR (op_eqWT M hr (by decide)) (pe_fld (pv 0) rfl) (pe_fld (pv 1) rfl) (nomark _))))), ?_⟩
    refine ⟨_, rfl, _, _, _, _, _, rfl, .own CR, R2.tyx T TC, kit_self CR, _, rfl, ?_⟩
    refine iteT ?_
    obtain ⟨dx, tw, tl, th, tn, h1, h2, h3, _⟩ := R1
    obtain ⟨dy, uw, ul, uh, un, g1, g2, g3, _⟩ := R2
    exact ⟨_, rfl, p, CR, dx, _, _, rfl, h1, TC.cl, TC.n1, rf_words, _, rfl, q, CR, dy, _, _, rfl, g1, TC.cl, TC.n1, rf_words, tw, uw, xs, ys, ws, us, rfl, rfl, h2.sq, g2.sq, h3, g3, k⟩
theorem scNeedPl : FnScope ["rims", "value"] ["rims", "value"] (defScope sNeedPl) := ⟨rfl, rfl, rfl, by decide +kernel, rfl, by decide +kernel, by decide +kernel⟩
theorem scNextR : FnScope ["self", "place"] ["self", "place"] (defScope sNextR) := ⟨rfl, rfl, rfl, by decide +kernel, rfl, by decide +kernel, by decide +kernel⟩
theorem ok_needPl {f : Addr} {fd : FuncData} (F : Fun K "need_place" "need_place" sNeedPl f fd) (TC : TxRC K mg CR) (GW : Cal P w K mg base "is_within" 2 ["value", "least", "most"] spWithin) : FnOk P w K mg base CX0 3 f fd ["rims", "value"] (spNeedPl K C CR) := by
  refine F.ok scNeedPl (fun vs H Q E h => ?_) (fun cdv A outer s H vs Q E hr h => ?_)
  · obtain ⟨p, i, xs, ws, rfl, _⟩ := h
    rfl
  · obtain ⟨p, i, xs, ws, rfl, R1, i0, i1, k⟩ := h
    refine ⟨_, pss_one (ps_if (pt_not (pt_val (pe_cal GW hr (by decide) (by rfl) (pa_cons (pv 1) (pa_cons pe_int (pa_cons (pe_op op_sub (pe_fld (pv 0) rfl) pe_int) pa_nil)))))) (pss_one ps_never) pss_nil), ?_⟩
    obtain ⟨dx, tw, tl, th, tn, h1, _⟩ := R1
    refine ⟨_, rfl, _, rfl, p, CR, dx, _, _, rfl, h1, TC.cl, TC.n3, rf_many, _, _, rfl, rfl, ?_⟩
    refine ⟨.int i, .int 0, .int ((ws.flatten.length : Int) - 1), "int", rfl, .int i, .inr ⟨_, rfl⟩, .inr ⟨_, rfl⟩, _, rfl, ?_⟩
    refine no_ne ?_ k
    show (decide ((0 : Int) ≤ i) && decide (i ≤ (ws.flatten.length : Int) - 1)) = true
    rw [decide_eq_true i0, decide_eq_true (show i ≤ (ws.flatten.length : Int) - 1 by omega)]
    rfl
theorem ok_nextR {f : Addr} {fd : FuncData} (F : Fun K "next" "Rims.next" sNextR f fd) (TC : TxRC K mg CR) (GP : Cal P w K mg base "need_place" 3 ["rims", "value"] (spNeedPl K C CR)) : FnOk P w K mg base CX0 4 f fd ["self", "place"] (spNextR K C CR (nxF 0)) := by
  refine F.ok scNextR (fun vs H Q E h => ?_) (fun cdv A outer s H vs Q E hr h => ?_)
  · obtain ⟨p, i, xs, ws, rfl, _⟩ := h
    rfl
  · obtain ⟨p, i, xs, ws, rfl, R1, i1, k⟩ := h
    refine ⟨_, pss_cons (ps_expr (pe_cal GP hr (by decide) (by rfl) (pa_cons (pv 0) (pa_cons (pv 1) pa_nil))))
      (pss_one (ps_ret (pe_ix ix_tup (pe_fld (pv 0) rfl) (pv 1) (fun _ _ => rfl)))), ?_⟩
    refine ⟨_, rfl, _, rfl, p, _, xs, ws, rfl, R1, by omega, by omega, ?_⟩
    obtain ⟨dx, tw, tl, th, tn, h1, _, _, _, _, h6⟩ := R1
    have lt : i < (nxF 0 ws).length := by rw [nxF_len]; exact i1
    exact ⟨_, rfl, p, CR, dx, _, _, rfl, h1, TC.cl, TC.n7, rf_nexts, _, rfl, tn, _, _, _, rfl, rfl, h6.sq, atI_nat (iv_get (List.getElem?_eq_getElem lt)), k _ (List.getElem?_eq_getElem lt)⟩
end
end W11
set_option Elab.async false
set_option linter.all false
set_option maxRecDepth 100000
set_option maxHeartbeats 1000000
namespace W11
open PySem L2 PySem.Spec PyProof.Rows WR WB
/-! ### rims == rims, rims != rims -/
structure EqR (P : Program) (w : World) (K : PySem.W.Frag) (mg : Str → Option Value) (base : Heap) (C CR : Addr) : Prop where
  ex : ∃ (f : Addr) (fd : FuncData), FnOk P w K mg base CX0 3 f fd ["self", "other"] (spEqR K C CR) ∧ PySem.W.findIn K (.ref CR) "__eq__" = some (some (.ref f)) ∧ PySem.W.isFn K (.ref f) = true ∧ Binds K fd ["self", "other"] []
def rEqR (K : PySem.W.Frag) (C CR : Addr) : R2 := fun x y H Q => ∃ (p q : Addr) (xs ys : List Addr) (ws us : List (List Int)), x = .ref p ∧ y = .ref q ∧ RimsAt K C CR H p xs ws ∧ RimsAt K C CR H q ys us ∧ Q (.bl (decide (ws = us))) H
def rNeR (K : PySem.W.Frag) (C CR : Addr) : R2 := fun x y H Q => ∃ (p q : Addr) (xs ys : List Addr) (ws us : List (List Int)), x = .ref p ∧ y = .ref q ∧ RimsAt K C CR H p xs ws ∧ RimsAt K C CR H q ys us ∧ Q (.bl (!decide (ws = us))) H
section
variable {X : Cx} {C CR : Addr} {pins : List (Addr × Obj)} {σ : L2.St} {H : Hp} {s : Shared}
theorem callEqR (M : EqR X.prog X.w X.K X.mg X.base C CR) {A : Around} (sb : Sub X 3 A) (I : Inv X pins σ H s) {a b : Addr} {xs ys : List Addr} {ws us : List (List Int)} (R1 : RimsAt X.K C CR H a xs ws) (R2 : RimsAt X.K C CR H b ys us) :
    ∃ f : Addr, PySem.W.findIn X.K (.ref CR) "__eq__" = some (some (.ref f)) ∧ PySem.W.isFn X.K (.ref f) = true ∧ wpAny (model X.prog X.w) A (call (.ref f) [.ref a, .ref b]) (fun r s' => r = .bool (decide (ws = us)) ∧ Inv X pins σ H s') X.xe s := by
  obtain ⟨f, fd, F, hs, hf, hb⟩ := M.ex
  refine ⟨f, hs, hf, ?_⟩
  have hsp : spEqR X.K C CR [.ref a, .ref b] H (fun v H' => v = .bl (decide (ws = us)) ∧ H' = H) E0 := ⟨a, b, xs, ys, ws, us, rfl, R1, R2, rfl, rfl⟩
  have e0 : Env0 X.prog X.w X.K X.mg X.base A X.stack s H := by
    have e := I.env0
    exact ⟨by rw [sb.fr]; exact e.frames, e.mod, e.bs, e.bsz, e.funs, e.frf, e.hok, e.bare⟩
  have hl := F.len _ _ _ _ hsp
  have r2 : Vals [V.ref a, V.ref b] [Value.ref a, Value.ref b] := .cons rfl (.cons rfl .nil)
  refine wpAny_call (codeAny_mono (F.run A X.stack s H ⟨[.ref a, .ref b], []⟩ [.ref a, .ref b] [.ref a, .ref b] _ E0 sb.room e0 (by
    have := hb s [.ref a, .ref b] I.kIn (by simpa using hl)
    simpa using this) r2 hsp) fun r s' hq => ?_)
  cases r with
  | error e => exact pass0 pins σ H s e s' I hq
  | ok fl =>
    cases fl with
    | ret w =>
      obtain ⟨z, H', I', rz, ez, eH⟩ := I.after hq
      subst ez eH
      cases rz
      exact ⟨rfl, I'⟩
    | next => exact False.elim hq
    | brk => exact False.elim hq
    | cont => exact False.elim hq
theorem op_eqR (M : EqR X.prog X.w X.K X.mg X.base C CR) {j : Nat} (hr : Room j X.A) (hj : 3 ≤ j) : OpR X (compareOp .Eq) (rEqR X.K C CR) := by
  intro pins s σ H x y u v Q I rx ry d
  obtain ⟨a, b, xs, ys, ws, us, rfl, rfl, R1, R2, hq⟩ := d
  cases rx
  cases ry
  obtain ⟨dx, tw, tl, th, tn, ha, _⟩ := id R1
  obtain ⟨dy, uw, ul, uh, un, hb', _⟩ := id R2
  obtain ⟨mA, J, _⟩ := ins_get I.hok ha
  obtain ⟨mB, J', _⟩ := ins_get I.hok hb'
  obtain ⟨od, J, _⟩ := J.look
  obtain ⟨od', J', _⟩ := J'.look
  obtain ⟨m, hF⟩ := I.fr
  have rm : Room 3 X.A := hr.mono hj
  obtain ⟨f, hs, hf, hc⟩ := callEqR M ⟨rm, rfl⟩ I R1 R2
  show wpAny (model X.prog X.w) X.A (richCompare .Eq (.ref a) (.ref b)) (EP X pins σ Q) X.xe s
  refine PySem.W.cmp_K (op := .Eq) (tb := .ref CR) rm.units0 hF I.ok.mod.kin J J'.type (by simp [PySem.W.notFirst]) hs hf (wpAny_mono hc (fun r s' q => ?_) fun _ _ z => z)
  obtain ⟨rfl, I'⟩ := q
  exact ⟨.bl _, H, I', rfl, hq⟩
theorem op_neR (M : EqR X.prog X.w X.K X.mg X.base C CR) (hne : PySem.W.findIn X.K (.ref CR) "__ne__" = some (some (.builtin "object.__ne__"))) (hmr : PySem.W.mroIn X.K CR (.type "object") = some true) {j : Nat} (hr : Room j X.A) (hj : 4 ≤ j) : OpR X (compareOp .NotEq) (rNeR X.K C CR) := by
  intro pins s σ H x y u v Q I rx ry d
  obtain ⟨a, b, xs, ys, ws, us, rfl, rfl, R1, R2, hq⟩ := d
  cases rx
  cases ry
  obtain ⟨dx, tw, tl, th, tn, ha, _⟩ := id R1
  obtain ⟨dy, uw, ul, uh, un, hb', _⟩ := id R2
  obtain ⟨mA, J, _⟩ := ins_get I.hok ha
  obtain ⟨mB, J', _⟩ := ins_get I.hok hb'
  obtain ⟨od, J, _⟩ := J.look
  obtain ⟨od', J', _⟩ := J'.look
  have rm4 : Room 4 X.A := hr.mono hj
  obtain ⟨f, hs, hf, hc⟩ := callEqR (A := X.A.in1) M ⟨rm4.in1, rfl⟩ I R1 R2
  show wpAny (model X.prog X.w) X.A (richCompare .NotEq (.ref a) (.ref b)) (EP X pins σ Q) X.xe s
  refine NeK.rc_ne (by have := rm4.in1.units0; exact this) I.kIn J J' hmr hs hf hne (wpAny_mono hc (fun r s' q => ?_) fun _ _ z => z)
  obtain ⟨rfl, I'⟩ := q
  exact ⟨_, rfl, .bl _, H, I', rfl, hq⟩
end
end W11
set_option Elab.async false
set_option linter.all false
set_option maxRecDepth 100000
set_option maxHeartbeats 1000000
namespace W11
open PySem L2 PySem.Spec PyProof.Rows WR WB
/-! ### str of rims -/
abbrev sStrR : Stmt := inClass (top 40) 2
def txtR (ws : List (List Int)) : Str := Txt.join (Str.ofString " / ") (ws.map txt)
def spStrR (K : PySem.W.Frag) (C CR : Addr) : Sp := fun vs H Q _ => ∃ (p : Addr) (xs : List Addr) (ws : List (List Int)), vs = [.ref p] ∧ RimsAt K C CR H p xs ws ∧ RimOk ws ∧ ∀ H', Same H H' → Q (.str (txtR ws)) H'
theorem all_str {vs : List V} {ws : List (List Int)} {f : List Int → Str} (h : All2 (fun v u => v = V.str (f u)) vs ws) : vs = (ws.map f).map V.str := by
  induction h with
  | nil => rfl
  | cons e _ ih => rw [e, ih]; rfl
theorem txts_len : ∀ ws : List (List Int), ((ws.map txt).map (·.length)).sum ≤ 3 * ws.flatten.length + ws.length
  | [] => Nat.zero_le _
  | w :: r => by
    have h1 := txt_len (ns := w)
    have h2 := txts_len r
    simp only [List.map_cons, List.sum_cons, List.flatten_cons, List.length_append, List.length_cons]
    omega
theorem Lts.word {ws : List (List Int)} (h : Lts ws.flatten) {w : List Int} (hw : w ∈ ws) : Lts w := fun x hx => h x (List.mem_flatten.mpr ⟨w, hw, hx⟩)
theorem word_le {ws : List (List Int)} {w : List Int} (hw : w ∈ ws) : w.length ≤ ws.flatten.length := by
  obtain ⟨i, hi, e⟩ := List.mem_iff_getElem.mp hw
  have := flat_take (ws := ws) (i := i) (w := w) (by rw [List.getElem?_eq_getElem hi, e])
  omega
section
variable {P : Program} {w : World} {K : PySem.W.Frag} {mg : Str → Option Value} {base : Heap} {C CR : Addr}
theorem scStrR : FnScope ["self", "word"] ["self"] (defScope sStrR) := ⟨rfl, rfl, rfl, by decide +kernel, rfl, by decide +kernel, by decide +kernel⟩
theorem ok_strR {f : Addr} {fd : FuncData} (F : Fun K "__str__" "Rims.__str__" sStrR f fd) (TC : TxRC K mg CR) (hstr : mg "str" = none) (M : MStr.Spe P w K mg base C "__str__" 2 (spStrM K C)) : FnOk P w K mg base CX0 5 f fd ["self"] (spStrR K C CR) := by
  refine F.ok scStrR (fun vs H Q E h => ?_) (fun cdv A outer s H vs Q E hr h => ?_)
  · obtain ⟨p, xs, ws, rfl, _⟩ := h
    rfl
  · obtain ⟨p, xs, ws, rfl, R1, ⟨l1, l4, hne, l24, hl, hb⟩, k⟩ := h
    refine ⟨_, pss_one (ps_ret (pe_join pe_str (pe_lc (own := [("word", 1)]) (g := gName 1) (tt := tYes) rfl scStrR.nd (pi_tup (pe_fld (pv 0) rfl)) (blkOk_by (N := ["self", "word"]) (sc := defScope sStrR) (by decide +kernel)) (fun _ _ _ _ _ => pg_name (i := 1) scStrR.nd rfl (Or.inl rfl)) (fun _ _ _ _ _ => pts_nil)
        (fun _ _ _ _ _ => pe_callTy (MStr.call_strO M hr (by decide)) (by rfl) hstr (by decide +kernel) (pa_cons (pv 1) pa_nil))))), ?_⟩
    obtain ⟨dx, tw, tl, th, tn, h1, h2, h3, _⟩ := R1
    have lxw : xs.length = ws.length := h3.length
    refine ⟨⟨_, rfl⟩, lc_in ?_⟩
    refine ⟨_, rfl, p, CR, dx, _, _, rfl, h1, TC.cl, TC.n1, rf_words, tw, rfl, ⟨_, h2.sq⟩, ?_⟩
    refine lcM (walk_tup (K := K) (a := tw) (xs := xs.map V.ref)) ws (fun _ _ v u => v = V.str (txt u)) (fun _ _ _ _ _ h _ => h) (fun _ _ _ _ _ _ _ h => h) (by rw [List.length_map]; omega) (by rw [List.length_map]; exact lxw) (fun H s => WR.Same.seqT s h2.sq) ?_ (fun x σ1 H A B k h => gName_mono k h) ?_
    · intro i x u hx hu D2 H2 hD2 _ s2 Qy ky
      obtain ⟨q, hq, rfl⟩ : ∃ q, xs[i]? = some q ∧ x = V.ref q := by
        rw [List.getElem?_map] at hx
        cases e : xs[i]? with
        | none => rw [e] at hx; cases hx
        | some q => rw [e] at hx; exact ⟨q, rfl, (Option.some.inj hx).symm⟩
      obtain ⟨u', hu', Wq⟩ := h3.at hq
      obtain rfl : u' = u := Option.some.inj (hu'.symm.trans hu)
      have mem : u' ∈ ws := List.mem_of_getElem? hu
      have Wq2 := Wq.same s2
      obtain ⟨dx1, tl1, tk, ks, w1, _⟩ := id Wq2
      exact ⟨rfl, _, rfl, q, dx1, _, rfl, w1, q, u', rfl, Wq2, by have := word_le mem; omega, hl.word mem, fun H3 s3 => ⟨_, rfl, ky _ H3 s3 rfl⟩⟩
    · intro D H3 vs hD s3 h3' hvs
      rw [all_str hvs] at h3'
      refine ⟨_, D, ws.map txt, rfl, rfl, .inl (SqL.of h3'), ?_, k H3 s3⟩
      have h1 := txts_len ws
      have h2 : (ws.map txt).length = ws.length := List.length_map ..
      rw [h2]
      show _ + ws.length * 3 ≤ _
      exact Nat.le_trans (show _ ≤ 100 by omega) (by decide)
end
end W11
set_option Elab.async false
set_option linter.all false
set_option maxRecDepth 100000
set_option maxHeartbeats 2000000
/-! try with several except clauses, each with a name or without. -/
namespace TM
open PySem PySem.Spec PyProof.Rows L2
/-- a clause: its class, the slot of its name if it has one, what its suite says -/
structure Cla where
  of : Value
  slot : Option Nat
  say : Addr → Value → Option Addr → TS
def offS : Option Nat → L2.St → L2.St
  | none, σ => σ
  | some i, σ => σ.set i none
def onS : Option Nat → Addr → L2.St → L2.St
  | none, _, σ => σ
  | some i, a, σ => σ.set i (some (.ref a))
def endsS (o : Option Nat) (D : Ends) : Ends := { nx := fun σ H => D.nx (offS o σ) H, rt := D.rt, bk := fun σ H => D.bk (offS o σ) H, ct := fun σ H => D.ct (offS o σ) H }
/-- the first clause that fits takes it -/
def wish (K : PySem.W.Frag) (out : WX) (D : Ends) : List Cla → WX
  | [] => out
  | q :: r => fun cls d σ H => ∃ b, PySem.W.exmOne K cls q.of = some b ∧ (b = true → ∀ a, H a = none → q.say a cls d (endsS q.slot D) (onS q.slot a σ) H) ∧ (b = false → wish K out D r cls d σ H)
def Says (X : Cx) (bs : List Stmt) (say : Addr → Value → Option Addr → TS) : Prop :=
  ∀ (a : Addr) (o : Obj) (cls : Value) (d : Option Addr) (pn : List (Addr × Obj)), Zc cls d o → (∃ vs, o.data = .fields vs) → PSs (X.suite a ((a, o) :: pn)) bs (say a cls d)
inductive Fit (X : Cx) : ExceptHandler → Cla → Prop
  | bare {x : Str} {c : Value} {say : Addr → Value → Option Addr → TS} {b : Stmt} {bs : List Stmt} {p1 p2 : Pos} (hc : Names X x c) (hs : Says X (b :: bs) say) : Fit X (.ExceptHandler (some (.Name x p1)) none (b :: bs) p2) ⟨c, none, say⟩
  | named {x n : Str} {i : Nat} {c : Value} {say : Addr → Value → Option Addr → TS} {b : Stmt} {bs : List Stmt} {p1 p2 : Pos} (hN : X.N.Nodup) (hi : X.N[i]? = some n) (hl : X.env.kindOf n = some .local) (hc : Names X x c) (hs : Says X (b :: bs) say) :
      Fit X (.ExceptHandler (some (.Name x p1)) (some n) (b :: bs) p2) ⟨c, some i, say⟩
inductive Fits (X : Cx) : List ExceptHandler → List Cla → Prop
  | nil : Fits X [] []
  | cons {h : ExceptHandler} {q : Cla} {hs : List ExceptHandler} {l : List Cla} (f : Fit X h q) (r : Fits X hs l) : Fits X (h :: hs) (q :: l)
/-- an exception that flies over X's frame, with the state that it left -/
structure Held (X : Cx) (pins : List (Addr × Obj)) (σ : L2.St) (H : Hp) (cls : Value) (d : Option Addr) (a : Addr) (B : Heap) (s0 s : Shared) : Prop where
  inv : Inv X pins σ H s0
  old : ∀ b o, s0.heap.get? b = some o → b ∉ frs X.stack → B.get? b = some o
  up : s0.heap.UpToSlots s.heap
  fly : HandSPX.FlyingZ B (X.env :: X.outer) a (Zc cls d) s.heap
  os : s.os = s0.os
  bare : AllBare s.gens
  free : H a = none
section
variable {X : Cx} {pins : List (Addr × Obj)} {σ : L2.St} {H : Hp} {D : Ends} {out : WX} {cls : Value} {d : Option Addr} {a : Addr} {B : Heap} {s0 s : Shared}
theorem Held.now (h : Held X pins σ H cls d a B s0 s) : Inv X pins σ H s := h.inv.landed h.old h.fly.1 h.up h.os h.bare
theorem Held.pinned (h : Held X pins σ H cls d a B s0 s) (hf : X.env.frame = some X.env.locals) : ∃ o : Obj, s.heap.get? a = some o ∧ Zc cls d o ∧ (∃ vs, o.data = .fields vs) ∧ Inv (X.suite a ((a, o) :: (X.pn ++ pins))) [] σ H s := by
  obtain ⟨o, vs, ea, z, ed⟩ := h.fly.there
  have out_ : a ∉ frs (X.env :: X.outer) := fun hm => by
    obtain ⟨_, o', e', nf⟩ := h.fly.2.2.1.mem hm
    rw [ea] at e'
    cases e'
    exact nf _ ed
  have n1 : a ≠ X.env.locals := fun z => out_ (List.mem_filterMap.mpr ⟨X.env, List.mem_cons_self, by rw [hf, z]⟩)
  have n2 : a ∉ X.fs := fun hm => by
    obtain ⟨e, he, q⟩ := List.mem_filterMap.mp hm
    exact out_ (List.mem_filterMap.mpr ⟨e, List.mem_cons_of_mem _ he, q⟩)
  exact ⟨o, ea, z, ⟨vs, ed⟩, h.now.suite ea ed h.free n1 n2⟩
/-- the clause's class is named, and held against the exception's -/
theorem Held.asked (h : Held X pins σ H cls d a B s0 s) (hf : X.env.frame = some X.env.locals) {x : Str} {c : Value} {b : Bool} {p : Pos} {Q : Bool → Shared → Prop} {E : Value → Shared → Prop} (hc : Names X x c) (eb : PySem.W.exmOne X.K cls c = some b)
    {G : Value → Sem Bool} (hG : ∀ {Q' : Bool → Shared → Prop}, Q' b s → wpAny (model X.prog X.w) (X.A.mark (some (.ref a))) (G c) Q' E s) (k : Q b s) :
    wpAny (model X.prog X.w) (X.A.mark (some (.ref a))) (eval (.Name x p) X.env >>= G) Q E s := by
  obtain ⟨o, ea, z, ed, S⟩ := h.pinned hf
  refine wpAny_bind ?_
  obtain ⟨g1, g2, m | ⟨m, v, nn⟩⟩ := hc
  · exact ld_glob (X := X.suite a ((a, o) :: (X.pn ++ pins))) S g1 m (hG k) g2
  · exact ld_blt (X := X.suite a ((a, o) :: (X.pn ++ pins))) S g1 m v (hG k) nn g2
theorem Held.pass (h : Held X pins σ H cls d a B s0 s) (hs : X.stack = X.env :: X.outer) (hf : X.env.frame = some X.env.locals) (tk : Takes X out) (w : out cls d σ H) : wpAny (model X.prog X.w) X.A (handleBy (.ref a) X.env []) (SP X pins D) X.xe s := by
  obtain ⟨_, _, _, oe, vs, T, oT, ts', he, hz, hd, h1, _⟩ := id h.fly
  refine wpAny_handleBy_nil ?_
  unfold PySem.passOn
  refine wpAny_bind (wpAny_field he hd h1 ?_)
  rw [if_neg (show ¬ ((Value.ref T == Value.none) = true) from by simp)]
  have last : wpAny (model X.prog X.w) X.A (setFlight (.ref a) X.env.frame) (fun _ s4 => wpAny (model X.prog X.w) X.A (throw (.ref a) : Sem Flow) (SP X pins D) X.xe s4) X.xe s := by
    rw [hf]
    exact HandSPX.setFlight_upZ h.fly fun h4 hh4 up4 => wpAny_throw (tk _ _ ⟨a, B, s0, pins, σ, H, cls, d, rfl, h.inv, h.old, h.up.trans up4, .inr (.inr (by rw [hs]; exact hh4)), h.free, h.os, h.bare, w⟩)
  first
    | exact wpAny_bind (wpAny_pure (wpAny_bind last))
    | exact wpAny_bind last
theorem Held.goes (h : Held X pins σ H cls d a B s0 s) (hs : X.stack = X.env :: X.outer) (hf : X.env.frame = some X.env.locals) (tk : Takes X out) {hds : List ExceptHandler} {l : List Cla} (fs : Fits X hds l) (w : wish X.K out D l cls d σ H) :
    wpAny (model X.prog X.w) X.A (handleBy (.ref a) X.env hds) (SP X pins D) X.xe s := by
  induction fs with
  | nil => exact h.pass hs hf tk w
  | @cons hd q hds l f r ih =>
    obtain ⟨b, eb, yes, no⟩ := w
    obtain ⟨o, ea, z, ed, S⟩ := h.pinned hf
    have look : PySem.W.Looks (model X.prog X.w) s.heap (typeOf (.ref a)) cls := fun A Q E s' k q => wpAny_typeOf_ref (k _ _ ea) (by rw [z.1]; exact q)
    have lm := PySem.W.exm_one (M := model X.prog X.w) h.now.kIn look eb
    have named : ∀ {x : Str} {c : Value} {p : Pos} {Q : Value → Shared → Prop} {E : Value → Shared → Prop}, Names X x c → Q c s → wpAny (model X.prog X.w) (X.A.mark (some (.ref a))) (eval (.Name x p) X.env) Q E s := fun {x c p Q E} hc k => by
      obtain ⟨g1, g2, m | ⟨m, v, nn⟩⟩ := hc
      · exact ld_glob (X := X.suite a ((a, o) :: (X.pn ++ pins))) S g1 m k g2
      · exact ld_blt (X := X.suite a ((a, o) :: (X.pn ++ pins))) S g1 m v k nn g2
    cases f with
    | bare hc say =>
      refine wpAny_handleBy_cons (codeAny_handlers_test (named hc (lm.here ?_))) (by intro q; cases q)
      cases b with
      | false => exact ih (no rfl)
      | true =>
        refine codeAny_handlers_suite (HandSPX.lands_againZ h.fly fun h4 fl4 up4 => ?_)
        have h' : Held X pins σ H cls d a B s0 { s with heap := h4 } := ⟨h.inv, h.old, h.up.trans up4, fl4, h.os, h.bare, h.free⟩
        obtain ⟨o4, _, z4, ed4, S4⟩ := h'.pinned hf
        refine wpAny_mono ((say a o4 cls d (X.pn ++ pins) z4 ed4).run [] _ _ H _ S4 (yes rfl a h.free)) (fun f s6 hsp => ?_) (fun _ _ z => False.elim z)
        have ok := h.inv.ok
        cases f with
        | next => obtain ⟨σ6, H6, S6, q6⟩ := hsp; exact ⟨_, _, S6.unsuite ok, q6⟩
        | brk => obtain ⟨σ6, H6, S6, q6⟩ := hsp; exact ⟨_, _, S6.unsuite ok, q6⟩
        | cont => obtain ⟨σ6, H6, S6, q6⟩ := hsp; exact ⟨_, _, S6.unsuite ok, q6⟩
        | ret u => obtain ⟨v6, σ6, H6, S6, r6, q6⟩ := hsp; exact ⟨_, _, _, S6.unsuite ok, r6, q6⟩
    | @named x n i c say0 b0 bs p1 p2 hN hi hl hc say =>
      refine wpAny_handleBy_cons (codeAny_handlers_test (named hc (lm.here ?_))) (by intro q; cases q)
      cases b with
      | false => exact ih (no rfl)
      | true =>
        refine codeAny_handlers_suite_as (HandSPX.lands_againZ h.fly fun h4 fl4 up4 => ?_)
        have h' : Held X pins σ H cls d a B s0 { s with heap := h4 } := ⟨h.inv, h.old, h.up.trans up4, fl4, h.os, h.bare, h.free⟩
        obtain ⟨o4, _, z4, ed4, S4⟩ := h'.pinned hf
        refine store_ok (X := X.suite a ((a, o4) :: (X.pn ++ pins))) (v := .ref a) S4 hN hi (.inl hl) rfl (fun s5 S5 => ?_) (.inr hl)
        refine wpAny_mono ((say a o4 cls d (X.pn ++ pins) z4 ed4).run [] s5 _ H _ S5 (yes rfl a h.free)) (fun f s6 hsp => ?_) (fun _ _ z => False.elim z)
        have ok := h.inv.ok
        have end_ : ∀ {σ6 : L2.St} {H6 : Hp} {Q : Shared → Prop}, Inv (X.suite a ((a, o4) :: (X.pn ++ pins))) [] σ6 H6 s6 → (∀ s7, Inv X pins (σ6.set i none) H6 s7 → Q s7) →
            wpAny (model X.prog X.w) X.A (do bindName X.env n .none; unbindBehindTheSuite X.env n p2) (fun _ s7 => Q s7) X.xe s6 := fun {σ6 H6 Q} S6 hq => gone_ok (S6.unsuite ok) hN hi hl hq
        cases f with
        | next => obtain ⟨σ6, H6, S6, q6⟩ := hsp; exact end_ S6 fun s7 J7 => ⟨_, _, J7, q6⟩
        | brk => obtain ⟨σ6, H6, S6, q6⟩ := hsp; exact end_ S6 fun s7 J7 => ⟨_, _, J7, q6⟩
        | cont => obtain ⟨σ6, H6, S6, q6⟩ := hsp; exact end_ S6 fun s7 J7 => ⟨_, _, J7, q6⟩
        | ret u => obtain ⟨v6, σ6, H6, S6, r6, q6⟩ := hsp; exact end_ S6 fun s7 J7 => ⟨_, _, _, J7, r6, q6⟩
end
section
variable {X : Cx} {body : List Stmt} {h0 : ExceptHandler} {hds : List ExceptHandler} {l : List Cla} {pos : Pos} {tb : WX → TS} {out : WX}
theorem ps_try_ms (hs : X.stack = X.env :: X.outer) (hf : X.env.frame = some X.env.locals) (tk : Takes X out)
    (hb : ∀ (W : WX) (pn : List (Addr × Obj)) (xe : Value → Shared → Prop), Takes (X.tr pn xe) W → PassesOwn (model X.prog X.w) X.A X.env xe → PSs (X.tr pn xe) body (tb W))
    (fs : Fits X (h0 :: hds) l) : PS X (.Try body (h0 :: hds) [] [] pos) (fun D σ H => tb (wish X.K out D l) D σ H) := by
  refine ⟨fun pins s σ H D I h => ?_⟩
  have ok := I.ok
  have hfr : X.A.frames = some (X.env :: X.outer) := by rw [ok.frames, hs]
  refine wpAny_Try_except (wpAny_mono ((hb (wish X.K out D l) (X.pn ++ pins) (fun e s₁ => wpAny (model X.prog X.w) X.A (noteFrame e X.env) (fun _ s₂ => wpAny (model X.prog X.w) X.A (setFlight e none) (fun _ s₃ =>
    wpAny (model X.prog X.w) X.A (handleBy e X.env (h0 :: hds)) (SP X pins D) X.xe s₃) X.xe s₂) X.xe s₁) (fun u s' xx => ?_) PassesOwn.looking).run [] s σ H D (I.toTry _) h) (fun f s1 hsp => ?_) (fun e s1 he => he))
  · obtain ⟨a, B, s0, pins', σ', H', cls, d, rfl, J', old, up, sky, free, os, bare, w⟩ := xx
    have sky' : Sky B (X.env :: X.outer) a (Zc cls d) X.env.locals s'.heap := by rw [← hs]; exact sky
    exact Sky.land Zc.steady hfr hf sky' fun h3 fl3 up3 => Held.goes (s := { s' with heap := h3 }) ⟨J'.ofTry ok, old, up.trans up3, fl3, os, bare, free⟩ hs hf tk fs w
  · cases f with
    | next => obtain ⟨σ', H', J', q⟩ := hsp; exact wpAny_execs_nil ⟨σ', H', J'.ofTry ok, q⟩
    | brk => obtain ⟨σ', H', J', q⟩ := hsp; exact ⟨σ', H', J'.ofTry ok, q⟩
    | cont => obtain ⟨σ', H', J', q⟩ := hsp; exact ⟨σ', H', J'.ofTry ok, q⟩
    | ret u => obtain ⟨v, σ', H', J', r, q⟩ := hsp; exact ⟨v, σ', H', J'.ofTry ok, r, q⟩
end
end TM
set_option Elab.async false
set_option linter.all false
set_option maxRecDepth 100000
set_option maxHeartbeats 1000000
namespace W11
open PySem L2 PySem.Spec PyProof.Rows WR WB WE
/-! ### what stands for a balance -/
/-! ### expressions that make something, wherever they stand -/
/-- from H0 on the expression gives some v of which P holds, and changes nothing that stood -/
def Mks (te : TE) (σ : L2.St) (H0 : Hp) (P : Hp → V → Prop) : Prop := ∀ H, Same H0 H → ∀ Q : VK, (∀ v H', Same H H' → P H' v → Q v H') → te σ H Q
def MksA (ta : TA) (σ : L2.St) (H0 : Hp) (P : Hp → List V → Prop) : Prop := ∀ H, Same H0 H → ∀ Q : List V → Hp → Prop, (∀ vs H', Same H H' → P H' vs → Q vs H') → ta σ H Q
def LI (ns : List Int) (H : Hp) (v : V) : Prop := ∃ q, v = V.ref q ∧ H q = some (.lst (iv ns))
theorem LI.same {ns : List Int} {H H' : Hp} {v : V} (h : LI ns H v) (s : Same H H') : LI ns H' v := by
  obtain ⟨q, e, r⟩ := h
  exact ⟨q, e, s _ _ r⟩
section
variable {σ : L2.St} {H0 : Hp} {te ta tb : TE} {tr : TA} {K : PySem.W.Frag} {C CR : Addr}
theorem mks_var {i : Nat} {v : V} (h : σ[i]? = some (some v)) : Mks (tVar i) σ H0 (fun _ x => x = v) := fun H _ Q k => ⟨v, h, k v H (Same.refl _) rfl⟩
theorem mks_c {v : V} : Mks (tC v) σ H0 (fun _ x => x = v) := fun H _ Q k => k v H (Same.refl _) rfl
theorem mks_neg {i : Int} (h : Mks te σ H0 (fun _ x => x = .int i)) : Mks (tUn (fun x H Q => ∃ i, x = .int i ∧ Q (.int (-i)) H) te) σ H0 (fun _ x => x = .int (-i)) := by
  intro H s Q k
  refine h H s _ fun v H1 s1 e => ?_
  exact ⟨i, e, k _ H1 s1 rfl⟩
theorem mksA_nil : MksA tNil σ H0 (fun _ vs => vs = iv []) := fun H _ Q k => k [] H (Same.refl _) rfl
theorem mksA_int {i : Int} {ns : List Int} (h : Mks te σ H0 (fun _ x => x = .int i)) (r : MksA tr σ H0 (fun _ vs => vs = iv ns)) : MksA (tCons te tr) σ H0 (fun _ vs => vs = iv (i :: ns)) := by
  intro H s Q k
  refine h H s _ fun v H1 s1 e => ?_
  refine r H1 (s.trans s1) _ fun vs H2 s2 e2 => ?_
  exact k _ H2 (s1.trans s2) (by rw [e, e2]; rfl)
theorem mks_ints {ns : List Int} (h : MksA tr σ H0 (fun _ vs => vs = iv ns)) (l : ns.length ≤ 1000) : Mks (tLst tr) σ H0 (LI ns) := by
  intro H s Q k
  refine h H s _ fun vs H1 s1 e => ?_
  rw [e]
  refine ⟨by rw [List.length_map]; exact Nat.le_trans l (by decide), fun p hp => k _ _ (s1.trans (same_upd hp)) ⟨p, rfl, upd_same⟩⟩
theorem mks_rep {ns : List Int} {n : Nat} (h : Mks ta σ H0 (LI ns)) (r : Mks tb σ H0 (fun _ x => x = .int (n : Int))) (l : ns.length * n ≤ 1000) (ln : n ≤ 1000) : Mks (tOp rRep ta tb) σ H0 (LI (List.replicate n ns).flatten) := by
  intro H s Q k
  refine h H s _ fun v H1 s1 ⟨q, e, hq⟩ => ?_
  refine r H1 (s.trans s1) _ fun w H2 s2 e2 => ?_
  refine ⟨q, _, _, e, e2, s2 _ _ hq, by omega, by omega, ?_, fun p hp => ?_⟩
  · rw [List.length_map, Int.toNat_natCast]
    exact Nat.le_trans l (by decide)
  · refine k _ _ ((s1.trans s2).trans (same_upd hp)) ⟨p, rfl, ?_⟩
    rw [upd_same, Int.toNat_natCast]
    unfold iv
    rw [List.map_flatten, List.map_replicate]
theorem mks_cat {ns ms : List Int} (h : Mks ta σ H0 (LI ns)) (r : Mks tb σ H0 (LI ms)) (l : ns.length + ms.length ≤ 1000) : Mks (tOp rCat ta tb) σ H0 (LI (ns ++ ms)) := by
  intro H s Q k
  refine h H s _ fun v H1 s1 ⟨q, e, hq⟩ => ?_
  refine r H1 (s.trans s1) _ fun w H2 s2 ⟨z, e2, hz⟩ => ?_
  refine ⟨q, z, _, _, e, e2, s2 _ _ hq, hz, ?_, fun p hp => ?_⟩
  · rw [List.length_map, List.length_map]
    exact Nat.le_trans l (by decide)
  · refine k _ _ ((s1.trans s2).trans (same_upd hp)) ⟨p, rfl, ?_⟩
    rw [upd_same]
    unfold iv
    rw [List.map_append]
def WordP (K : PySem.W.Frag) (C : Addr) (ns : List Int) (H : Hp) (v : V) : Prop := ∃ p, v = V.ref p ∧ WordAt K C H p ns
theorem mks_word {ns : List Int} (h : Mks te σ H0 (LI ns)) (l : ns.length ≤ 500) (lt : Lts ns) : Mks (tMake C (spInit K C) [] E0 (tCons te tNil)) σ H0 (WordP K C ns) := by
  intro H s Q k
  refine h H s _ fun v H1 s1 ⟨q, e, hq⟩ => ?_
  subst e
  refine fun x dx nx ndx _ => ?_
  exact make_at nx ndx (.inl (SqL.of hq)) l lt fun H2 s2 W2 => k _ H2 (s1.trans s2) ⟨x, rfl, W2⟩
def WdsP (K : PySem.W.Frag) (C : Addr) (ws : List (List Int)) (H : Hp) (vs : List V) : Prop := ∃ xs : List Addr, vs = xs.map V.ref ∧ Wds K C H xs ws
theorem mksA_wnil : MksA tNil σ H0 (WdsP K C []) := fun H _ Q k => k [] H (Same.refl _) ⟨[], rfl, .nil⟩
theorem mksA_word {ns : List Int} {ws : List (List Int)} (h : Mks te σ H0 (WordP K C ns)) (r : MksA tr σ H0 (WdsP K C ws)) : MksA (tCons te tr) σ H0 (WdsP K C (ns :: ws)) := by
  intro H s Q k
  refine h H s _ fun v H1 s1 ⟨p, e, W⟩ => ?_
  refine r H1 (s.trans s1) _ fun vs H2 s2 ⟨xs, e2, Ws⟩ => ?_
  exact k _ H2 (s1.trans s2) ⟨p :: xs, by rw [e, e2]; rfl, .cons (W.same s2) Ws⟩
def RimsP (K : PySem.W.Frag) (C CR : Addr) (ws : List (List Int)) (H : Hp) (v : V) : Prop := ∃ p xs, v = V.ref p ∧ RimsAt K C CR H p xs ws
theorem mks_rims {ws : List (List Int)} (h : MksA tr σ H0 (WdsP K C ws)) (ok : RimOk ws) : Mks (tMake CR (spInitR K C CR) [] E0 (tCons (tLst tr) tNil)) σ H0 (RimsP K C CR ws) := by
  intro H s Q k
  refine h H s _ fun vs H1 s1 ⟨xs, e, Ws⟩ => ?_
  subst e
  have lx : xs.length = ws.length := Ws.length
  refine ⟨?_, fun q hq => ?_⟩
  · rw [List.length_map, lx]
    exact Nat.le_trans ok.2.1 (by decide)
  have s2 := same_upd (o := .lst (xs.map V.ref)) hq
  refine fun x dx nx ndx _ => ?_
  exact rims_at nx ndx (.inl (SqL.of upd_same)) (Ws.same s2) ok fun H3 s3 R3 => k _ H3 ((s1.trans s2).trans s3) ⟨x, xs, rfl, R3⟩
end
end W11
set_option Elab.async false
set_option linter.all false
set_option maxRecDepth 100000
set_option maxHeartbeats 600000
namespace W11
open PySem L2 PySem.Spec PyProof.Rows WR WB WE

structure TN (mg : Str → Option Value) : Prop where
  len : mg "len" = none
  range : mg "range" = none
  list : mg "list" = none
  tuple : mg "tuple" = none
  int : mg "int" = none
  abs : mg "abs" = none
  min : mg "min" = none
  sorted : mg "sorted" = none
  set : mg "set" = none
  enumerate : mg "enumerate" = none
  zip : mg "zip" = none
  isinstance : mg "isinstance" = none
  repr : mg "repr" = none
theorem perm_erase : ∀ (us : List V) (j : Nat) (h : j < us.length), (us[j] :: us.eraseIdx j).Perm us
  | a :: t, 0, _ => List.Perm.refl _
  | a :: t, j + 1, h => by
    have ih := perm_erase t j (by simpa using h)
    exact (List.Perm.swap _ _ _).trans (ih.cons a)
def spMixed : Sp := fun vs H Q _ => ∃ (a c p : Addr) (xs : List V) (n : Nat), vs = [.ref a, .ref p] ∧ HandAt H a c n ∧ H p = some (.lst xs) ∧ xs.length ≤ 100 ∧ n ≤ 8000 ∧ ∀ l H' ys, H l = none → Drew a c (n + xs.length) H H' → H' l = some (.lst ys) → ys.Perm xs → Q (.ref l) H'
abbrev sMixed : Stmt := top 47
abbrev nMixed : List Str := ["_law_pen_here", "_law_some", "_law_left", "_law_found", "_law_turn"]
theorem scMixed : FnScope nMixed ["_law_pen_here", "_law_some"] (defScope sMixed) := ⟨rfl, rfl, rfl, by decide +kernel, rfl, by decide +kernel, by decide +kernel⟩
section
variable {P : Program} {w : World} {K : PySem.W.Frag} {mg : Str → Option Value} {base : Heap}
theorem ok_Mixed {f : Addr} {fd : FuncData} (F : Fun K "_law_mixed" "_law_mixed" sMixed f fd) (N : TN mg)  (G_draw : Cal P w K mg base "_law_draw" 1 ["_law_pen_here", "_law_many"] (spTake)) : FnOk P w K mg base CX0 2 f fd ["_law_pen_here", "_law_some"] (spMixed) := by
  refine F.ok scMixed (fun vs H Q E h => ?_) (fun cdv A outer s H vs Q E hr h => ?_)
  · obtain ⟨a, c, p, xs, n, rfl, _⟩ := h
    rfl
  · obtain ⟨a, c, p, xs, n, rfl, hH, hp, hx, hn, k⟩ := h
    refine ⟨_, pss_cons (ps_par (i := 2) (j := 3) (by rfl) scMixed.nd rfl rfl (by decide) rfl rfl (pa_cons (pe_callTy call_list_of (by rfl) N.list (by decide +kernel) (pa_cons (pv 1) pa_nil)) (pa_cons (pe_lst pa_nil) pa_nil)) (by rfl))
      (pss_cons (ps_for PassesOwn.never rfl (pi_range1 (by rfl) N.range (pa_cons (pe_callB call_len_seq (by rfl) N.len PySem.boot_len (pa_cons (pv 2) pa_nil)) pa_nil)) (pg_name (i := 4) scMixed.nd rfl (Or.inl rfl))
      (pss_one (ps_expr (pe_bm PySem.F.plainAttrs_list PySem.F.slot_list_append PySem.F.type_list_append mt_append (pv 3) (pa_cons (pe_bm PySem.F.plainAttrs_list PySem.F.slot_list_pop PySem.F.type_list_pop mt_popAt (pv 2) (pa_cons (pe_cal G_draw hr (by decide) (by rfl) (pa_cons (pv 0) (pa_cons (pe_callB call_len_seq (by rfl) N.len PySem.boot_len (pa_cons (pv 2) pa_nil)) pa_nil))) pa_nil)) pa_nil)))))
      (pss_one (ps_ret (pv 3)))), ?_⟩
    refine ⟨_, rfl, p, xs, rfl, .inl (SqL.of hp), fun lf hlf => ?_⟩
    have s1 := same_upd (o := .lst xs) hlf
    have g1 : L2.upd H lf (.lst xs) lf = some (.lst xs) := upd_same
    obtain ⟨H1, e1⟩ : ∃ H1, H1 = L2.upd H lf (.lst xs) := ⟨_, rfl⟩
    rw [← e1] at s1 g1 ⊢
    refine ⟨Nat.zero_le _, fun fo hfo => ⟨_, _, rfl, ?_⟩⟩
    have s2 := same_upd (o := .lst []) hfo
    have g2 : L2.upd H1 fo (.lst []) fo = some (.lst []) := upd_same
    have lfo : lf ≠ fo := ne_of_none g1 hfo
    have fo0 : H fo = none := s1.free hfo
    have hla := hH.ne hlf
    have hlc := hH.neC hlf
    have hfa := hH.ne fo0
    have hfc := hH.neC fo0
    have D2 : Drew a c n H (L2.upd H1 fo (.lst [])) := (Drew.refl hH).same (s1.trans s2)
    refine ⟨_, rfl, lf, _, rfl, .inl (SqL.of (s2 _ _ g1)), ((xs.length : Nat) : Int), rfl, by omega, by omega, ?_⟩
    refine for_range (lo := 0) (n := ((xs.length : Nat) : Int).toNat) (fun i σ H' => ∃ (v : Option V) (us ys : List V), σ = [some (.ref a), some (.ref p), some (.ref lf), some (.ref fo), v] ∧ Drew a c (n + i) H H' ∧ H' lf = some (.lst us) ∧ H' fo = some (.lst ys) ∧ us.length + i = xs.length ∧ (us ++ ys).Perm xs)
      ⟨none, xs, [], rfl, D2, s2 _ _ g1, g2, rfl, by rw [List.append_nil]⟩ ?_ ?_
    · rintro i σ H3 hi ⟨v, us, ys, rfl, d3, hl3, hf3, hlen, hperm⟩
      rw [Int.toNat_natCast] at hi
      have hys : ys.length = i := by
        have := hperm.length_eq
        rw [List.length_append] at this
        omega
      refine ⟨_, rfl, .inl ⟨rfl, _, SqL.of hf3⟩, _, rfl, .inl ⟨rfl, _, SqL.of hl3⟩, _, rfl, _, rfl, lf, _, rfl, .inl (SqL.of hl3), a, c, ((us.length : Nat) : Int), n + i, rfl, d3.1, by omega, by omega, ?_, fun H4 j j0 j1 hH4 hK4 => ?_⟩
      · have : (((us.length : Nat) : Int)).natAbs ≤ 100 := by omega
        exact Nat.lt_of_le_of_lt this (by decide)
      have hl4 := hK4 _ _ hla hl3
      have hf4 := hK4 _ _ hfa hf3
      have d4 : Drew a c (n + i + 1) H H4 := ⟨hH4, d3.2.trans hK4⟩
      obtain ⟨j, rfl⟩ : ∃ j' : Nat, j = (j' : Int) := ⟨j.toNat, by omega⟩
      have hjl : j < us.length := by omega
      refine ⟨lf, us, (j : Int), j, us[j], rfl, rfl, hl4, by omega, by omega, ?_, List.getElem?_eq_getElem hjl, ?_⟩
      · exact seq_at hjl
      have hf5 : L2.upd H4 lf (.lst (us.eraseIdx j)) fo = some (.lst ys) := by rw [upd_ne lfo.symm]; exact hf4
      refine ⟨fo, ys, _, rfl, rfl, hf5, Evl.sz_lt (by omega), ?_⟩
      refine ⟨_, us.eraseIdx j, ys ++ [us[j]], rfl, ?_, ?_, upd_same, ?_, ?_⟩
      · exact ((d4.put hlf hla hlc).put fo0 hfa hfc)
      · rw [upd_ne lfo, upd_same]
      · rw [List.length_eraseIdx_of_lt hjl]
        omega
      · have q1 : (us[j] :: us.eraseIdx j).Perm us := perm_erase us j hjl
        have q2 : (us.eraseIdx j ++ (ys ++ [us[j]])).Perm ((us[j] :: us.eraseIdx j) ++ ys) := by
          rw [← List.append_assoc]
          exact List.perm_append_comm
        exact (q2.trans (q1.append_right ys)).trans hperm
    · rintro σ H3 ⟨v, us, ys, rfl, d3, hl3, hf3, hlen, hperm⟩
      rw [Int.toNat_natCast] at d3 hlen
      have : us = [] := List.eq_nil_of_length_eq_zero (by omega)
      subst this
      exact ⟨_, rfl, k fo H3 ys fo0 d3 hf3 hperm⟩
end
end W11
set_option Elab.async false
set_option linter.all false
set_option maxRecDepth 100000
set_option maxHeartbeats 600000
namespace W11
open PySem L2 PySem.Spec PyProof.Rows WR WB WE
/-! ### letters cut into words -/
theorem perm_map {α β : Type} {f : α → β} : ∀ {ys zs : List β}, ys.Perm zs → ∀ xs : List α, zs = xs.map f → ∃ ws : List α, ws.Perm xs ∧ ys = ws.map f := by
  intro ys zs h
  induction h with
  | nil => intro xs e; exact ⟨xs, List.Perm.refl _, e⟩
  | cons x _ ih =>
    intro xs e
    cases xs with
    | nil => cases e
    | cons y r =>
      rw [List.map_cons] at e
      injection e with e1 e2
      obtain ⟨ws, p, rfl⟩ := ih r e2
      exact ⟨y :: ws, p.cons y, by rw [e1]; rfl⟩
  | swap x y l =>
    intro xs e
    match xs, e with
    | a :: b :: r, e =>
      rw [List.map_cons, List.map_cons] at e
      injection e with e1 e2
      injection e2 with e2 e3
      exact ⟨b :: a :: r, List.Perm.swap _ _ _, by rw [e1, e2, e3]; rfl⟩
  | trans _ _ ih1 ih2 =>
    intro xs e
    obtain ⟨ws, p, rfl⟩ := ih2 xs e
    obtain ⟨us, p2, rfl⟩ := ih1 ws rfl
    exact ⟨us, p2.trans p, rfl⟩
def rgI (a b : Nat) : List Int := (List.range (b - a)).map fun (i : Nat) => ((a + i : Nat) : Int)
theorem rgV_I (a b : Nat) : rgV (a : Int) (b : Int) = iv (rgI a b) := by
  unfold rgV rgI
  rw [show ((b : Int) - (a : Int)).toNat = b - a by omega]
  show _ = List.map V.int (List.map _ _)
  rw [List.map_map]
  refine List.map_congr_left fun i _ => ?_
  show V.int ((a : Int) + (i : Nat)) = V.int ((a + i : Nat) : Int)
  rw [show ((a : Int) + (i : Nat)) = ((a + i : Nat) : Int) by omega]
theorem rgI_mem {a b : Nat} {z : Int} (h : z ∈ rgI a b) : (a : Int) ≤ z ∧ z < (b : Int) := by
  obtain ⟨i, hi, rfl⟩ := List.mem_map.mp h
  have := List.mem_range.mp hi
  omega
theorem rgI_nodup (a b : Nat) : (rgI a b).Nodup := by
  refine List.pairwise_map.mpr ((List.nodup_range (n := b - a)).imp fun {x y} ne e => ne ?_)
  omega
theorem rgI_len (a b : Nat) : (rgI a b).length = b - a := by
  unfold rgI
  rw [List.length_map, List.length_range]
theorem cut_mid {xs : List V} {b c : Nat} (h1 : b ≤ c) (h2 : c ≤ xs.length) : cutV xs (some ((b : Nat) : Int)) (some ((c : Nat) : Int)) = (xs.drop b).take (c - b) := by
  unfold cutV
  rw [HT.sIx_nat, HT.sIx_nat, Nat.min_eq_left h2, Nat.min_eq_left (by omega)]
theorem cut_till {xs : List V} {c : Nat} : cutV xs none (some ((c : Nat) : Int)) = xs.take (min c xs.length) := by
  unfold cutV
  rw [HT.sIx_none, HT.sIx_nat, List.drop_zero, Nat.sub_zero]
/-- lists of letters, none at the place fo -/
def LX (fo : Addr) (ns : List Int) (H : Hp) (v : V) : Prop := ∃ q, v = V.ref q ∧ q ≠ fo ∧ H q = some (.lst (iv ns))
/-- words: a list of lists of letters -/
def LLs (H : Hp) (us : List V) (ws : List (List Int)) : Prop := All2 (fun v w => LI w H v) us ws
theorem LLs.same {H H' : Hp} {us : List V} {ws : List (List Int)} (h : LLs H us ws) (s : Same H H') : LLs H' us ws := h.imp fun _ _ r => r.same s
def WordsOk (ls : List Int) (ws : List (List Int)) : Prop := ws.flatten = ls ∧ (∀ w ∈ ws, w ≠ []) ∧ 1 ≤ ws.length ∧ ws.length ≤ 4
def spCut : Sp := fun vs H Q _ => ∃ (a c p : Addr) (ls : List Int) (n : Nat), vs = [.ref a, .ref p] ∧ HandAt H a c n ∧ p ≠ a ∧ H p = some (.lst (iv ls)) ∧ 1 ≤ ls.length ∧ ls.length ≤ 60 ∧ n ≤ 7000 ∧
  ∀ l H' us ws, H l = none → Drew a c (n + 70) H H' → H' l = some (.lst us) → LLs H' us ws → WordsOk ls ws → Q (.ref l) H'
abbrev sCut : Stmt := top 48
abbrev nCut : List Str := ["_law_pen_here", "_law_letters", "_law_many", "_law_cuts", "_law_found", "_law_begin", "_law_cut_here"]
theorem scCut : FnScope nCut ["_law_pen_here", "_law_letters"] (defScope sCut) := ⟨rfl, rfl, rfl, by decide +kernel, rfl, by decide +kernel, by decide +kernel⟩
section
variable {P : Program} {w : World} {K : PySem.W.Frag} {mg : Str → Option Value} {base : Heap}
theorem ok_Cut {f : Addr} {fd : FuncData} (F : Fun K "_law_cut" "_law_cut" sCut f fd) (N : TN mg)  (G_draw : Cal P w K mg base "_law_draw" 1 ["_law_pen_here", "_law_many"] (spTake)) (G_mixed : Cal P w K mg base "_law_mixed" 2 ["_law_pen_here", "_law_some"] (spMixed)) : FnOk P w K mg base CX0 3 f fd ["_law_pen_here", "_law_letters"] (spCut) := by
  refine F.ok scCut (fun vs H Q E h => ?_) (fun cdv A outer s H vs Q E hr h => ?_)
  · obtain ⟨a, c, p, ls, n, rfl, _⟩ := h
    rfl
  · obtain ⟨a, c, p, ls, n, rfl, hH, hpa, hp, l1, l60, hn, k⟩ := h
    refine ⟨_, pss_cons (ps_set (i := 2) scCut.nd rfl (Or.inl rfl) (pe_op op_add pe_int (pe_cal G_draw hr (by decide) (by rfl) (pa_cons (pv 0) (pa_cons (pe_callB (call_min2 rfl) (by rfl) N.min (by decide +kernel) (pa_cons pe_int (pa_cons (pe_callB call_len_seq (by rfl) N.len PySem.boot_len (pa_cons (pv 1) pa_nil)) pa_nil))) pa_nil)))))
      (pss_cons (ps_set (i := 3) scCut.nd rfl (Or.inl rfl) (pe_callB cr_sorted (by rfl) N.sorted (by decide +kernel) (pa_cons (pe_slice sl_list (pe_cal G_mixed hr (by decide) (by rfl) (pa_cons (pv 0) (pa_cons (pe_listRg rfl (by rfl) N.list (prg_2 (by rfl) N.range pe_int (pe_callB call_len_seq (by rfl) N.len PySem.boot_len (pa_cons (pv 1) pa_nil)))) pa_nil))) po_none (po_some (pe_op op_sub (pv 2) pe_int))) pa_nil)))
      (pss_cons (ps_par (i := 4) (j := 5) (by rfl) scCut.nd rfl rfl (by decide) rfl rfl (pa_cons (pe_lst pa_nil) (pa_cons pe_int pa_nil)) (by rfl))
      (pss_cons (ps_for PassesOwn.never rfl (pi_list (pe_op op_cat (pv 3) (pe_lst (pa_cons (pe_callB call_len_seq (by rfl) N.len PySem.boot_len (pa_cons (pv 1) pa_nil)) pa_nil)))) (pg_name (i := 6) scCut.nd rfl (Or.inl rfl))
      (pss_cons (ps_expr (pe_bm PySem.F.plainAttrs_list PySem.F.slot_list_append PySem.F.type_list_append mt_append (pv 4) (pa_cons (pe_slice sl_list (pv 1) (po_some (pv 5)) (po_some (pv 6))) pa_nil)))
      (pss_one (ps_set (i := 5) scCut.nd rfl (Or.inl rfl) (pv 6)))))
      (pss_one (ps_ret (pv 4)))))), ?_⟩
    have elen : ((iv ls).length : Int) = (ls.length : Int) := by rw [List.length_map]
    refine ⟨_, rfl, _, rfl, p, _, rfl, .inl (SqL.of hp), _, _, rfl, a, c, _, n, rfl, hH, by omega, ?_, ?_, fun H1 j j0 j1 hH1 hK1 => ⟨_, _, rfl, rfl, ?_⟩⟩
    · rw [elen]; split <;> omega
    · refine Nat.lt_of_le_of_lt (m := 60) ?_ (by decide)
      rw [elen]; split <;> omega
    rw [elen] at j1
    obtain ⟨jn, rfl⟩ : ∃ jn : Nat, j = (jn : Int) := ⟨j.toNat, by omega⟩
    have jn4 : jn < 4 ∧ jn < ls.length := by split at j1 <;> omega
    have D1 : Drew a c (n + 1) H H1 := ⟨hH1, hK1⟩
    have hp1 := hK1 _ _ hpa hp
    try dsimp only
    refine ⟨_, rfl, _, rfl, p, _, rfl, .inl (SqL.of hp1), _, _, rfl, rfl, ?_, fun q hq => ?_⟩
    · rw [elen]
      exact ⟨by omega, by omega, by omega, by omega⟩
    rw [elen, show (1 : Int) = ((1 : Nat) : Int) from rfl, rgV_I]
    have D2 : Drew a c (n + 1) H (L2.upd H1 q (.lst (iv (rgI 1 ls.length)))) := D1.new hq
    have lrg := rgI_len 1 ls.length
    refine ⟨a, c, q, _, n + 1, rfl, D2.1, upd_same, by rw [List.length_map]; omega, by omega, fun lm H3 ys hlm D3 hm hperm => ?_⟩
    obtain ⟨ms, pm, rfl⟩ := perm_map hperm _ rfl
    have D3' : Drew a c (n + 1 + ls.length) H H3 := (D2.trans D3).mono (by rw [List.length_map]; omega)
    refine ⟨_, rfl, _, _, rfl, rfl, _, rfl, lm, _, rfl, SqL.of hm, fun p2 hp2 => ?_⟩
    have lms := pm.length_eq
    rw [show (((1 : Nat) : Int) + (jn : Int) - ((1 : Nat) : Int)) = ((jn : Nat) : Int) by omega, cut_till, Nat.min_eq_left (by rw [List.length_map]; omega), ← List.map_take]
    refine ⟨p2, _, rfl, SqL.of upd_same, by rw [List.length_take]; omega, fun cs p3 pc sc hp3 => ?_⟩
    have hcs : ∀ z ∈ cs, 1 ≤ z ∧ z < (ls.length : Int) := fun z hz => by
      have := rgI_mem (pm.mem_iff.mp (List.mem_of_mem_take (pc.mem_iff.mp hz)))
      omega
    have ncs : cs.Nodup := pc.nodup_iff.mpr ((pm.nodup_iff.mpr (rgI_nodup _ _)).sublist (List.take_sublist _ _))
    have lcs : cs.length ≤ 3 := by
      rw [pc.length_eq, List.length_take]
      omega
    have hlt : ((0 : Int) :: (cs ++ [(ls.length : Int)])).Pairwise (· < ·) := by
      refine List.pairwise_cons.mpr ⟨fun z hz => ?_, List.pairwise_append.mpr ⟨?_, List.pairwise_singleton _ _, fun x hx y hy => ?_⟩⟩
      · rcases List.mem_append.mp hz with hz | hz
        · have := hcs z hz
          omega
        · rw [List.mem_singleton.mp hz]
          omega
      · refine (sc.and ncs).imp fun {x y} h => ?_
        have := h.1
        have := h.2
        omega
      · rw [List.mem_singleton.mp hy]
        exact (hcs x hx).2
    obtain ⟨H4, e4⟩ : ∃ H4, H4 = L2.upd (L2.upd H3 p2 (.lst (iv (ms.take jn)))) p3 (.lst (iv cs)) := ⟨_, rfl⟩
    have D4 : Drew a c (n + 1 + ls.length) H H4 := by
      rw [e4]
      exact (D3'.new hp2).new hp3
    have g4 : H4 p3 = some (.lst (iv cs)) := by rw [e4, upd_same]
    rw [← e4]
    have hp4 := D4.2 _ _ hpa hp
    refine ⟨Nat.zero_le _, fun fo hfo => ⟨_, _, rfl, ?_⟩⟩
    have fo0 : H fo = none := D4.back hfo
    have hfa := hH.ne fo0
    have hfc := hH.neC fo0
    have D5 := D4.new (o := .lst []) hfo
    have g5 : L2.upd H4 fo (.lst []) fo = some (.lst []) := upd_same
    have g53 : L2.upd H4 fo (.lst []) p3 = some (.lst (iv cs)) := by rw [upd_ne (ne_of_none g4 hfo)]; exact g4
    have hp5 : L2.upd H4 fo (.lst []) p = some (.lst (iv ls)) := by rw [upd_ne (ne_of_none hp4 hfo)]; exact hp4
    obtain ⟨H5, e5⟩ : ∃ H5, H5 = L2.upd H4 fo (.lst []) := ⟨_, rfl⟩
    rw [← e5] at D5 g5 g53 hp5 ⊢
    refine ⟨_, rfl, _, rfl, p, _, rfl, .inl (SqL.of hp5), by show 1 ≤ sizeLine; decide, fun q2 hq2 => ?_⟩
    have s6 := same_upd (o := .lst [.int ((iv ls).length : Int)]) hq2
    refine ⟨p3, q2, _, _, rfl, rfl, s6 _ _ g53, upd_same, Evl.sz_of (by rw [List.length_map]; show cs.length + 1 ≤ _; omega), fun r hr2 => ?_⟩
    have s7 := s6.trans (same_upd (o := .lst (iv cs ++ [.int ((iv ls).length : Int)])) hr2)
    have g7 : L2.upd (L2.upd H5 q2 (.lst [.int ((iv ls).length : Int)])) r (.lst (iv cs ++ [.int ((iv ls).length : Int)])) r = some (.lst (iv (cs ++ [(ls.length : Int)]))) := by
      rw [upd_same, elen]
      simp [iv]
    obtain ⟨H7, e7⟩ : ∃ H7, H7 = L2.upd (L2.upd H5 q2 (.lst [.int ((iv ls).length : Int)])) r (.lst (iv cs ++ [.int ((iv ls).length : Int)])) := ⟨_, rfl⟩
    rw [← e7] at s7 g7 ⊢
    have les : (cs ++ [(ls.length : Int)]).length ≤ 4 := by rw [List.length_append]; show cs.length + 1 ≤ 4; omega
    have nrf : r ≠ fo := fun e => by
      rw [e] at hr2
      rw [s6 _ _ g5] at hr2
      cases hr2
    refine ⟨r, rfl, ⟨_, SqL.of g7⟩, for_list (K := K) (a := r) (xs := iv (cs ++ [(ls.length : Int)])) (fun i σ H' => ∃ (v2 v6 : Option V) (b : Nat) (us : List V) (ws : List (List Int)), σ = [some (.ref a), some (.ref p), v2, some (.ref p3), some (.ref fo), some (.int (b : Int)), v6] ∧ Drew a c (n + 70) H H' ∧ H' r = some (.lst (iv (cs ++ [(ls.length : Int)]))) ∧ H' p = some (.lst (iv ls)) ∧ H' fo = some (.lst us) ∧
        All2 (fun v w => LX fo w H' v) us ws ∧ ws.flatten = ls.take b ∧ (∀ w ∈ ws, w ≠ []) ∧ ws.length = i ∧ b ≤ ls.length ∧ (b : Int) = ((0 : Int) :: (cs ++ [(ls.length : Int)])).getD i 0)
      ⟨_, none, 0, [], [], rfl, (D5.same s7).mono (by omega), g7, s7 _ _ hp5, s7 _ _ g5, .nil, rfl, fun _ h => (nomatch h), rfl, Nat.zero_le _, rfl⟩ (fun i σ H' _ ⟨_, _, _, _, _, _, _, h, _⟩ => SqL.of h) ?_ ?_⟩
    · rintro i x σ H8 hi ⟨v2, v6, b, us, ws, rfl, D8, g8, hp8, hf8, hu, hfl, hne, hlen, hb, eb⟩
      obtain ⟨z, hz, rfl⟩ : ∃ z, (cs ++ [(ls.length : Int)])[i]? = some z ∧ x = V.int z := by
        rw [List.getElem?_map] at hi
        cases e : (cs ++ [(ls.length : Int)])[i]? with
        | none => rw [e] at hi; cases hi
        | some z => rw [e] at hi; exact ⟨z, rfl, (Option.some.inj hi).symm⟩
      have hil : i < (cs ++ [(ls.length : Int)]).length := (List.getElem?_eq_some_iff.mp hz).1
      have hbz : (b : Int) < z := by
        have := List.pairwise_iff_getElem.mp hlt i (i + 1) (by rw [List.length_cons]; omega) (by rw [List.length_cons]; omega) (by omega)
        rw [List.getElem_cons_succ, (List.getElem?_eq_some_iff.mp hz).2] at this
        rw [eb, List.getD_eq_getElem?_getD, List.getElem?_eq_getElem (by rw [List.length_cons]; omega)]
        exact this
      have hzl : z ≤ (ls.length : Int) := by
        rcases List.mem_append.mp (List.mem_of_getElem? hz) with h | h
        · have := (hcs z h).2
          omega
        · rw [List.mem_singleton.mp h]
          exact Int.le_refl _
      obtain ⟨cc, rfl⟩ : ∃ cc : Nat, z = (cc : Int) := ⟨z.toNat, by omega⟩
      refine ⟨_, rfl, .inl ⟨rfl, _, SqL.of hf8⟩, _, rfl, _, rfl, _, rfl, _, rfl, _, rfl, p, _, rfl, SqL.of hp8, fun q hq => ?_⟩
      rw [cut_mid (by omega) (by rw [List.length_map]; omega), ← List.map_drop, ← List.map_take]
      have s9 := same_upd (o := .lst (iv ((ls.drop b).take (cc - b)))) hq
      have nqf : q ≠ fo := fun e => by rw [e, hf8] at hq; cases hq
      have lus := hu.length
      refine ⟨fo, us, _, rfl, rfl, s9 _ _ hf8, Evl.sz_lt (by omega), ?_⟩
      refine ⟨_, rfl, v2, _, cc, us ++ [.ref q], ws ++ [(ls.drop b).take (cc - b)], rfl, ((D8.new hq).put fo0 hfa hfc), ?_, ?_, upd_same, ?_, ?_, ?_, ?_, by omega, ?_⟩
      · rw [upd_ne nrf]; exact s9 _ _ g8
      · rw [upd_ne (fun e => by rw [e, fo0] at hp; cases hp)]; exact s9 _ _ hp8
      · refine All2.app (hu.imp fun _ _ ⟨q', e, ne, g⟩ => ⟨q', e, ne, by rw [upd_ne ne]; exact s9 _ _ g⟩) (.cons ⟨q, rfl, nqf, by rw [upd_ne nqf, upd_same]⟩ .nil)
      · rw [List.flatten_append, hfl]
        show ls.take b ++ ((ls.drop b).take (cc - b) ++ []) = ls.take cc
        rw [List.append_nil]
        have := List.take_add (l := ls) (i := b) (j := cc - b)
        rw [← this, show b + (cc - b) = cc by omega]
      · intro w hw
        rcases List.mem_append.mp hw with hw | hw
        · exact hne w hw
        · rw [List.mem_singleton.mp hw]
          intro e
          have : ((ls.drop b).take (cc - b)).length = 0 := by rw [e]; rfl
          rw [List.length_take, List.length_drop] at this
          omega
      · rw [List.length_append, hlen]
        rfl
      · show ((cc : Nat) : Int) = ((0 : Int) :: (cs ++ [(ls.length : Int)])).getD (i + 1) 0
        rw [List.getD_eq_getElem?_getD, List.getElem?_cons_succ, hz]
        rfl
    · rintro σ H8 ⟨v2, v6, b, us, ws, rfl, D8, g8, hp8, hf8, hu, hfl, hne, hlen, hb, eb⟩
      have eb2 : b = ls.length := by
        rw [List.length_map, List.getD_eq_getElem?_getD, List.length_append] at eb
        have : ((0 : Int) :: (cs ++ [(ls.length : Int)]))[cs.length + [(ls.length : Int)].length]? = some (ls.length : Int) := by
          show ((0 : Int) :: (cs ++ [(ls.length : Int)]))[cs.length + 1]? = _
          rw [List.getElem?_cons_succ, List.getElem?_append_right (Nat.le_refl _), Nat.sub_self]
          rfl
        rw [this] at eb
        show b = ls.length
        have : (b : Int) = (ls.length : Int) := eb
        omega
      subst eb2
      rw [List.take_length] at hfl
      refine ⟨_, rfl, k fo H8 us ws fo0 D8 hf8 (hu.imp fun _ _ ⟨q, e, _, g⟩ => ⟨q, e, g⟩) ⟨hfl, hne, ?_, ?_⟩⟩
      · rw [hlen, List.length_map, List.length_append]
        exact Nat.le_add_left _ _
      · rw [hlen, List.length_map]
        exact les
end
end W11
set_option Elab.async false
set_option linter.all false
set_option maxRecDepth 100000
set_option maxHeartbeats 600000
namespace W11
open PySem L2 PySem.Spec PyProof.Rows WR WB WE
/-! ### plain words -/
def nats (c : List Nat) : List Int := c.map fun (x : Nat) => (x : Int)
def plF : List (Int × Nat) → List Int
  | [] => []
  | (k, c) :: r => (List.replicate c [k, -k]).flatten ++ plF r
theorem plF_app : ∀ xs ys : List (Int × Nat), plF (xs ++ ys) = plF xs ++ plF ys
  | [], _ => rfl
  | (k, c) :: r, ys => by
    show (List.replicate c [k, -k]).flatten ++ plF (r ++ ys) = (List.replicate c [k, -k]).flatten ++ plF r ++ plF ys
    rw [plF_app r ys, List.append_assoc]
def sumN : List (Int × Nat) → Nat
  | [] => 0
  | (_, c) :: r => c + sumN r
theorem rep_len (k : Int) : ∀ c : Nat, (List.replicate c [k, -k]).flatten.length = 2 * c
  | 0 => rfl
  | c + 1 => by
    rw [List.replicate_succ, List.flatten_cons, List.length_append, rep_len k c]
    show 2 + 2 * c = _
    omega
theorem plF_len : ∀ xs : List (Int × Nat), (plF xs).length = 2 * sumN xs
  | [] => rfl
  | (k, c) :: r => by
    show ((List.replicate c [k, -k]).flatten ++ plF r).length = 2 * (c + sumN r)
    rw [List.length_append, rep_len, plF_len r]
    omega
theorem rep_cnt (k z : Int) : ∀ c : Nat, ((List.replicate c [k, -k]).flatten.count z : Int) = c * ((if k = z then 1 else 0) + (if -k = z then 1 else 0))
  | 0 => by simp
  | c + 1 => by
    rw [List.replicate_succ, List.flatten_cons, List.count_append, Int.natCast_add, rep_cnt k z c]
    have : (([k, -k].count z : Nat) : Int) = (if k = z then 1 else 0) + (if -k = z then 1 else 0) := by
      rw [List.count_cons, List.count_cons, List.count_nil]
      by_cases h1 : k = z
      · by_cases h2 : -k = z
        · simp only [beq_iff_eq, if_pos h1, if_pos h2]; rfl
        · simp only [beq_iff_eq, if_pos h1, if_neg h2]; rfl
      · by_cases h2 : -k = z
        · simp only [beq_iff_eq, if_neg h1, if_pos h2]; rfl
        · simp only [beq_iff_eq, if_neg h1, if_neg h2]; rfl
    rw [this, Int.natCast_add, Int.add_mul]
    simp
    omega
theorem plF_cnt0 (z : Int) : ∀ xs : List (Int × Nat), ((plF xs).count z : Int) = (plF xs).count (-z)
  | [] => rfl
  | (k, c) :: r => by
    show (((List.replicate c [k, -k]).flatten ++ plF r).count z : Int) = (((List.replicate c [k, -k]).flatten ++ plF r).count (-z) : Nat)
    rw [List.count_append, List.count_append, Int.natCast_add, Int.natCast_add, plF_cnt0 z r, rep_cnt, rep_cnt]
    congr 2
    by_cases h1 : k = z <;> by_cases h2 : -k = z <;> simp [h1, h2] <;> (try split) <;> (try split) <;> omega
theorem plF_mem {z : Int} : ∀ {xs : List (Int × Nat)}, z ∈ plF xs → ∃ p ∈ xs, z = p.1 ∨ z = -p.1
  | (k, c) :: r, h => by
    rcases List.mem_append.mp h with h | h
    · obtain ⟨l, hl, hz⟩ := List.mem_flatten.mp h
      rw [List.eq_of_mem_replicate hl] at hz
      refine ⟨(k, c), List.mem_cons_self, ?_⟩
      simpa using hz
    · obtain ⟨p, hp, e⟩ := plF_mem h
      exact ⟨p, List.mem_cons_of_mem _ hp, e⟩
theorem bal_none {xs : List Int} (h : ∀ z, (xs.count z : Int) = xs.count (-z)) : Fr.bal xs = [] := by
  unfold Fr.bal
  refine List.filter_eq_nil_iff.mpr fun p hp => ?_
  obtain ⟨i, _, rfl⟩ := List.mem_map.mp hp
  have := h ((i : Int) + 1)
  show ¬ decide (Fr.cnt xs ((i : Int) + 1) ≠ 0) = true
  unfold Fr.cnt
  rw [decide_eq_true_iff]
  omega
/-- words of drawn kinds, as often as counts tell -/
structure PlainOk (cs : List Nat) (ws : List (List Int)) (ks : List Int) : Prop where
  nd : ks.Nodup
  rg : ∀ k ∈ ks, 1 ≤ k ∧ k ≤ 26
  len : ks.length = 26
  pm : ws.flatten.Perm (plF (ks.zip cs))
  ne : ∀ w ∈ ws, w ≠ []
  l1 : 1 ≤ ws.length
  l4 : ws.length ≤ 4
theorem le_sum {c : Nat} : ∀ {cs : List Nat}, c ∈ cs → c ≤ cs.sum
  | d :: r, h => by
    rw [List.sum_cons]
    rcases List.mem_cons.mp h with rfl | h
    · omega
    · have := le_sum h
      omega
theorem sum_zip : ∀ (ks : List Int) (cs : List Nat), sumN (ks.zip cs) ≤ cs.sum
  | [], _ => Nat.zero_le _
  | _ :: _, [] => Nat.zero_le _
  | k :: ks, c :: cs => by
    have := sum_zip ks cs
    rw [List.zip_cons_cons, List.sum_cons]
    show c + sumN (ks.zip cs) ≤ _
    omega
theorem PlainOk.ok {cs : List Nat} {ws : List (List Int)} {ks : List Int} (h : PlainOk cs ws ks) (hs : cs.sum ≤ 12) : RimOk ws := by
  refine ⟨h.l1, h.l4, h.ne, ?_, fun x hx => ?_, bal_none fun z => ?_⟩
  · rw [h.pm.length_eq, plF_len]
    have := sum_zip ks cs
    omega
  · obtain ⟨p, hp, e⟩ := plF_mem (h.pm.mem_iff.mp hx)
    have := h.rg p.1 (List.of_mem_zip hp).1
    omega
  · rw [h.pm.count_eq, h.pm.count_eq]
    exact plF_cnt0 z _
def spPlain : Sp := fun vs H Q _ => ∃ (a c p : Addr) (cs : List Nat) (n : Nat), vs = [.ref a, .ref p] ∧ HandAt H a c n ∧ p ≠ a ∧ H p = some (.lst (iv (nats cs))) ∧ cs.length ≤ 20 ∧ 1 ≤ cs.sum ∧ cs.sum ≤ 30 ∧ n ≤ 6000 ∧
  ∀ l H' us ws ks, H l = none → Drew a c (n + 200) H H' → H' l = some (.lst us) → LLs H' us ws → PlainOk cs ws ks → Q (.ref l) H'
abbrev sPlain : Stmt := top 49
abbrev nPlain : List Str := ["_law_pen_here", "_law_counts", "_law_kinds", "_law_letters", "_law_at", "_law_count"]
theorem scPlain : FnScope nPlain ["_law_pen_here", "_law_counts"] (defScope sPlain) := ⟨rfl, rfl, rfl, by decide +kernel, rfl, by decide +kernel, by decide +kernel⟩
section
variable {P : Program} {w : World} {K : PySem.W.Frag} {mg : Str → Option Value} {base : Heap}
theorem ok_Plain {f : Addr} {fd : FuncData} (F : Fun K "_law_plain" "_law_plain" sPlain f fd) (N : TN mg)  (G_cut : Cal P w K mg base "_law_cut" 3 ["_law_pen_here", "_law_letters"] (spCut)) (G_mixed : Cal P w K mg base "_law_mixed" 2 ["_law_pen_here", "_law_some"] (spMixed)) : FnOk P w K mg base CX0 4 f fd ["_law_pen_here", "_law_counts"] (spPlain) := by
  refine F.ok scPlain (fun vs H Q E h => ?_) (fun cdv A outer s H vs Q E hr h => ?_)
  · obtain ⟨a, c, p, cs, n, rfl, _⟩ := h
    rfl
  · obtain ⟨a, c, p, cs, n, rfl, hH, hpa, hp, l20, h1, h30, hn, k⟩ := h
    refine ⟨_, pss_cons (ps_par (i := 2) (j := 3) (by rfl) scPlain.nd rfl rfl (by decide) rfl rfl (pa_cons (pe_cal G_mixed hr (by decide) (by rfl) (pa_cons (pv 0) (pa_cons (pe_listRg rfl (by rfl) N.list (prg_2 (by rfl) N.range pe_int pe_int)) pa_nil))) (pa_cons (pe_lst pa_nil) pa_nil)) (by rfl))
      (pss_cons (ps_for PassesOwn.never rfl (pi_enum (by rfl) N.enumerate (pa_cons (pv 1) pa_nil)) (pg_tup (n := 2) rfl (pgs_cons (pg_name (i := 4) scPlain.nd rfl (Or.inl rfl)) (pgs_cons (pg_name (i := 5) scPlain.nd rfl (Or.inl rfl)) pgs_nil)))
      (pss_one (ps_set (i := 3) scPlain.nd rfl (Or.inl rfl) (pe_op op_cat (pv 3) (pe_op op_rep (pe_lst (pa_cons (pe_ix ix_list (pv 2) (pv 4) (fun _ _ => rfl)) (pa_cons (pe_un un_neg (pe_ix ix_list (pv 2) (pv 4) (fun _ _ => rfl))) pa_nil))) (pv 5))))))
      (pss_one (ps_ret (pe_cal G_cut hr (by decide) (by rfl) (pa_cons (pv 0) (pa_cons (pe_cal G_mixed hr (by decide) (by rfl) (pa_cons (pv 0) (pa_cons (pv 3) pa_nil))) pa_nil)))))), ?_⟩
    refine ⟨_, rfl, _, _, rfl, rfl, ⟨by decide, by decide, by decide, by decide, by decide⟩, fun q hq => ?_⟩
    rw [show rgV 1 27 = iv (rgI 1 27) from rgV_I 1 27]
    have D0 : Drew a c n H (L2.upd H q (.lst (iv (rgI 1 27)))) := (Drew.refl hH).new hq
    refine ⟨a, c, q, _, n, rfl, D0.1, upd_same, by rw [List.length_map, rgI_len]; decide, by omega, fun lk H1 ys hlk D1 g1 pm => ?_⟩
    obtain ⟨ks, pk, rfl⟩ := perm_map pm _ rfl
    have lks : ks.length = 26 := by rw [pk.length_eq, rgI_len]
    have D1 : Drew a c (n + 26) H H1 := (D0.trans D1).mono (by rw [List.length_map, rgI_len]; omega)
    have hp1 := D1.2 _ _ hpa hp
    refine ⟨Nat.zero_le _, fun fo hfo => ⟨_, _, rfl, ?_⟩⟩
    have s2 := same_upd (o := .lst []) hfo
    have hnc : (nats cs).length = cs.length := List.length_map ..
    refine ⟨_, rfl, p, _, rfl, SqL.of (s2 _ _ hp1), ?_⟩
    refine for_it (walk_enum (K := K) (a := p) (xs := iv (nats cs))) (fun i σ H' => ∃ (v4 v5 : Option V) (l : Addr), σ = [some (.ref a), some (.ref p), some (.ref lk), some (.ref l), v4, v5] ∧ Drew a c (n + 26) H H' ∧ H' p = some (.lst (iv (nats cs))) ∧ H' lk = some (.lst (iv ks)) ∧ H' l = some (.lst (iv (plF ((ks.zip cs).take i)))))
      ⟨none, none, fo, rfl, D1.same s2, s2 _ _ hp1, s2 _ _ g1, upd_same⟩ (fun i σ H' _ ⟨_, _, _, _, _, h, _⟩ => SqL.of h) ?_ ?_
    · rintro i x σ H3 H4 hi ⟨v4, v5, l, rfl, D3, hp3, hk3, hl3⟩ ⟨T0, xi, yi, rfl, hT0, rfl, hx, hy⟩
      have hin : i < cs.length := by rw [List.length_map, hnc] at hi; exact hi
      obtain rfl := Option.some.inj hx
      have hik : i < ks.length := by omega
      have ey : yi = V.int ((cs[i] : Nat) : Int) := by
        have hy : (iv (nats cs))[i]? = some yi := hy
        unfold nats at hy
        rw [List.getElem?_map, List.getElem?_map, List.getElem?_eq_getElem hin] at hy
        exact (Option.some.inj hy).symm
      subst ey
      have sT := same_upd (o := .tup [.int (i : Int), V.int ((cs[i] : Nat) : Int)]) hT0
      have D4 := D3.same sT
      have hp4 := sT _ _ hp3
      have hk4 := sT _ _ hk3
      have hl4 := sT _ _ hl3
      have gT : L2.upd H3 T0 (.tup [.int (i : Int), V.int ((cs[i] : Nat) : Int)]) T0 = some (.tup [.int (i : Int), V.int ((cs[i] : Nat) : Int)]) := upd_same
      obtain ⟨H4, e4⟩ : ∃ H4, H4 = L2.upd H3 T0 (.tup [.int (i : Int), V.int ((cs[i] : Nat) : Int)]) := ⟨_, rfl⟩
      rw [← e4] at D4 hp4 hk4 hl4 gT ⊢
      refine ⟨T0, _, rfl, SqT.of gT, rfl, _, _, rfl, _, _, rfl, rfl, ?_⟩
      have hat : (iv ks)[i]? = some (V.int ks[i]) := iv_get (List.getElem?_eq_getElem hik)
      have hz : (ks.zip cs)[i]? = some (ks[i], cs[i]) := by
        rw [List.getElem?_zip_eq_some]
        exact ⟨List.getElem?_eq_getElem hik, List.getElem?_eq_getElem hin⟩
      have hzl : i < (ks.zip cs).length := (List.getElem?_eq_some_iff.mp hz).1
      have hst : plF ((ks.zip cs).take (i + 1)) = plF ((ks.zip cs).take i) ++ (List.replicate cs[i] [ks[i], -ks[i]]).flatten := by
        rw [List.take_succ_eq_append_getElem hzl, plF_app, (List.getElem?_eq_some_iff.mp hz).2]
        show _ ++ ((List.replicate cs[i] [ks[i], -ks[i]]).flatten ++ []) = _
        rw [List.append_nil]
      have hcb : cs[i] ≤ 30 := by
        have := le_sum (List.getElem_mem hin)
        omega
      have hpl : (plF ((ks.zip cs).take i)).length ≤ 60 := by
        rw [plF_len]
        have h1 : sumN ((ks.zip cs).take i) ≤ cs.sum := by
          rw [List.zip_eq_zipWith, List.take_zipWith, ← List.zip_eq_zipWith]
          refine Nat.le_trans (sum_zip _ _) ?_
          have := List.take_append_drop i cs
          have e2 : (cs.take i).sum + (cs.drop i).sum = cs.sum := by rw [← List.sum_append, this]
          omega
        omega
      generalize ks[i] = z at hat hst ⊢
      generalize cs[i] = cc at hst hcb ⊢
      refine ⟨_, rfl, _, rfl, _, rfl, lk, _, _, _, rfl, rfl, SqL.of hk4, atI_nat hat, _, rfl, _, rfl, lk, _, _, _, rfl, rfl, SqL.of hk4, atI_nat hat, _, rfl, by show 2 ≤ sizeLine; decide, fun q1 hq1 => ?_⟩
      have s5 := same_upd (o := .lst [.int z, .int (-z)]) hq1
      refine ⟨_, rfl, q1, (cc : Int), _, rfl, rfl, upd_same, by omega, by omega, Evl.sz_of (by show 2 * ((cc : Nat) : Int).toNat ≤ _; omega), fun q2 hq2 => ?_⟩
      have erep : (List.replicate (((cc : Nat) : Int).toNat) [V.int z, V.int (-z)]).flatten = iv (List.replicate cc [z, -z]).flatten := by
        rw [Int.toNat_natCast]
        simp [iv]
      rw [erep]
      have s6 := s5.trans (same_upd (o := .lst (iv (List.replicate cc [z, -z]).flatten)) hq2)
      refine ⟨l, q2, _, _, rfl, rfl, s6 _ _ hl4, upd_same, Evl.sz_of (by rw [List.length_map, List.length_map, rep_len]; omega), fun q3 hq3 => ?_⟩
      have s7 := s6.trans (same_upd (o := .lst (iv (plF ((ks.zip cs).take i)) ++ iv (List.replicate cc [z, -z]).flatten)) hq3)
      refine ⟨_, _, q3, rfl, D4.same s7, s7 _ _ hp4, s7 _ _ hk4, ?_⟩
      rw [upd_same, hst]
      simp [iv]
    · rintro σ H3 ⟨v4, v5, l, rfl, D3, hp3, hk3, hl3⟩
      have lzip : (ks.zip cs).length = cs.length := by rw [List.length_zip]; omega
      rw [List.length_map, hnc, ← lzip, List.take_length] at hl3
      have lpl : (plF (ks.zip cs)).length = 2 * sumN (ks.zip cs) := plF_len _
      have hsum : sumN (ks.zip cs) = cs.sum := by
        have : ∀ (ks : List Int) (cs : List Nat), cs.length ≤ ks.length → sumN (ks.zip cs) = cs.sum := by
          intro ks
          induction ks with
          | nil => intro cs h; cases cs with | nil => rfl | cons => exact absurd h (by simp)
          | cons k ks ih =>
            intro cs h
            cases cs with
            | nil => rfl
            | cons c cs =>
              rw [List.zip_cons_cons, List.sum_cons]
              show c + sumN (ks.zip cs) = _
              rw [ih cs (by simpa using h)]
        exact this ks cs (by omega)
      refine ⟨_, rfl, _, rfl, _, rfl, a, c, l, _, n + 26, rfl, D3.1, hl3, by rw [List.length_map]; omega, by omega, fun l2 H4 ys2 hl2 D4 g4 pm2 => ?_⟩
      obtain ⟨ms, pm3, rfl⟩ := perm_map pm2 _ rfl
      have D4' := (D3.trans D4).mono (n := n + 100) (by rw [List.length_map]; omega)
      have lms := pm3.length_eq
      refine ⟨a, c, l2, ms, n + 100, rfl, D4'.1, D3.1.ne hl2, g4, by omega, by omega, by omega, fun l3 H5 us ws hl3' D5 g5 hLL hok => ?_⟩
      obtain ⟨o1, o2, o3, o4⟩ := hok
      refine k l3 H5 us ws ks (D4'.back hl3') ((D4'.trans D5).mono (by omega)) g5 hLL ⟨pk.nodup_iff.mpr (rgI_nodup _ _), fun x hx => ?_, lks, by rw [o1]; exact pm3, o2, o3, o4⟩
      have := rgI_mem (pk.mem_iff.mp hx)
      omega
end
end W11
set_option Elab.async false
set_option linter.all false
set_option maxRecDepth 100000
set_option maxHeartbeats 600000
/-! C.m(..), m a plain def of the class C. -/
namespace CF
open PySem L2 PySem.Spec PyProof.Rows
/-- m is a def in C's body: it stands at g -/
structure CFn (K : PySem.W.Frag) (C : Addr) (mc : Value) (m : Str) (g : Addr) : Prop where
  rd : PySem.W.readsIn K C mc = true
  ga : PySem.W.specialIn K (.ref C) "__getattribute__" = some (some (.builtin "type.__getattribute__"))
  at_ : PySem.W.findCls K (.ref C) mc m = some (.val (.ref g))
  kp : PySem.W.keepIn K (.ref g) = true
section
variable {X : Cx} {k j : Nat} {C : Addr} {sp : Sp} {ps : List Str} {o e : Expr} {es : List Expr} {m : Str} {pos apos : Pos} {ta : TE} {t : TA} {pl : Sem Bool} {fd : FuncData} {g : Addr} {mc : Value}
theorem pe_cfn (he : PE X o ta) (c : CFn X.K C mc m g) (F : FnOk X.prog X.w X.K X.mg X.base CX0 k g fd ps sp) (hr : Room k X.A) (hb : Binds X.K fd ps []) (ha : PA X (e :: es) t)
    (hst : starEach (e :: es) X.env = (false, eval e X.env) :: starEach es X.env := by rfl) (hpl : (backTo pos (starEach es X.env)).any (·.1) = false := by rfl)
    (ht : eval (.Call (.Attribute o m apos) (e :: es) [] pos) X.env = (do
      let ov ← eval o X.env
      standAt apos.atName
      let (f, first) ← holding [ov] (getMethod ov m pl)
      callWith pos f first (backTo pos (starEach (e :: es) X.env)) (backToKw pos (keywordEach [] X.env))) := by rfl) :
    PE X (.Call (.Attribute o m apos) (e :: es) [] pos) (MStat.tSMeth C sp ta t) := by
  refine ⟨fun pins s σ H Q I h => ?_⟩
  refine PySem.W.methodCall_KW (pl := pl) (thn (he.run pins s σ H _ I h) fun u s1 ⟨x, H1, I1, rx, ex, q⟩ => ?_) ht
  subst ex
  obtain rfl : u = Value.ref C := rx
  refine PySem.W.method_cls I1.kIn c.ga (PySem.W.cls_value I1.kIn c.rd c.at_ (handed_of (v := V.ref g) rfl) ?_)
  have I2 := I1.tok (t := s1.toks + 1)
  refine PySem.W.callWith_K (first := []) (h₀ := X.base) I2.ok.mod.kin c.kp (thn (ha.run pos pins _ σ H1 _ I2 q) fun us s3 ⟨vs, H2, I3, rv, q2⟩ => ⟨I3.kIn, ?_⟩) hst hpl
  exact run_fn (us := us) (vs := vs) (dvs := []) (ds := []) F hr hb .nil pass0 I3 rv (by simpa using q2)
end
end CF
namespace W11
open PySem L2 PySem.Spec PyProof.Rows WR WB WE WS
/-! ### errors with one field -/
def spI1 (fl : Str) (C : Addr) : Sp := fun vs H Q _ => ∃ (a : Addr) (v : V), vs = [.ref a, v] ∧ H a = some (exo a C none) ∧ ∀ dx, H dx = none → dx ≠ a → Q .non (L2.upd (L2.upd H dx (exd dx [(fl, v)])) a (exo a C (some dx)))
structure ErrC (P : Program) (w : World) (K : PySem.W.Frag) (mg : Str → Option Value) (base : Heap) (C : Addr) (x : Str) (ps : List Str) (sp : Sp) : Prop where
  oex : OexC K C
  ini : ∃ (fI : Addr) (fd : FuncData), PySem.W.findIn K (.ref C) "__init__" = some (some (.ref fI)) ∧ PySem.W.typeIn K (.ref fI) = some (.type "function") ∧ FnOk P w K mg base CX0 2 fI fd ps sp ∧ Binds K fd ps []
  g : mg x = some (.ref C)
  xf : XfC K C
  te : PySem.W.exmOne K (.ref C) (.ref C) = some true
abbrev sInitMi : Stmt := inClass (top 4) 0
abbrev nInitMi : List Str := ["self", "value"]
theorem scInitMi : FnScope nInitMi ["self", "value"] (defScope sInitMi) := ⟨rfl, rfl, rfl, by decide +kernel, rfl, by decide +kernel, by decide +kernel⟩
abbrev sInitNP : Stmt := inClass (top 5) 0
abbrev nInitNP : List Str := ["self", "value"]
theorem scInitNP : FnScope nInitNP ["self", "value"] (defScope sInitNP) := ⟨rfl, rfl, rfl, by decide +kernel, rfl, by decide +kernel, by decide +kernel⟩
section
variable {P : Program} {w : World} {K : PySem.W.Frag} {mg : Str → Option Value} {base : Heap}
theorem ok_initMi {C f : Addr} {fd : FuncData} (F : Fun K "__init__" "Missing.__init__" sInitMi f fd) (O : OexC K C) (n1 : PySem.W.findIn K (.ref C) "value" = some none) : FnOk P w K mg base CX0 1 f fd ["self", "value"] (spI1 "value" C) := by
  refine F.ok scInitMi (fun vs H Q E h => ?_) (fun cdv A outer s H vs Q E hr h => ?_)
  · obtain ⟨a, v, rfl, _⟩ := h
    rfl
  · obtain ⟨a, v, rfl, hA, k⟩ := h
    refine ⟨_, pss_one (ps_ost (pv 0) (pv 1)), ?_⟩
    exact ⟨_, rfl, _, rfl, a, C, rfl, O, n1, .inl ⟨hA, fun dx h1 h2 => k dx h1 h2⟩⟩
/-- NoPlace's own __init__ calls that of Missing -/
theorem ok_initNP {C CM g f : Addr} {mc : Value} {fd fdm : FuncData} (F : Fun K "__init__" "NoPlace.__init__" sInitNP f fd) (hM : mg "Missing" = some (.ref CM)) (c : CF.CFn K CM mc "__init__" g) (FM : FnOk P w K mg base CX0 1 g fdm ["self", "value"] (spI1 "value" C)) (bM : Binds K fdm ["self", "value"] []) : FnOk P w K mg base CX0 2 f fd ["self", "value"] (spI1 "value" C) := by
  refine F.ok scInitNP (fun vs H Q E h => ?_) (fun cdv A outer s H vs Q E hr h => ?_)
  · obtain ⟨a, v, rfl, _⟩ := h
    rfl
  · obtain ⟨a, v, rfl, hA, k⟩ := h
    refine ⟨_, pss_one (ps_expr (CF.pe_cfn (pe_glob (v := .ref CM) (by rfl) hM rfl) c FM hr bM (pa_cons (pv 0) (pa_cons (pv 1) pa_nil)))), ?_⟩
    exact ⟨rfl, _, rfl, _, rfl, a, v, rfl, hA, fun dx h1 h2 => k dx h1 h2⟩
end
theorem heap1 {H : Hp} {a d : Addr} {e1 e2 e3 o : HO} (ha : H a = none) (hd : d ≠ a) : L2.upd (del (L2.upd (L2.upd (L2.upd H a e1) d e2) a e3) a) d o = L2.upd H d o := by
  funext b
  by_cases h1 : b = d
  · subst h1
    rw [upd_same, upd_same]
  · rw [upd_ne h1, upd_ne h1]
    by_cases h2 : b = a
    · subst h2
      rw [del_same, ha]
    · rw [del_ne h2, upd_ne h2, upd_ne h1, upd_ne h2]
theorem mk1 {fl : Str} {C : Addr} {H : Hp} {v : V} {Q : XK} (k : ∀ d, H d = none → Q (.ref C) (some d) (L2.upd H d (.xd [(fl, v)]))) : ∀ a, H a = none → spI1 fl C [.ref a, v] (L2.upd H a (exo a C none))
    (fun z H2 => z = .non ∧ ∃ (d : Addr) (fs : List (Str × V)), H2 a = some (exo a C (some d)) ∧ H2 d = some (exd d fs) ∧ H d = none ∧ Q (.ref C) (some d) (L2.upd (del H2 a) d (.xd fs))) (fun _ _ _ => False) := by
  intro a ha
  refine ⟨a, v, rfl, upd_same, fun dx h1 h2 => ⟨rfl, dx, _, upd_same, by rw [upd_ne h2, upd_same], by rw [upd_ne h2] at h1; exact h1, ?_⟩⟩
  rw [heap1 ha h2]
  exact k dx (by rw [upd_ne h2] at h1; exact h1)
/-- an error of the class C with this field -/
abbrev Bad (fl : Str) (C : Addr) (E : XK) (H : Hp) (v : V) : Prop := ∀ H1, Same H H1 → ∀ d, H1 d = none → E (.ref C) (some d) (L2.upd H1 d (.xd [(fl, v)]))
structure CalX (P : Program) (w : World) (K : PySem.W.Frag) (mg : Str → Option Value) (base : Heap) (x : Str) (k : Nat) (ps : List Str) (sp : Sp) : Prop where
  ex : ∃ (f : Addr) (fd : FuncData), FnOk P w K mg base (L2.CX P w) k f fd ps sp ∧ mg x = some (.ref f) ∧ PySem.W.keepIn K (.ref f) = true ∧ Binds K fd ps []
section
variable {X : Cx} {x : Str} {k j : Nat} {ps : List Str} {sp : Sp} {p pos : Pos} {e : Expr} {es : List Expr} {t : TA} {E : XK}
theorem pe_calX (C : CalX X.prog X.w X.K X.mg X.base x k ps sp) (hr : Room j X.A) (hkj : k ≤ j) (hx : Passes (L2.CX X.prog X.w) X E) (hg : Gl X x) (ha : PA X (e :: es) t) (hdb : (x == ("__debug__" : Str)) = false := by decide)
    (he : starEach (e :: es) X.env = (false, eval e X.env) :: starEach es X.env := by rfl) (hpl : (backTo pos (starEach es X.env)).any (·.1) = false := by rfl) :
    PE X (.Call (.Name x p) (e :: es) [] pos) (tCall sp [] E t) := by
  obtain ⟨f, fd, F, hm, hk, hb⟩ := C.ex
  exact pe_call F (hr.mono hkj) hg hm hk hb .nil hx ha hdb he hpl
theorem passF : Passes (L2.CX X.prog X.w) X (fun _ _ _ => False) := fun pins σ H s e s' I c => by
  obtain ⟨a, B, H', cls, d, rfl, fl, hok, ub, na, os, ag, hE⟩ := c
  exact hE.elim
end
end W11
set_option Elab.async false
set_option linter.all false
set_option maxRecDepth 100000
set_option maxHeartbeats 600000
/-! == and != of the instances of a class with its own ==. -/
namespace OE
open PySem L2 PySem.Spec PyProof.Rows
def spE (R : Hp → Addr → Addr → Bool → Prop) : Sp := fun vs H Q _ => ∃ (p q : Addr) (b : Bool), vs = [.ref p, .ref q] ∧ R H p q b ∧ Q (.bl b) H
/-- C's == answers b where R says so -/
structure Eq (P : Program) (w : World) (K : PySem.W.Frag) (mg : Str → Option Value) (base : Heap) (C : Addr) (k : Nat) (R : Hp → Addr → Addr → Bool → Prop) : Prop where
  ex : ∃ (f : Addr) (fd : FuncData), FnOk P w K mg base CX0 k f fd ["self", "other"] (spE R) ∧ PySem.W.findIn K (.ref C) "__eq__" = some (some (.ref f)) ∧ PySem.W.isFn K (.ref f) = true ∧ Binds K fd ["self", "other"] []
  ins : ∀ H p q b, R H p q b → (∃ dx fs, H p = some (.ins C dx fs)) ∧ ∃ dy gs, H q = some (.ins C dy gs)
  ne : PySem.W.findIn K (.ref C) "__ne__" = some (some (.builtin "object.__ne__"))
  mr : PySem.W.mroIn K C (.type "object") = some true
def rE (R : Hp → Addr → Addr → Bool → Prop) : R2 := fun x y H Q => ∃ (p q : Addr) (b : Bool), x = .ref p ∧ y = .ref q ∧ R H p q b ∧ Q (.bl b) H
def rN (R : Hp → Addr → Addr → Bool → Prop) : R2 := fun x y H Q => ∃ (p q : Addr) (b : Bool), x = .ref p ∧ y = .ref q ∧ R H p q b ∧ Q (.bl (!b)) H
section
variable {X : Cx} {C : Addr} {k : Nat} {R : Hp → Addr → Addr → Bool → Prop} {pins : List (Addr × Obj)} {σ : L2.St} {H : Hp} {s : Shared}
theorem callE (M : Eq X.prog X.w X.K X.mg X.base C k R) {A : Around} (sb : Sub X k A) (I : Inv X pins σ H s) {a b : Addr} {c : Bool} (r : R H a b c) :
    ∃ f : Addr, PySem.W.findIn X.K (.ref C) "__eq__" = some (some (.ref f)) ∧ PySem.W.isFn X.K (.ref f) = true ∧ wpAny (model X.prog X.w) A (call (.ref f) [.ref a, .ref b]) (fun r s' => r = .bool c ∧ Inv X pins σ H s') X.xe s := by
  obtain ⟨f, fd, F, hs, hf, hb⟩ := M.ex
  refine ⟨f, hs, hf, ?_⟩
  have hsp : spE R [.ref a, .ref b] H (fun v H' => v = .bl c ∧ H' = H) E0 := ⟨a, b, c, rfl, r, rfl, rfl⟩
  have e0 : Env0 X.prog X.w X.K X.mg X.base A X.stack s H := by
    have e := I.env0
    exact ⟨by rw [sb.fr]; exact e.frames, e.mod, e.bs, e.bsz, e.funs, e.frf, e.hok, e.bare⟩
  have hl := F.len _ _ _ _ hsp
  have r2 : Vals [V.ref a, V.ref b] [Value.ref a, Value.ref b] := .cons rfl (.cons rfl .nil)
  refine wpAny_call (codeAny_mono (F.run A X.stack s H ⟨[.ref a, .ref b], []⟩ [.ref a, .ref b] [.ref a, .ref b] _ E0 sb.room e0 (by
    have := hb s [.ref a, .ref b] I.kIn (by simpa using hl)
    simpa using this) r2 hsp) fun r s' hq => ?_)
  cases r with
  | error e => exact pass0 pins σ H s e s' I hq
  | ok fl =>
    cases fl with
    | ret w =>
      obtain ⟨z, H', I', rz, ez, eH⟩ := I.after hq
      subst ez eH
      cases rz
      exact ⟨rfl, I'⟩
    | next => exact False.elim hq
    | brk => exact False.elim hq
    | cont => exact False.elim hq
theorem op_e (M : Eq X.prog X.w X.K X.mg X.base C k R) {j : Nat} (hr : Room j X.A) (hj : k ≤ j) : OpR X (compareOp .Eq) (rE R) := by
  intro pins s σ H x y u v Q I rx ry d
  obtain ⟨a, b, c, rfl, rfl, r, hq⟩ := d
  cases rx
  cases ry
  obtain ⟨⟨dx, fs, ha⟩, dy, gs, hb'⟩ := M.ins _ _ _ _ r
  obtain ⟨mA, J, _⟩ := ins_get I.hok ha
  obtain ⟨mB, J', _⟩ := ins_get I.hok hb'
  obtain ⟨od, J, _⟩ := J.look
  obtain ⟨od', J', _⟩ := J'.look
  obtain ⟨m, hF⟩ := I.fr
  have rm : Room k X.A := hr.mono hj
  obtain ⟨f, hs, hf, hc⟩ := callE M ⟨rm, rfl⟩ I r
  show wpAny (model X.prog X.w) X.A (richCompare .Eq (.ref a) (.ref b)) (EP X pins σ Q) X.xe s
  refine PySem.W.cmp_K (op := .Eq) (tb := .ref C) rm.units0 hF I.ok.mod.kin J J'.type (by simp [PySem.W.notFirst]) hs hf (wpAny_mono hc (fun r s' q => ?_) fun _ _ z => z)
  obtain ⟨rfl, I'⟩ := q
  exact ⟨.bl _, H, I', rfl, hq⟩
theorem op_n (M : Eq X.prog X.w X.K X.mg X.base C k R) {j : Nat} (hr : Room j X.A) (hj : k + 1 ≤ j) : OpR X (compareOp .NotEq) (rN R) := by
  intro pins s σ H x y u v Q I rx ry d
  obtain ⟨a, b, c, rfl, rfl, r, hq⟩ := d
  cases rx
  cases ry
  obtain ⟨⟨dx, fs, ha⟩, dy, gs, hb'⟩ := M.ins _ _ _ _ r
  obtain ⟨mA, J, _⟩ := ins_get I.hok ha
  obtain ⟨mB, J', _⟩ := ins_get I.hok hb'
  obtain ⟨od, J, _⟩ := J.look
  obtain ⟨od', J', _⟩ := J'.look
  have rm4 : Room (k + 1) X.A := hr.mono hj
  obtain ⟨f, hs, hf, hc⟩ := callE (A := X.A.in1) M ⟨rm4.in1, rfl⟩ I r
  show wpAny (model X.prog X.w) X.A (richCompare .NotEq (.ref a) (.ref b)) (EP X pins σ Q) X.xe s
  refine NeK.rc_ne (by have := rm4.in1.units0; exact this) I.kIn J J' M.mr hs hf M.ne (wpAny_mono hc (fun r s' q => ?_) fun _ _ z => z)
  obtain ⟨rfl, I'⟩ := q
  exact ⟨_, rfl, .bl _, H, I', rfl, hq⟩
end
end OE
set_option Elab.async false
set_option linter.all false
set_option maxRecDepth 100000
set_option maxHeartbeats 2000000
/-! try: .. except X as n: y = n: the exception is kept by a name, asked for its class and its fields later. -/
namespace CK
open PySem PySem.Spec PyProof.Rows L2 TM
/-- at a: an exception that was caught, of the class cls, its own dict at d -/
def exk (a : Addr) (cls : Value) (d : Option Addr) : HO := .ext fun h => ∃ (oe : Obj) (vs : Array Value), h.get? a = some oe ∧ Zc cls d oe ∧ oe.data = .fields vs
theorem exk_ok {P : Program} {w : World} {H : Hp} {h : Heap} {a : Addr} {cls : Value} {d : Option Addr} {oe : Obj} {vs : Array Value} (e : h.get? a = some oe) (z : Zc cls d oe) (ed : oe.data = .fields vs) : ObjOk P w H h a (exk a cls d) :=
  ⟨⟨oe, vs, e, z, ed⟩, ⟨oe, e⟩, fun _ _ ⟨o, v, q, r⟩ k => ⟨o, v, k o q, r⟩⟩
theorem exk_at {P : Program} {w : World} {H : Hp} {h : Heap} {a : Addr} {cls : Value} {d : Option Addr} (hok : HOk P w H h) (e : H a = some (exk a cls d)) : ∃ (oe : Obj) (vs : Array Value), h.get? a = some oe ∧ Zc cls d oe ∧ oe.data = .fields vs := by
  have x : ObjOk P w H h a (.ext fun h => ∃ (oe : Obj) (vs : Array Value), h.get? a = some oe ∧ Zc cls d oe ∧ oe.data = .fields vs) := hok a _ e
  exact x.1
section
variable {X : Cx} {pins : List (Addr × Obj)} {σ : L2.St} {H : Hp} {s : Shared} {a : Addr} {cls : Value} {d : Option Addr} {oe : Obj} {vs : Array Value}
/-- an object that came up since the entry is tracked -/
theorem track (I : Inv X pins σ H s) (e : s.heap.get? a = some oe) (z : Zc cls d oe) (ed : oe.data = .fields vs) (hn : H a = none) (n0 : X.s_0.heap.get? a = none) (nL : a ≠ X.env.locals) (nP : ∀ p ∈ X.pn ++ pins, p.1 ≠ a) :
    Inv X pins σ (upd H a (exk a cls d)) s := by
  have neN : ∀ b, b ≠ a → upd H a (exk a cls d) b = H b := fun b h => upd_ne h
  have ne0 : ∀ b o, X.s_0.heap.get? b = some o → b ≠ a := fun b o q z => by
    rw [z, n0] at q
    cases q
  have nC : ∀ x c, X.env.cells.lookup x = some c → c ≠ a := fun x c q z => by
    obtain ⟨v, o, ho, hd⟩ := I.cell x c q
    rw [z, e] at ho
    cases ho
    rw [ed] at hd
    cases hd
  refine ⟨I.ok, I.os, I.bare, ⟨I.base.keep, I.base.slot, fun b o q n hx => ?_, I.base.there, fun b xs q => ?_, fun b o u q => ?_, fun b ps q => ?_⟩, I.loc, I.cell, ?_, fun x c q => ?_, fun p hp => ?_, HOk.laidN I.hok (fun _ _ q => q) hn (exk_ok e z ed), I.len⟩
  · rw [neN b (ne0 b o q)]
    exact I.base.free b o q n hx
  · have q2 := I.base.tups b xs q
    rw [neN b (ne_of_none q2 hn)]
    exact q2
  · have q2 := I.base.frzs b o u q
    rw [neN b (ne_of_none q2 hn)]
    exact q2
  · obtain ⟨m, q2⟩ := I.base.tbls b ps q
    exact ⟨m, by rw [neN b (ne_of_none q2 hn)]; exact q2⟩
  · rw [neN _ nL.symm]
    exact I.free
  · rw [neN c (nC x c q)]
    exact I.freeC x c q
  · obtain ⟨h1, h2, h3⟩ := I.pin p hp
    exact ⟨h1, by rw [neN p.1 (nP p hp)]; exact h2, h3⟩
end
/-- what ends a suite, the exception kept -/
def keepS (i : Nat) (a : Addr) (cls : Value) (d : Option Addr) (D : Ends) : Ends :=
  { nx := fun σ H => D.nx (σ.set i none) (upd H a (exk a cls d)), rt := fun v H => D.rt v (upd H a (exk a cls d)), bk := fun σ H => D.bk (σ.set i none) (upd H a (exk a cls d)), ct := fun σ H => D.ct (σ.set i none) (upd H a (exk a cls d)) }
def wishK (K : PySem.W.Frag) (out : WX) (D : Ends) (i : Nat) (c : Value) (say : Addr → Value → Option Addr → TS) : WX := fun cls d σ H =>
  ∃ b, PySem.W.exmOne K cls c = some b ∧ (b = true → ∀ a, H a = none → say a cls d (keepS i a cls d D) (σ.set i (some (.ref a))) H) ∧ (b = false → out cls d σ H)
section
variable {X : Cx} {pins : List (Addr × Obj)} {σ : L2.St} {H : Hp} {D : Ends} {out : WX} {cls : Value} {d : Option Addr} {a : Addr} {B : Heap} {s0 s : Shared}
theorem away (h : Held X pins σ H cls d a B s0 s) (hs : X.stack = X.env :: X.outer) : s0.heap.get? a = none := by
  obtain ⟨o, vs, ea, z, ed⟩ := h.fly.there
  have out_ : a ∉ frs X.stack := fun hm => by
    rw [hs] at hm
    obtain ⟨_, o', e', nf⟩ := h.fly.2.2.1.mem hm
    rw [ea] at e'
    cases e'
    exact nf _ ed
  cases e : s0.heap.get? a with
  | none => rfl
  | some o =>
    have := h.old a o e out_
    rw [h.fly.2.1] at this
    cases this
theorem goesK (h : Held X pins σ H cls d a B s0 s) (hs : X.stack = X.env :: X.outer) (hf : X.env.frame = some X.env.locals) (hex : X.ex = []) (tk : Takes X out) {x n : Str} {i : Nat} {c : Value} {say : Addr → Value → Option Addr → TS} {b0 : Stmt} {bs : List Stmt} {p1 p2 : Pos}
    (hN : X.N.Nodup) (hi : X.N[i]? = some n) (hl : X.env.kindOf n = some .local) (hc : Names X x c) (hsay : Says X (b0 :: bs) say) (w : wishK X.K out D i c say cls d σ H) :
    wpAny (model X.prog X.w) X.A (handleBy (.ref a) X.env [.ExceptHandler (some (.Name x p1)) (some n) (b0 :: bs) p2]) (SP X pins D) X.xe s := by
  obtain ⟨b, eb, yes, no⟩ := w
  obtain ⟨o, ea, z, ed, S⟩ := h.pinned hf
  have aw := away h hs
  have n0 : X.s_0.heap.get? a = none := by
    cases e : X.s_0.heap.get? a with
    | none => rfl
    | some o =>
      obtain ⟨o2, q⟩ := h.inv.base.there a o e (by rw [hex]; exact fun z => nomatch z)
      rw [aw] at q
      cases q
  have nP : ∀ p ∈ X.pn ++ pins, p.1 ≠ a := fun p hp q => by
    have := (h.inv.pin p hp).1
    rw [q, aw] at this
    cases this
  have look : PySem.W.Looks (model X.prog X.w) s.heap (typeOf (.ref a)) cls := fun A Q E s' k q => wpAny_typeOf_ref (k _ _ ea) (by rw [z.1]; exact q)
  have lm := PySem.W.exm_one (M := model X.prog X.w) h.now.kIn look eb
  have named : ∀ {p : Pos} {Q : Value → Shared → Prop} {E : Value → Shared → Prop}, Q c s → wpAny (model X.prog X.w) (X.A.mark (some (.ref a))) (eval (.Name x p) X.env) Q E s := fun {p Q E} k => by
    obtain ⟨g1, g2, m | ⟨m, v, nn⟩⟩ := hc
    · exact ld_glob (X := X.suite a ((a, o) :: (X.pn ++ pins))) S g1 m k g2
    · exact ld_blt (X := X.suite a ((a, o) :: (X.pn ++ pins))) S g1 m v k nn g2
  refine wpAny_handleBy_cons (codeAny_handlers_test (named (lm.here ?_))) (by intro q; cases q)
  cases b with
  | false => exact h.pass hs hf tk (no rfl)
  | true =>
    refine codeAny_handlers_suite_as (HandSPX.lands_againZ h.fly fun h4 fl4 up4 => ?_)
    have h' : Held X pins σ H cls d a B s0 { s with heap := h4 } := ⟨h.inv, h.old, h.up.trans up4, fl4, h.os, h.bare, h.free⟩
    obtain ⟨o4, _, z4, ed4, S4⟩ := h'.pinned hf
    refine store_ok (X := X.suite a ((a, o4) :: (X.pn ++ pins))) (v := .ref a) S4 hN hi (.inl hl) rfl (fun s5 S5 => ?_) (.inr hl)
    refine wpAny_mono ((hsay a o4 cls d (X.pn ++ pins) z4 ed4).run [] s5 _ H _ S5 (yes rfl a h.free)) (fun f s6 hsp => ?_) (fun _ _ z => False.elim z)
    have ok := h.inv.ok
    have end_ : ∀ {σ6 : L2.St} {H6 : Hp} {Q : Shared → Prop}, Inv (X.suite a ((a, o4) :: (X.pn ++ pins))) [] σ6 H6 s6 → (∀ s7, Inv X pins (σ6.set i none) (upd H6 a (exk a cls d)) s7 → Q s7) →
        wpAny (model X.prog X.w) X.A (do bindName X.env n .none; unbindBehindTheSuite X.env n p2) (fun _ s7 => Q s7) X.xe s6 := fun {σ6 H6 Q} S6 hq => by
      obtain ⟨g1, g2, g3, g4, g5⟩ := S6.pin (a, o4) (List.mem_append_left _ List.mem_cons_self)
      obtain ⟨vs4, ed5⟩ := ed4
      exact gone_ok (track (S6.unsuite ok) g1 z4 ed5 g2 n0 g3 nP) hN hi hl hq
    cases f with
    | next => obtain ⟨σ6, H6, S6, q6⟩ := hsp; exact end_ S6 fun s7 J7 => ⟨_, _, J7, q6⟩
    | brk => obtain ⟨σ6, H6, S6, q6⟩ := hsp; exact end_ S6 fun s7 J7 => ⟨_, _, J7, q6⟩
    | cont => obtain ⟨σ6, H6, S6, q6⟩ := hsp; exact end_ S6 fun s7 J7 => ⟨_, _, J7, q6⟩
    | ret u => obtain ⟨v6, σ6, H6, S6, r6, q6⟩ := hsp; exact end_ S6 fun s7 J7 => ⟨_, _, _, J7, r6, q6⟩
end
section
variable {X : Cx} {body : List Stmt} {pos : Pos} {tb : WX → TS} {out : WX} {x n : Str} {i : Nat} {c : Value} {say : Addr → Value → Option Addr → TS} {b0 : Stmt} {bs : List Stmt} {p1 p2 : Pos}
theorem ps_try_keep (hs : X.stack = X.env :: X.outer) (hf : X.env.frame = some X.env.locals) (hex : X.ex = []) (tk : Takes X out)
    (hb : ∀ (W : WX) (pn : List (Addr × Obj)) (xe : Value → Shared → Prop), Takes (X.tr pn xe) W → PassesOwn (model X.prog X.w) X.A X.env xe → PSs (X.tr pn xe) body (tb W))
    (hN : X.N.Nodup) (hi : X.N[i]? = some n) (hl : X.env.kindOf n = some .local) (hc : Names X x c) (hsay : Says X (b0 :: bs) say) :
    PS X (.Try body [.ExceptHandler (some (.Name x p1)) (some n) (b0 :: bs) p2] [] [] pos) (fun D σ H => tb (wishK X.K out D i c say) D σ H) := by
  refine ⟨fun pins s σ H D I h => ?_⟩
  have ok := I.ok
  have hfr : X.A.frames = some (X.env :: X.outer) := by rw [ok.frames, hs]
  refine wpAny_Try_except (wpAny_mono ((hb (wishK X.K out D i c say) (X.pn ++ pins) (fun e s₁ => wpAny (model X.prog X.w) X.A (noteFrame e X.env) (fun _ s₂ => wpAny (model X.prog X.w) X.A (setFlight e none) (fun _ s₃ =>
    wpAny (model X.prog X.w) X.A (handleBy e X.env [.ExceptHandler (some (.Name x p1)) (some n) (b0 :: bs) p2]) (SP X pins D) X.xe s₃) X.xe s₂) X.xe s₁) (fun u s' xx => ?_) PassesOwn.looking).run [] s σ H D (I.toTry _) h) (fun f s1 hsp => ?_) (fun e s1 he => he))
  · obtain ⟨a, B, s0, pins', σ', H', cls, d, rfl, J', old, up, sky, free, os, bare, w⟩ := xx
    have sky' : Sky B (X.env :: X.outer) a (Zc cls d) X.env.locals s'.heap := by rw [← hs]; exact sky
    exact Sky.land Zc.steady hfr hf sky' fun h3 fl3 up3 => goesK (s := { s' with heap := h3 }) ⟨J'.ofTry ok, old, up.trans up3, fl3, os, bare, free⟩ hs hf hex tk hN hi hl hc hsay w
  · cases f with
    | next => obtain ⟨σ', H', J', q⟩ := hsp; exact wpAny_execs_nil ⟨σ', H', J'.ofTry ok, q⟩
    | brk => obtain ⟨σ', H', J', q⟩ := hsp; exact ⟨σ', H', J'.ofTry ok, q⟩
    | cont => obtain ⟨σ', H', J', q⟩ := hsp; exact ⟨σ', H', J'.ofTry ok, q⟩
    | ret u => obtain ⟨v, σ', H', J', r, q⟩ := hsp; exact ⟨v, σ', H', J'.ofTry ok, r, q⟩
end
/-! ### the class of an exception that has a dict of its own -/
section
open PySem.W PySem.Calls
variable {prog : Program} {w : World} {A : Around} {E : Value → Shared → Prop} {s : Shared} {K : Frag} {x D : Addr} {ox : Obj} {odo : Option Obj}
theorem clsD {Q : Option Value → Shared → Prop} (C : ExcC K D) (bnd : findObj K D odo "__class__" = some (.bind (.builtin "getset_descriptor.__get__") (.builtin "object.__class__"))) (X : K.In s.heap) (I : InstAt s.heap x ox D odo) (h : Q (some (.ref D)) { s with toks := s.toks + 1 }) :
    wpAny (model prog w) A (getAttr? (.ref x) "__class__") Q E s := by
  obtain ⟨hh, gs, dr, tk, ost⟩ := s
  have lT := I.type (M := model prog w)
  have lA := looks_findIn (M := model prog w) X C.hg
  have lB := looks_findIn (M := model prog w) X C.hk
  have lO := looks_find (M := model prog w) X I bnd
  have isB : Looks (model prog w) hh (isInstance (.ref x) (.type "BaseException")) true := lT.andThen (looks_subIn X C.hs)
  have n2 : (Value.builtin "BaseException.__getattribute__" == .builtin "object.__getattribute__") = false := by
    decide +kernel
  have n1 : (onTheHeap (Value.ref D) && Value.builtin "BaseException.__getattribute__" == .builtin "object.__getattribute__") = false := by
    rw [n2]
    rfl
  unfold getAttr? getAttrBy? getAttrBy
  refine wpAny_bind (wpAny_mkText ?_)
  refine wpAny_bind (wpAny_attempt (wpAny_holding ?_))
  refine wpAny_bind (lT.at (wpAny_bind (lA.at ?_)))
  show wpAny _ _ (if (onTheHeap (Value.ref D) && Value.builtin "BaseException.__getattribute__" == Value.builtin "object.__getattribute__") = true then _ else _) _ _ _
  rw [n1, if_neg (by decide)]
  unfold getAttrByItsOwn hookBefore
  refine wpAny_bind ?_
  rw [if_pos (by rfl)]
  refine lB.at (wpAny_bind (wpAny_attempt (wpAny_holding ?_)))
  unfold callGetattribute
  rw [if_neg (show ¬ (false && onTheHeap (Value.builtin "BaseException.__getattribute__")) = true by decide)]
  unfold boundAndCalled
  rw [PySem.F.excAttr_ValueError.ga.bind (.ref x)]
  refine wpAny_bind (wpAny_pure ?_)
  show wpAny _ _ (call (.builtin "BaseException.__getattribute__") [.ref x, .str "__class__" tk]) _ _ _
  refine wpAny_call (codeAny_call_builtin PySem.F.excAttr_ValueError.ga.plain PySem.F.entry_bexc_ga ?_)
  refine @check_slot (model prog w) _ _ ⟨hh, gs, dr, tk + 1, ost⟩ "BaseException.__getattribute__" "BaseException" "__getattribute__" (.ref x) [.str "__class__" tk] [] _ (by decide +kernel) (by decide +kernel) isB (PySem.F.args_bexc_ga (.ref x) (.str "__class__" tk)) ?_
  unfold Builtin.«object.__getattribute__»
  refine wpAny_bind (wpAny_of_eq (a := ((Value.ref x : Value), [Value.str "__class__" tk])) (by first | rfl | (simp only [slotArgs]; rfl)) ?_)
  refine wpAny_bind (wpAny_pure (wpAny_bind (lT.at (wpAny_bind (lO.at ?_)))))
  show wpAny _ _ (holding [Value.builtin "object.__class__"] (call (.builtin "getset_descriptor.__get__") [.builtin "object.__class__", .ref x, .ref D]) >>= ret) _ _ _
  refine wpAny_bind (wpAny_holding (wpAny_call (class_get (s := ⟨hh, gs, dr, tk + 1, ost⟩) X I C.hm (wpAny_pure ?_))))
  show wpAny _ _ (handedOut (.ref D)) _ _ _
  rw [handedOut_of (v := .ref D) rfl]
  first
    | exact wpAny_pure (wpAny_pure h)
    | exact wpAny_pure (wpAny_bind (wpAny_pure (wpAny_pure h)))
    | exact wpAny_pure h
theorem kitD {od : Obj} (C : ExcC K D) : KitX K (.ref x) (.ref D) (fun h => InstAt h x ox D (some od)) where
  ty := fun _ _ _ I => I.type
  it := fun _ _ X _ => by
    obtain ⟨cd, hc, _⟩ := any_some C.hd
    unfold clsIn at hc
    split at hc
    · rename_i c1 d1 cd1 sl1 ho
      intro A' Q' E' s' k q
      unfold isType loadHead
      exact wpAny_bind (wpAny_loadPart (k _ _ (X _ _ ho)) (wpAny_pure q))
    · cases hc
  ne := fun h tp dd its n sl X htp => by
    obtain ⟨cd, hc, _⟩ := any_some C.hd
    refine Bool.eq_false_iff.mpr fun q => ?_
    have e : D = tp := Value.ref.inj (beq_iff_eq.mp q)
    subst e
    unfold clsIn at hc
    split at hc
    · rename_i c1 d1 cd1 sl1 ho
      cases (X _ _ ho).symm.trans htp
    · cases hc
  ca := fun X I k => clsD C (findObj_data (by obtain ⟨cd, hc, _⟩ := any_some C.hd; rw [hc] <;> rfl) C.ha C.hn C.ht) X I k
end
section
variable {X : Cx}
/-! ### asked later -/
/-- isinstance(x, c), x any value or an exception that was kept -/
def rIsC (K : PySem.W.Frag) : List V → Hp → VK → Prop := fun xs H Q => rIsi K xs H Q ∨ ∃ (a D dd : Addr) (fs : List (Str × V)) (c : V) (cv : Value) (b : Bool), xs = [.ref a, c] ∧ H a = some (exk a (.ref D) (some dd)) ∧ H dd = some (.xd fs) ∧ ExcC K D ∧ (∀ u, RelV c u → u = cv) ∧ PySem.W.kitOne K (.ref D) cv = some b ∧ Q (.bl b) H
theorem call_isC : CallR X (.builtin "isinstance") (rIsC X.K) := by
  intro pins s σ H xs us Q I r h
  rcases h with h | ⟨a, D, dd, fs, c, cv, b, rfl, ha, hdd, C, hcv, e, q⟩
  · exact call_isi pins s σ H xs us Q I r h
  · cases r with
    | cons rx rr =>
      cases rr with
      | cons rt rr =>
        cases rr
        cases rx
        have ec := hcv _ rt
        subst ec
        obtain ⟨oe, vs, hget, hz, hv⟩ := exk_at I.hok ha
        obtain ⟨mA, hns, hr⟩ := (show ObjOk X.prog X.w H s.heap dd (.xd fs) from I.hok dd _ hdd)
        obtain ⟨od, ho, hl⟩ := lookIn_ns hns
        have J : PySem.W.InstAt s.heap a oe D (some od) := ⟨hget, hz.1, by unfold PySem.W.notCls; rw [hv] <;> rfl, by rw [hz.2]; exact ho⟩
        exact PySem.W.kia_one (kitD C) I.kIn J e (fun z => nomatch z) fun tk => ⟨.bl b, H, I.tok tk, rfl, q⟩
/-- y.f, y an exception that was kept -/
def tKf (C : Addr) (f : Str) (te : TE) : TE := fun σ H Q => te σ H fun x H1 => ∃ (a dd : Addr) (fs : List (Str × V)) (v : V), x = .ref a ∧ H1 a = some (exk a (.ref C) (some dd)) ∧ H1 dd = some (.xd fs) ∧ fs.lookup f = some v ∧ Q v H1
theorem pe_kf {C : Addr} {e : Expr} {te : TE} {pos : Pos} {f : Str} (T : XfC X.K C) (hno : PySem.W.findIn X.K (.ref C) f = some none) (he : PE X e te) (hb : attributeBase e f X.env (eval e X.env) = eval e X.env := by rfl) :
    PE X (.Attribute e f pos) (tKf C f te) := by
  refine ⟨fun pins s σ H Q I h => ?_⟩
  refine attr_of hb (thn (he.run pins s σ H _ I h) fun u s1 hh => ?_)
  obtain ⟨x, H1, I1, rx, a, dd, fs, v, ex, hA, ea, l, q⟩ := hh
  subst ex
  obtain rfl : u = Value.ref a := rx
  obtain ⟨oe, vs, ha, hz, hd⟩ := exk_at I1.hok hA
  have hx : ObjOk X.prog X.w H1 s1.heap dd (.xd fs) := I1.hok dd _ ea
  obtain ⟨mA, hns, hr⟩ := hx
  obtain ⟨od, ho, hl⟩ := lookIn_ns hns
  obtain ⟨u, hu, ru⟩ := RelO.some_of (v := v) (o := mA f) (by rw [← l]; exact hr f)
  have J : PySem.W.InstAt s1.heap a oe C (some od) := ⟨ha, hz.1, by unfold PySem.W.notCls; rw [hd] <;> rfl, by rw [hz.2]; exact ho⟩
  exact HandSPX.exc_get I1.kIn J T.ga T.gg T.exC (PySem.W.findObj_own T.hdC hno rfl (by rw [hl, hu])) (handed_of ru) ⟨v, H1, I1.tok _, ru, q⟩
end
end CK
set_option Elab.async false
set_option linter.all false
set_option maxRecDepth 100000
set_option maxHeartbeats 600000
/-! repr of any data; isinstance of a kept exception against a tuple of classes. -/
namespace RA
open PySem L2 PySem.Spec PyProof.Rows
mutual
theorem dp_same {K : PySem.W.Frag} {H H' : Hp} (s : ∀ b o, H b = some o → H' b = some o) : ∀ {v : V} (d : PyData), Dp K H v d → Dp K H' v d
  | _, .none, h => by cases h; exact .non
  | _, .bool _, h => by cases h; exact .bl _
  | _, .int _, h => by cases h; exact .int _
  | _, .str _, h => by cases h; exact .str _
  | _, .list ds, h => by
    cases h with
    | lst h1 h2 => exact .lst (Same.seq s h1) (dp_sameA s ds h2)
  | _, .tuple ds, h => by
    cases h with
    | tup h1 h2 => exact .tup (WR.Same.seqT s h1) (dp_sameA s ds h2)
  | _, .dict _, h => by cases h
theorem dp_sameA {K : PySem.W.Frag} {H H' : Hp} (s : ∀ b o, H b = some o → H' b = some o) : ∀ {vs : List V} (ds : List PyData), DpAll K H vs ds → DpAll K H' vs ds
  | _, [], h => by cases h; exact .nil
  | _, d :: ds, h => by
    cases h with
    | cons h1 h2 => exact .cons (dp_same s d h1) (dp_sameA s ds h2)
end
/-- repr shows it -/
def Shw (d : PyData) : Prop := d.showable = true ∧ d.hasDict = false ∧ d.depth ≤ 30 ∧ d.shown.length ≤ sizeLine
def rReprA (K : PySem.W.Frag) : List V → Hp → VK → Prop := fun xs H Q => ∃ (x : V) (d : PyData), xs = [x] ∧ Dp K H x d ∧ Shw d ∧ Q (.str d.shown) H
variable {X : Cx}
theorem call_reprA (hg : X.A.guards = some []) (hu : X.A.units + 40 < cLine) : CallR X (.builtin "repr") (rReprA X.K) := by
  intro pins s σ H xs us Q I rel ask
  obtain ⟨x, d, rfl, hd, ⟨hs, hn, hdep, hz⟩, q⟩ := ask
  cases hd with
  | non =>
    obtain ⟨u, rfl, ru⟩ := vals1 rel
    cases ru
    exact PySem.P.repr_of_none ⟨.str _, H, I.tok _, ⟨_, rfl⟩, q⟩
  | bl b =>
    obtain ⟨u, rfl, ru⟩ := vals1 rel
    cases ru
    exact PySem.P.repr_of_bool ⟨.str _, H, I.tok _, ⟨_, by cases b <;> rfl⟩, q⟩
  | int i =>
    obtain ⟨u, rfl, t, rfl⟩ := vals1 rel
    exact PySem.P.repr_of_int (by simpa [PyData.showable] using hs) ⟨.str _, H, I.tok _, ⟨_, rfl⟩, q⟩
  | str z =>
    obtain ⟨u, rfl, t, rfl⟩ := vals1 rel
    exact PySem.P.repr_of_str ⟨.str _, H, I.tok _, ⟨_, rfl⟩, q⟩ hz
  | lst h1 h2 => exact RG.call_repr hg hu pins s σ H _ us Q I rel ⟨_, _, rfl, .lst h1 h2, hs, hn, hdep, hz, q⟩
  | tup h1 h2 => exact RG.call_repr hg hu pins s σ H _ us Q I rel ⟨_, _, rfl, .tup h1 h2, hs, hn, hdep, hz, q⟩
theorem pe_either {e : Expr} {t1 t2 : TE} (h1 : PE X e t1) (h2 : PE X e t2) : PE X e (fun σ H Q => t1 σ H Q ∨ t2 σ H Q) := by
  refine ⟨fun pins s σ H Q I h => ?_⟩
  rcases h with h | h
  · exact h1.run pins s σ H Q I h
  · exact h2.run pins s σ H Q I h
open CK in
/-- isinstance(x, (c1, c2)), x any value or an exception that was kept -/
def rIsCT (K : PySem.W.Frag) : List V → Hp → VK → Prop := fun xs H Q => rIsiT K xs H Q ∨ ∃ (a D dd tp : Addr) (fs : List (Str × V)) (cs : List V) (us : List Value) (b : Bool), xs = [.ref a, .ref tp] ∧ H a = some (exk a (.ref D) (some dd)) ∧ H dd = some (.xd fs) ∧ ExcC K D ∧ H tp = some (.tup cs) ∧ Paired ClsV cs us ∧ PySem.W.kitAny K (.ref D) us = some b ∧ Q (.bl b) H
open CK in
theorem call_isCT : CallR X (.builtin "isinstance") (rIsCT X.K) := by
  intro pins s σ H xs us Q I r h
  rcases h with h | ⟨a, D, dd, tp, fs, cs, ws, b, rfl, ha, hdd, C, hT, k, e, q⟩
  · exact call_isiT pins s σ H xs us Q I r h
  · obtain ⟨u1, u2, rfl, r1, r2⟩ := vals2 r
    cases (show u2 = Value.ref tp from r2)
    obtain rfl : u1 = Value.ref a := r1
    obtain ⟨oe, vs, hget, hz, hv⟩ := exk_at I.hok ha
    obtain ⟨mA, hns, hr⟩ := (show ObjOk X.prog X.w H s.heap dd (.xd fs) from I.hok dd _ hdd)
    obtain ⟨od, ho, hl⟩ := lookIn_ns hns
    have J : PySem.W.InstAt s.heap a oe D (some od) := ⟨hget, hz.1, by unfold PySem.W.notCls; rw [hv] <;> rfl, by rw [hz.2]; exact ho⟩
    obtain ⟨_, its, rv, o, h1, h2, n, h3⟩ := (show ObjOk X.prog X.w H s.heap tp (.tup cs) from I.hok tp _ hT)
    have e3 := ClsV.all k rv
    subst e3
    obtain ⟨oc, od2, dt, sl⟩ := o
    simp only at h2 h3
    subst h2 h3
    exact PySem.W.kia_tup (kitD C) I.kIn J h1 e (fun z => nomatch z) fun tk => ⟨.bl b, H, I.tok tk, rfl, q⟩
end RA
set_option Elab.async false
set_option linter.all false
set_option maxRecDepth 100000
set_option maxHeartbeats 1000000
/-! x(lambda p=0: body): a lambda with one parameter that has a default; it is called without arguments. -/
namespace LamD
open PySem PySem.Spec PyProof.Rows L2 LamX
/-- the function: its defaults are the tuple at t -/
abbrev fnD (qual : Str) (params : Arguments) (body : Expr) (scope : Scope) (cl : List (Str × Addr)) (pm cdv ct dv : Value) : FuncData := { PySem.W.kla_fn "<lambda>" qual params body scope cl pm cdv ct with defaults := dv }
abbrev obD (qual : Str) (params : Arguments) (body : Expr) (scope : Scope) (cl : List (Str × Addr)) (pm cdv ct dv : Value) : Obj := { cls := .type "function", data := .func (fnD qual params body scope cl pm cdv ct dv) }
abbrev tupO (u : Value) : Obj := { cls := .type "tuple", data := .seq [u].toArray }
section
variable {M : Model} {A : Around} {E : Value → Shared → Prop} {s : Shared} {qual : Str} {params : Arguments} {body : Expr} {scope : Scope} {env : Env} {c P : Addr} {ps : Array Value} {pos : Pos} {mg : Str → Option Value} {clos : List (Str × Addr)} {Q : Value → Shared → Prop} {dv : Value}
/-- the function's end: its code object is new -/
theorem tail_new (hcl : closureFor scope env = pure clos) (hge0 : env.globals = mainGlobals) (hg : s.heap.Ns mainGlobals mg) (hcode : env.code = .ref c) (C : PySem.W.CodeHd s.heap c P) (hP : s.heap.get? P = some (PySem.W.tabObj ps)) (ht : TriplesOk ps.toList)
    (hnf : codeAmong pos ps.toList = none) (hgP : mainGlobals ≠ P) (hb : s.heap.BuiltinsAt mg P)
    (h : ∀ c' ctv h' tk, Heap.ExtBut P s.heap h' → s.heap.objs.size ≤ c' → c' < h'.objs.size → h'.CodeRec (.ref c') qual → h'.get? P = some (PySem.W.tabObj (ps ++ #[rawInt pos.line, rawInt pos.col, .ref c'])) →
      Q (.ref h'.objs.size) { s with heap := h'.push (obD qual params body scope clos ((mg "__name__").getD .none) (.ref c') ctv dv), toks := tk }) :
    wpAny M A (makeTail "<lambda>" qual params (.expr body) scope env dv .none none pos pos.line) Q E s := by
  obtain ⟨bm, ob, b1, b2, _, b3, b4, b5, b6, b7⟩ := hb
  -- from where the tuple of cells stands, or none
  have rest : ∀ (ctv : Value) (h0 : Heap), (∀ b o, s.heap.get? b = some o → h0.get? b = some o) → s.heap.objs.size ≤ h0.objs.size →
      wpAny M A (do
        let code ← functionCode env pos pos.line "<lambda>" qual params scope (.expr body)
        let bu ← builtinsFor mainGlobals env.builtins
        let nm ← nsGet mainGlobals "__name__"
        let dc ← (pure .none : Sem Value)
        newObj (.type "function") (.func { name := "<lambda>", qualname := qual, params := params, body := .expr body, scope := scope, globals := mainGlobals, closure := clos, closureTuple := ctv, code := code, builtins := bu, defaults := dv, kwdefaults := .none, annotations := none, pyModule := nm.getD .none, doc := dc })) Q E { s with heap := h0 } := by
    intro ctv h0 k0 z0
    have hP0 := k0 _ _ hP
    have C0 := C.keeps k0
    refine wpAny_bind (wpAny_functionCodeX hcode (C0.code hP0 ht) (C0.tab hP0) hnf fun c' h' tk hx hge hlt _ hrec htb _ => ?_)
    have hg0 : h0.Ns mainGlobals mg := by
      obtain ⟨o, es, ep, e, r⟩ := hg
      exact ⟨o, es, ep, k0 _ _ e, r⟩
    have hg' := hg0.extBut hx hgP
    refine wpAny_bind (wpAny_builtinsFor hg' b1 b2 (hx _ _ b3 (k0 _ _ b4)) b5 b6 b7 (wpAny_bind (wpAny_nsGet hg' (wpAny_bind (wpAny_pure ?_)))))
    exact wpAny_newObj_type (h c' ctv h' tk (fun b o n e => hx b o n (k0 _ _ e)) (Nat.le_trans z0 hge) hlt hrec htb.2) (by size_fits)
  unfold makeTail
  rw [hcl, hge0]
  refine wpAny_bind (wpAny_pure ?_)
  by_cases em : clos.isEmpty = true
  · simp only [em, if_true]
    exact wpAny_bind (wpAny_pure (rest .none s.heap (fun _ _ e => e) (Nat.le_refl _)))
  · simp only [em, if_false]
    exact wpAny_bind (wpAny_newTextTuple (rest _ _ (fun b o e => Heap.get?_push_of_some _ e) (by rw [Heap.size_push]; omega)))
/-- the function's end: its code object is known -/
theorem tail_hit {cv : Value} (hcl : closureFor scope env = pure clos) (hge0 : env.globals = mainGlobals) (hg : s.heap.Ns mainGlobals mg) (hcode : env.code = .ref c) (C : PySem.W.CodeHd s.heap c P) (hP : s.heap.get? P = some (PySem.W.tabObj ps)) (ht : TriplesOk ps.toList)
    (hf : codeAmong pos ps.toList = some cv) (hb : s.heap.BuiltinsAt mg P)
    (h : ∀ (ctv : Value) (h' : Heap) (tk : Tok), (∀ b o, s.heap.get? b = some o → h'.get? b = some o) → s.heap.objs.size ≤ h'.objs.size → Q (.ref h'.objs.size) { s with heap := h'.push (obD qual params body scope clos ((mg "__name__").getD .none) cv ctv dv), toks := tk }) :
    wpAny M A (makeTail "<lambda>" qual params (.expr body) scope env dv .none none pos pos.line) Q E s := by
  obtain ⟨bm, ob, b1, b2, _, b3, b4, b5, b6, b7⟩ := hb
  have rest : ∀ (ctv : Value) (h0 : Heap), (∀ b o, s.heap.get? b = some o → h0.get? b = some o) → s.heap.objs.size ≤ h0.objs.size →
      wpAny M A (do
        let code ← functionCode env pos pos.line "<lambda>" qual params scope (.expr body)
        let bu ← builtinsFor mainGlobals env.builtins
        let nm ← nsGet mainGlobals "__name__"
        let dc ← (pure .none : Sem Value)
        newObj (.type "function") (.func { name := "<lambda>", qualname := qual, params := params, body := .expr body, scope := scope, globals := mainGlobals, closure := clos, closureTuple := ctv, code := code, builtins := bu, defaults := dv, kwdefaults := .none, annotations := none, pyModule := nm.getD .none, doc := dc })) Q E { s with heap := h0 } := by
    intro ctv h0 k0 z0
    have hP0 := k0 _ _ hP
    have C0 := C.keeps k0
    have hg0 : h0.Ns mainGlobals mg := by
      obtain ⟨o, es, ep, e, r⟩ := hg
      exact ⟨o, es, ep, k0 _ _ e, r⟩
    refine wpAny_bind (wpAny_functionCode_hit hcode (C0.code hP0 ht) hf ?_)
    refine wpAny_bind (wpAny_builtinsFor hg0 b1 b2 (k0 _ _ b4) b5 b6 b7 (wpAny_bind (wpAny_nsGet hg0 (wpAny_bind (wpAny_pure ?_)))))
    exact wpAny_newObj_type (h ctv h0 s.toks k0 z0) (by size_fits)
  unfold makeTail
  rw [hcl, hge0]
  refine wpAny_bind (wpAny_pure ?_)
  by_cases em : clos.isEmpty = true
  · simp only [em, if_true]
    exact wpAny_bind (wpAny_pure (rest .none s.heap (fun _ _ e => e) (Nat.le_refl _)))
  · simp only [em, if_false]
    exact wpAny_bind (wpAny_newTextTuple (rest _ _ (fun b o e => Heap.get?_push_of_some _ e) (by rw [Heap.size_push]; omega)))
/-- the lambda's expression: its default is made, then a tuple of it, then the function -/
theorem eval_lam {d : Sem Value} (hdef : defaultsOf params env = ([d], []))
    (h : wpAny M A d (fun u s1 => wpAny M A (makeTail "<lambda>" (env.qual ++ "<lambda>") params (.expr body) scope env (.ref s1.heap.objs.size) .none none pos pos.line) Q E { s1 with heap := s1.heap.push (tupO u) }) E s) : wpAny M A (eval (.Lambda params body scope pos) env) Q E s := by
  rw [arm_eval_Lambda, hdef]
  show wpAny M A (do let dv ← evalAll [d]; let kdv ← holding dv (evalAllOpt []); makeFunction "<lambda>" (env.qual ++ "<lambda>") params (.expr body) scope env dv kdv [] pos pos.line) Q E s
  refine wpAny_bind ?_
  show wpAny M A (do let v ← d; let r ← holding [v] (evalAll []); pure (v :: r)) _ E s
  refine wpAny_bind (wpAny_mono h (fun u s1 h1 => ?_) fun _ _ z => z)
  refine wpAny_bind (wpAny_holding (wpAny_pure (wpAny_pure ?_)))
  refine wpAny_bind (wpAny_holding (wpAny_pure ?_))
  rw [makeFunction_eq]
  simp only [List.zip_nil_right, List.filterMap_nil, List.isEmpty_nil, List.isEmpty_cons, if_true, if_false, pure_bind]
  exact wpAny_bind (wpAny_newTextTuple h1)
end
section
variable {X : Cx} {pins : List (Addr × Obj)} {σ : L2.St} {H : Hp} {s : Shared}
theorem not_frame {f : Addr} {X : Cx} {pins : List (Addr × Obj)} {σ : L2.St} {H : Hp} {s : Shared} (I : Inv X pins σ H s) (hf : s.heap.objs.size ≤ f) : f ∉ frs X.stack := fun z => by
  rcases List.mem_cons.mp (I.stkSub _ z) with e | e
  · have h1 := I.lt
    rw [← e] at h1
    exact Nat.lt_irrefl _ (Nat.lt_of_lt_of_le h1 hf)
  · exact I.nofs hf e
/-- what stands when the lambda is made -/
structure Made (X : Cx) (T : List (Addr × Str)) (params : Arguments) (body : Expr) (scope : Scope) (H H1 : Hp) (s' : Shared) (f c' t : Addr) (u : Value) (pm ctv : Value) : Prop where
  ext : ExtN H H1
  tab : Tabs T H1
  fn : s'.heap.get? f = some (obD (X.env.qual ++ "<lambda>") params body scope (cloFrom X.env.cells scope.names []) pm (.ref c') ctv (.ref t))
  fnN : H1 f = none
  fnF : f ∉ frs X.stack
  tu : s'.heap.get? t = some (tupO u)
  tuN : H1 t = none
  tuF : t ∉ frs X.stack
  co : H1 c' = some (CodeO c' (X.env.qual ++ "<lambda>"))
theorem lam_makeD {T : List (Addr × Str)} {c P : Addr} {params : Arguments} {body e0 : Expr} {v0 : V} {scope : Scope} {pos : Pos} {Q : Value → Shared → Prop} (I : Inv X pins σ H s) (TB : TabB X.base X.mg c P) (hcode : X.env.code = .ref c)
    (hm : (P, X.env.qual ++ "<lambda>") ∈ T) (hu : ∀ p ∈ T, p.1 = P → p.2 = X.env.qual ++ "<lambda>") (hT : Tabs T H) (hdef : defaultsOf params X.env = ([eval e0 X.env], [])) (he : PE X e0 (tC v0)) (hfree : ∀ y ∈ scope.names, y.2 = .free → ∃ c, X.env.cells.lookup y.1 = some c)
    (h : ∀ (f c' t : Addr) (u pm ctv : Value) (H1 : Hp) (s' : Shared), Inv X pins σ H1 s' → Made X T params body scope H H1 s' f c' t u pm ctv → Q (.ref f) s') :
    wpAny (model X.prog X.w) X.A (eval (.Lambda params body scope pos) X.env) Q X.xe s := by
  refine eval_lam hdef (thn (he.run pins s σ H (fun v H1 => H1 = H) I rfl) fun u s1 ⟨v, H1, I1, r1, eH⟩ => ?_)
  subst eH
  obtain ⟨ps, hP, ht, ha⟩ := hT _ hm
  -- the tuple
  have tS : (s1.heap.push (tupO u)).get? s1.heap.objs.size = some (tupO u) := Heap.get?_push_size _ rfl
  have I2 : Inv X pins σ H1 { s1 with heap := s1.heap.push (tupO u), toks := s1.toks } := I1.kept fun b o e => Heap.get?_push_of_some _ e
  have tN : H1 s1.heap.objs.size = none := I1.hok.fresh (Nat.le_refl _)
  have tF : s1.heap.objs.size ∉ frs X.stack := not_frame I1 (Nat.le_refl _)
  have tlt : s1.heap.objs.size < (s1.heap.push (tupO u)).objs.size := by rw [Heap.size_push]; omega
  generalize s1.heap.objs.size = t at tS tN tF tlt ⊢
  show wpAny _ _ _ _ _ { s1 with heap := s1.heap.push (tupO u), toks := s1.toks }
  obtain ⟨s2, e2⟩ : ∃ s2 : Shared, s2 = { s1 with heap := s1.heap.push (tupO u), toks := s1.toks } := ⟨_, rfl⟩
  have tS2 : s2.heap.get? t = some (tupO u) := by rw [e2]; exact tS
  have tlt2 : t < s2.heap.objs.size := by rw [e2]; exact tlt
  rw [← e2] at I2 ⊢
  clear e2 tS tlt I1 I
  have bP : s2.heap.BuiltinsAt X.mg P := TB.bm.keeps I2.bk
  have hP' : s2.heap.get? P = some { cls := .none, data := .fields ps } := I2.hok P _ hP
  have tP : t ≠ P := fun z => by
    rw [z, hP'] at tS2
    have z2 : Data.fields ps = Data.seq _ _ := congrArg Obj.data (Option.some.inj tS2)
    cases z2
  cases hc : codeAmong pos ps.toList with
  | none =>
    refine tail_new (mg := X.mg) (c := c) (P := P) (ps := ps) (closure_ok hfree) I2.ok.glob (I2.mod.glob.keeps I2.bk) hcode (TB.code.keeps I2.bk) hP' ht hc TB.gP bP fun c' ctv h' tk hx hge hlt hrec htb => ?_
    obtain ⟨c2, oc, cs, tq, e2, hoc, hd, hv⟩ := hrec
    cases e2
    have hsz : s2.heap.objs.size ≤ h'.objs.size := Nat.le_trans hge (Nat.le_of_lt hlt)
    have nC : H1 c' = none := I2.hok.fresh hge
    have I3 := inv_table (t' := tk) (more := #[rawInt pos.line, rawInt pos.col, .ref c']) (h' := h'.push (obD (X.env.qual ++ "<lambda>") params body scope (cloFrom X.env.cells scope.names []) ((X.mg "__name__").getD .none) (.ref c') ctv (.ref t))) I2 hP
      (fun b o hb e => Heap.get?_push_of_some _ (hx b o hb e)) (Heap.get?_push_of_some _ htb) hge ⟨oc, cs, tq, Heap.get?_push_of_some _ hoc, hd, hv⟩
    have hE : ExtN H1 (upd (upd H1 P (.tbl (ps ++ #[rawInt pos.line, rawInt pos.col, .ref c']))) c' (CodeO c' (X.env.qual ++ "<lambda>"))) := fun b o e n => by
      rw [upd_ne (ne_of_none e nC), upd_ne (fun z => n ps (Option.some.inj (e.symm.trans (by rw [z]; exact hP))))]
      exact e
    have eL : (ps ++ #[rawInt pos.line, rawInt pos.col, .ref c']).toList = ps.toList ++ [rawInt pos.line, rawInt pos.col, .ref c'] := by simp
    have n1 : h'.objs.size ≠ c' := Nat.ne_of_gt hlt
    have n2 : h'.objs.size ≠ P := Nat.ne_of_gt (Nat.lt_of_lt_of_le (Heap.lt_size hP') hsz)
    refine h h'.objs.size c' t u ((X.mg "__name__").getD .none) ctv _ _ I3 ⟨hE, fun p hp => ?_, Heap.get?_push_size _ rfl, ?_, not_frame I2 hsz, Heap.get?_push_of_some _ (hx _ _ tP tS2), ?_, tF, upd_same⟩
    · by_cases hb : p.1 = P
      · rw [hu p hp hb, hb]
        refine ⟨_, by rw [upd_ne (ne_of_none hP nC), upd_same], by rw [eL]; exact PySem.TriplesOk_snoc _ _ _ _ ht, fun p' cv hcv => ?_⟩
        rw [eL] at hcv
        rcases among_app _ ht hcv with z | z
        · obtain ⟨c0, e1, e2⟩ := ha p' cv z
          exact ⟨c0, e1, hE _ _ e2 codeO_ne⟩
        · exact ⟨c', z, upd_same⟩
      · obtain ⟨ps', a1, a2, a3⟩ := hT p hp
        refine ⟨ps', by rw [upd_ne (ne_of_none a1 nC), upd_ne hb]; exact a1, a2, fun p' cv hcv => ?_⟩
        obtain ⟨c0, e1, e2⟩ := a3 p' cv hcv
        exact ⟨c0, e1, hE _ _ e2 codeO_ne⟩
    · rw [upd_ne n1, upd_ne n2]
      exact I2.hok.fresh hsz
    · rw [upd_ne (fun z => by rw [z] at tlt2; omega), upd_ne tP]
      exact tN
  | some cv =>
    obtain ⟨c', e, hco⟩ := ha pos cv hc
    subst e
    refine tail_hit (mg := X.mg) (c := c) (P := P) (ps := ps) (closure_ok hfree) I2.ok.glob (I2.mod.glob.keeps I2.bk) hcode (TB.code.keeps I2.bk) hP' ht hc bP fun ctv h' tk hx hsz => ?_
    have I3 : Inv X pins σ H1 { s2 with heap := h'.push (obD (X.env.qual ++ "<lambda>") params body scope (cloFrom X.env.cells scope.names []) ((X.mg "__name__").getD .none) (.ref c') ctv (.ref t)), toks := tk } := I2.kept fun b o e => Heap.get?_push_of_some _ (hx b o e)
    exact h h'.objs.size c' t u ((X.mg "__name__").getD .none) ctv H1 _ I3 ⟨ExtN.refl H1, hT, Heap.get?_push_size _ rfl, I2.hok.fresh hsz, not_frame I2 hsz, Heap.get?_push_of_some _ (hx _ _ tS2), tN, tF, hco⟩
end
/-! ### its body -/
/-- one name of its own, the parameter p1; captured ones and globals -/
structure LamS1 (sc scope : Scope) (p1 : Str) : Prop where
  kind : scope.kind = .function
  co : scope.isCoroutine = false
  gen : scope.isGenerator = false
  own : ∀ y ∈ scope.names, y.2 ≠ .cell ∧ (y.2 = .local → y.1 = p1)
  par : scope.names.lookup p1 = some .local
  free : ∀ y ∈ scope.names, y.2 = .free → sc.names.lookup y.1 = some .cell ∨ sc.names.lookup y.1 = some .free
def lamS1B (sc scope : Scope) (p1 : Str) : Bool :=
  decide (scope.kind = .function) && (!scope.isCoroutine && (!scope.isGenerator && (decide (scope.names.lookup p1 = some .local) && scope.names.all fun y => !decide (y.2 = .cell) && ((!decide (y.2 = .local) || decide (y.1 = p1)) && (!decide (y.2 = .free) || decide (sc.names.lookup y.1 = some .cell) || decide (sc.names.lookup y.1 = some .free))))))
theorem lamS1_by {sc scope : Scope} {p1 : Str} (h : lamS1B sc scope p1 = true) : LamS1 sc scope p1 := by
  unfold lamS1B at h
  simp only [Bool.and_eq_true, Bool.or_eq_true, Bool.not_eq_true', decide_eq_true_eq, decide_eq_false_iff_not, List.all_eq_true] at h
  obtain ⟨h1, h2, h3, h4, h5⟩ := h
  refine ⟨h1, h2, h3, fun y hy => ⟨(h5 y hy).1, fun e => ?_⟩, h4, fun y hy e => ?_⟩
  · rcases (h5 y hy).2.1 with z | z
    · exact absurd e z
    · exact z
  · rcases (h5 y hy).2.2 with (z | z) | z
    · exact absurd e z
    · exact .inl z
    · exact .inr z
section
variable {X : Cx} {pins : List (Addr × Obj)} {σ : L2.St} {H HZ : Hp} {s s1 : Shared}
theorem LamS1.has {scope : Scope} {p1 : Str} (L : LamS1 X.env.scope scope p1) (ok : X.Ok) : ∀ y ∈ scope.names, y.2 = .free → ∃ c, X.env.cells.lookup y.1 = some c := fun y hy e => by
  rcases L.free y hy e with k | k
  · exact ok.has _ (.inl k)
  · exact ok.has _ (.inr k)
theorem startD {A : Around} {outer : List Env} {E : XK} {scope : Scope} {p1 : Str} {u : Value} {f c' : Addr} {h₁ : Heap} {tk : Nat} (I : Inv X pins σ H s) (L : LamS1 X.env.scope scope p1) (new : p1 ∉ X.N) (e0 : Env0 X.prog X.w X.K X.mg X.base A outer s1 HZ) (hd : A.handled = none)
    (un : Un (frs X.stack) [] H HZ s.heap s1.heap) (hns : h₁.Ns s1.heap.objs.size fun y => [(p1, u)].reverse.lookup y) (kp : ∀ b o, s1.heap.get? b = some o → h₁.get? b = some o) :
    Inv (lamCx X A outer s1 HZ E scope f c') [] σ HZ { s1 with heap := h₁, toks := tk } := by
  have hfree := L.has I.ok
  have mem : ∀ {y : Str} {k : NameKind}, scope.names.lookup y = some k → (y, k) ∈ scope.names := fun e => PySem.mem_of_lookup e
  have cm : ∀ {y c}, (cloFrom X.env.cells scope.names []).lookup y = some c → X.env.cells.lookup y = some c := fun {y c} e => by
    rcases cloFrom_mem (PySem.mem_of_lookup e) with hm | ⟨h1, h2⟩
    · cases hm
    · obtain ⟨c1, hc⟩ := hfree _ h1 rfl
      have hc : X.env.cells.lookup y = some c1 := hc
      rw [show c = c1 by rw [h2, hc] <;> rfl]
      exact hc
  have look : ∀ {y}, scope.names.lookup y = some .free → ∃ c, (cloFrom X.env.cells scope.names []).lookup y = some c := fun {y} hl => mem_lookup (cloFrom_has (cells := X.env.cells) (acc := []) (mem hl))
  have cellK : ∀ {c : Addr} {v : Option Value}, H c = none → s.heap.IsCell c v → h₁.IsCell c v := fun {c v} n ⟨o, ho, hd⟩ => by
    obtain ⟨sl, q⟩ := un.any ho n (by simp)
    exact ⟨_, kp _ _ q, hd⟩
  have noA : ∀ b : Addr, b ∉ (lamCx X A outer s1 HZ E scope f c').ex := fun b z => absurd (show b ∈ ([] : List Addr) from z) (by simp)
  refine ⟨⟨e0.mod, L.kind, rfl, rfl, Nat.le_refl _, fun y z c e1 e2 => I.ok.inj y z c (cm e1) (cm e2), fun y hy => ?_, fun y c z _ => ?_, fun _ => hd, Around.frames_deeper e0.frames, .inr ⟨rfl, rfl⟩, fun b z => absurd z (noA b), e0.bs, e0.bsz, fun b _ _ => noA b,
      fun b z => absurd z (noA b), e0.funs, e0.frf⟩,
    rfl, e0.bare, Un.kept kp, ⟨_, hns, fun i y v e1 e2 e3 => ?_⟩, fun y c e => ?_, e0.hok.fresh (Nat.le_refl _), fun y c e => ?_, fun q hq => absurd (show q ∈ ([] : List (Addr × Obj)) ++ [] from hq) (by simp), e0.hok.kept kp, I.len⟩
  · have hy : scope.names.lookup y = some .cell ∨ scope.names.lookup y = some .free := hy
    rcases hy with hy | hy
    · exact absurd rfl (L.own _ (mem hy)).1
    · exact look hy
  · have z : false = true := z
    cases z
  · have e3 : Vis scope y := e3
    have hN : y ∈ X.N := List.mem_of_getElem? e1
    rcases e3 with k | k | k
    · have e4 : y = p1 := (L.own _ (mem k)).2 rfl
      exact absurd (by rw [← e4]; exact hN) new
    · exact absurd rfl (L.own _ (mem k)).1
    · obtain ⟨m, hn, hl⟩ := I.loc
      have hvis : Vis X.env.scope y := (L.free _ (mem k) rfl).elim (fun k => .inr (.inl k)) (fun k => .inr (.inr k))
      obtain ⟨w', r, q⟩ := hl i y v e1 e2 hvis
      obtain ⟨c2, h2⟩ := look k
      refine ⟨w', r, .inr ⟨.inr k, c2, h2, ?_⟩⟩
      have c1 := cm h2
      rcases q with ⟨k', _⟩ | ⟨_, c3, e', z⟩
      · have k' : X.env.scope.names.lookup y = some .local := k'
        rcases L.free _ (mem k) rfl with k2 | k2 <;> rw [show X.env.scope.names.lookup y = _ from k2] at k' <;> cases k'
      · rw [c1] at e'
        cases e'
        exact cellK (I.freeC y _ c1) z
  · obtain ⟨w', z⟩ := I.cell y c (cm e)
    exact ⟨w', cellK (I.freeC y c (cm e)) z⟩
  · obtain ⟨v, o, ho, hd⟩ := I.cell y c (cm e)
    exact un.free c o ho (I.freeC y c (cm e)) (by simp)
/-- what the call without arguments binds: the default -/
abbrev BindD (params : Arguments) (body : Expr) (scope : Scope) (p1 : Str) : Prop := ∀ (q : Str) (cl : List (Str × Addr)) (pm cv ctv u : Value) (t : Addr), ∃ k, bindArgs (fnD q params body scope cl pm cv ctv (.ref t)) ⟨[], []⟩ = (seqItems? (.ref t) >>= k) ∧ k (some [u].toArray) = pure [(p1, u)]
/-- x(), in the def that got the lambda -/
theorem pe_actD {CXg : CXT} {Eg : XK} {Ng : List Str} {qg : Str} {sg : Scope} {g f c' t : Addr} {u cdg pm ctv : Value} {params : Arguments} {body : Expr} {scope : Scope} {p1 : Str} {k i : Nat} {a : Str} {pn : List (Addr × Obj)} {xe : Value → Shared → Prop} {W : WX} {E : XK} {tb : TE} {T : List (Addr × Str)} {H0 : Hp} {q1 q2 : Pos}
    (I : Inv X pins σ H s) (L : LamS1 X.env.scope scope p1) (new : p1 ∉ X.N) (D : Made X T params body scope H0 H s f c' t u pm ctv) (hbind : BindD params body scope p1)
    (tk : Takes ((cxOf CXg X.prog X.w X.K X.mg X.base Ng qg sg g cdg X.A X.stack s H Eg).tr pn xe) W) (hW : ∀ cls d σ' H', E cls d H' → W cls d σ' H') (hr : Room (k + 1) (X.A.deeper (envOfC qg sg s.heap.objs.size g cdg)))
    (hbody : ∀ (A : Around) (outer : List Env) (s : Shared) (H : Hp), Room k (A.deeper (lamEnv X scope s.heap.objs.size f c')) → PE (lamCx X A outer s H E scope f c') body tb)
    (hN : Ng[i]? = some a) (hv : Vis sg a) (hd : (a == ("__debug__" : Str)) = false := by decide) (hcd : (a == ("__classdict__" : Str)) = false := by decide) :
    PE ((cxOf CXg X.prog X.w X.K X.mg X.base Ng qg sg g cdg X.A X.stack s H Eg).tr pn xe) (.Call (.Name a q1) [] [] q2)
      (fun σZ HZ Q => σZ[i]? = some (some (.ref f)) ∧ HZ c' = some (CodeO c' (X.env.qual ++ "<lambda>")) ∧ tb σ HZ Q) := by
  refine ⟨fun pinsZ sZ σZ HZ Q IZ h => ?_⟩
  obtain ⟨hs, hc, ht⟩ := h
  refine wpAny_Call_Name_kw (thn ((pe_var (pos := q1) (i := i) hN hv hd hcd).run pinsZ sZ σZ HZ (fun v H1 => v = .ref f ∧ H1 = HZ) IZ ⟨.ref f, hs, rfl, rfl⟩) fun w1 s1 ⟨v, H1, I1, r1, ev, eH⟩ => ?_)
  subst ev eH
  obtain rfl : w1 = Value.ref f := r1
  have no : ∀ b : Addr, b ∉ ([] : List Addr) := fun b z => nomatch z
  have of1 := I1.base.keep f _ D.fn D.fnN D.fnF (no _)
  have ot1 := I1.base.keep t _ D.tu D.tuN D.tuF (no _)
  refine PySem.W.callWith_F0 ⟨_, _, _, _, of1⟩ ?_
  have un : Un (frs X.stack) [] H H1 s.heap s1.heap := I1.base
  obtain ⟨⟨oc, cs, tt, hoc, hdc, hvc⟩, _, _⟩ := I1.hok c' _ hc
  have rc : codeAny (model X.prog X.w) (X.A.deeper (envOfC qg sg s.heap.objs.size g cdg)) (.call (.ref f) ⟨[], []⟩) (CR (L2.CX X.prog X.w) (envOfC qg sg s.heap.objs.size g cdg :: X.stack) X.prog X.w H1 s1 Q E) s1 := by
    refine PySem.W.kla_callFunE hr.depth of1 rfl L.co L.gen rfl ⟨c', oc, cs, tt, rfl, hoc, hdc, hvc⟩ ?_
    obtain ⟨kk, hb1, hb2⟩ := hbind (X.env.qual ++ "<lambda>") (cloFrom X.env.cells scope.names []) pm (.ref c') ctv u t
    rw [hb1]
    refine wpAny_bind (wpAny_seqItems ot1 rfl ?_)
    rw [hb2]
    refine wpAny_pure (wpAny_newFunctionEnv (fun y hy => (L.own y hy).1) (fun y hy => by rw [List.mem_singleton.mp hy]; exact L.par) (fun h₁ hns hsb => ⟨I1.nolimit.fresh _ hsb, ?_⟩) L.kind)
    show codeAny _ _ (.expr body (lamEnv X scope s1.heap.objs.size f c')) _ _
    have kp : ∀ b o, s1.heap.get? b = some o → h₁.get? b = some o := fun b o e => hsb.extBut b o (Nat.ne_of_lt (Heap.lt_size e)) (Heap.get?_push_of_some _ e)
    have J := startD (f := f) (c' := c') (E := E) (tk := s1.toks + [(p1, u)].length) I L new I1.env0 hr.hd un hns kp
    refine PySem.W.kla_codeExpr (wpAny_mono ((hbody _ _ s1 H1 (hr.deeper _)).run [] _ _ H1 Q J ht) (fun v s' hq => ?_) fun e s' hq => hq)
    obtain ⟨w', H', J', rv, q⟩ := hq
    exact ⟨w', H', J'.os, J'.bare, J'.base, J'.hok, rv, q⟩
  have hx : Passes (L2.CX X.prog X.w) ((cxOf CXg X.prog X.w X.K X.mg X.base Ng qg sg g cdg X.A X.stack s H Eg).tr pn xe) E := passes_call tk hW
  refine wpAny_call (codeAny_mono rc fun r s' hq => ?_)
  match r, hq with
  | .error e, hq => exact hx pinsZ σZ H1 s1 e s' I1 hq
  | .ok (.ret z), hq => exact I1.after hq
/-- x(lambda p1=e0: body) -/
theorem pe_lamcallD {T : List (Addr × Str)} {TT : (XK → Hp → VK → Prop) → Hp → VK → Prop} {x a p1 : Str} {g c P : Addr} {k : Nat} {pg : Arguments} {bg : List Stmt} {sg : Scope} {dV kV doc pm cdv ct oc : Value} {an od : Option Addr} {osl : Array (Option Value)} {Ng : List Str}
    {params : Arguments} {body e0 : Expr} {v0 : V} {scope : Scope} {t : XK → TE} {p lpos pos : Pos} (hg : Gl X x) (hm : X.mg x = some (.ref g)) (hk : PySem.W.keepIn X.K (.ref g) = true)
    (lk : X.K.lookup g = some ⟨oc, od, .func (PySem.W.fnOf x x pg bg sg dV kV doc pm an cdv ct), osl⟩) (hcg : PySem.W.codeIn X.K cdv x = true) (hb : L2.Binds X.K (PySem.W.fnOf x x pg bg sg dV kV doc pm an cdv ct) [a] []) (Sg : FnScope Ng [a] sg) (hNg : Ng[0]? = some a) (hva : Vis sg a)
    (hG : GivesTo X Ng x sg g cdv bg a (X.env.qual ++ "<lambda>") TT)
    (TB : TabB X.base X.mg c P) (hcode : X.env.code = .ref c) (hmT : (P, X.env.qual ++ "<lambda>") ∈ T) (hu : ∀ p ∈ T, p.1 = P → p.2 = X.env.qual ++ "<lambda>") (hr : Room (k + 2) X.A) (L : LamS1 X.env.scope scope p1) (new : p1 ∉ X.N) (hdef : defaultsOf params X.env = ([eval e0 X.env], [])) (he : PE X e0 (tC v0))
    (hbind : BindD params body scope p1)
    (hbody : ∀ (A : Around) (outer : List Env) (s : Shared) (H : Hp) (E : XK) (f c' : Addr), Room k (A.deeper (lamEnv X scope s.heap.objs.size f c')) → PE (lamCx X A outer s H E scope f c') body (t E))
    (hdb : (x == ("__debug__" : Str)) = false := by decide) (hd : (a == ("__debug__" : Str)) = false := by decide) (hcd : (a == ("__classdict__" : Str)) = false := by decide) :
    PE X (.Call (.Name x p) [.Lambda params body scope lpos] [] pos) (tLam T TT t) := by
  refine ⟨fun pins s σ H Q I h => ?_⟩
  obtain ⟨hT, h⟩ := h
  refine wpAny_Call_Name_kw (ld_glob I hg hm (PySem.W.callWith_K (h₀ := X.base) I.ok.mod.kin hk ?_ (by rfl) (by rfl)) hdb)
  refine Calls.spliced_cons (lam_makeD I TB hcode hmT hu hT hdef he (L.has I.ok) fun f c' tt u pm' ctv H1 s' I1 D => Calls.spliced_nil ⟨I1.kIn, ?_⟩)
  have rc : codeAny (model X.prog X.w) X.A (.call (.ref g) ⟨[.ref f], []⟩) (CR C8.CX0 X.stack X.prog X.w H1 s' Q C8.E0) s' := by
    refine run_ofS (N := Ng) (ps := [a]) (us := [.ref f]) (vs := [.ref f]) lk hcg Sg hr I1.env0 (hb s' [.ref f] I1.kIn rfl) (.cons rfl .nil) rfl fun hr' => ?_
    obtain ⟨t', ht', hq'⟩ := hG f c' s' H1 Q (fun E H' Q' => t E σ H' Q') (fun W pn xe E p1 p2 tk hW => pe_actD (i := 0) I1 L new D hbind tk hW hr' (fun A outer s H hr2 => hbody A outer s H E f c' hr2) hNg hva hd hcd) D.co (h H1 D.ext D.tab)
    exact ⟨t', ht'.nox, hq'⟩
  refine wpAny_call (codeAny_mono rc fun r s2 hq => ?_)
  match r, hq with
  | .error e, hq => exact (show False from hq).elim
  | .ok (.ret z), hq => exact I1.after hq
end
end LamD
set_option Elab.async false
set_option linter.all false
set_option maxRecDepth 100000
set_option maxHeartbeats 600000
namespace W11
open PySem L2 PySem.Spec PyProof.Rows WR WB
/-! ### what an item of a text tells -/
def lofL : List Nat → Option Int
  | [c] => if 97 ≤ c ∧ c ≤ 122 then some ((c : Int) - 96) else none
  | [c, d] => if d = 39 ∧ 97 ≤ c ∧ c ≤ 122 then some (-((c : Int) - 96)) else none
  | _ => none
theorem lofL1 (c : Nat) : lofL [c] = if 97 ≤ c ∧ c ≤ 122 then some ((c : Int) - 96) else none := rfl
theorem lofL2 (c d : Nat) : lofL [c, d] = if d = 39 ∧ 97 ≤ c ∧ c ≤ 122 then some (-((c : Int) - 96)) else none := rfl
def lof (z : Str) : Option Int := lofL z.cps.toList
def optV : Option Int → V
  | some i => .int i
  | none => .non
abbrev Fit (z : Str) : Prop := (∀ c ∈ z.cps.toList, c < 128) ∧ z.length ≤ 4000
theorem find_all : ∀ c, c < 128 → Txt.find alphS ⟨#[c]⟩ = if 97 ≤ c ∧ c ≤ 122 then (c : Int) - 97 else -1 := by decide +kernel
theorem find_no : Txt.find alphS ⟨#[]⟩ = 0 := by decide +kernel
theorem eta (z : Str) : z = ⟨z.cps.toList.toArray⟩ := by
  cases z
  rfl
theorem lof_itm {i : Int} (h1 : 1 ≤ i.natAbs) (h2 : i.natAbs ≤ 26) : lof (itm i) = some i := by
  unfold lof itm
  split
  · show (if 97 ≤ 96 + i.natAbs ∧ 96 + i.natAbs ≤ 122 then some (((96 + i.natAbs : Nat) : Int) - 96) else none) = some i
    rw [if_pos (by omega)]
    congr 1
    omega
  · show (if 39 = 39 ∧ 97 ≤ 96 + i.natAbs ∧ 96 + i.natAbs ≤ 122 then some (-(((96 + i.natAbs : Nat) : Int) - 96)) else none) = some i
    rw [if_pos (by omega)]
    congr 1
    omega
theorem itm_lof {z : Str} {i : Int} (h : lof z = some i) : itm i = z ∧ 1 ≤ i.natAbs ∧ i.natAbs ≤ 26 := by
  have ez := eta z
  unfold lof at h
  generalize z.cps.toList = l at h ez
  subst ez
  match l, h with
  | [], h => cases h
  | [c], h =>
    rw [lofL1] at h
    split at h
    · rename_i hc
      have e := Option.some.inj h
      refine ⟨?_, by omega, by omega⟩
      unfold itm
      rw [if_pos (by omega)]
      have : 96 + i.natAbs = c := by omega
      rw [this]
    · cases h
  | [c, d], h =>
    rw [lofL2] at h
    split at h
    · rename_i hc
      have e := Option.some.inj h
      refine ⟨?_, by omega, by omega⟩
      unfold itm
      rw [if_neg (by omega)]
      have e1 : 96 + i.natAbs = c := by omega
      rw [e1, hc.1]
    · cases h
  | _ :: _ :: _ :: _, h => cases h
theorem cut1 (l : List Nat) : cutS ⟨l.toArray⟩ none (some 1) = ⟨(l.take 1).toArray⟩ := by
  unfold cutS
  have e1 : (⟨l.toArray⟩ : Str).length = l.length := by simp [Str.length]
  have e2 := HT.sIx_nat l.length l.length 1
  have e2 : HT.sIx l.length l.length (some 1) = min 1 l.length := e2
  rw [e1, HT.sIx_none, e2]
  simp
theorem cutF (l : List Nat) : cutS ⟨l.toArray⟩ (some 1) none = ⟨(l.drop 1).toArray⟩ := by
  unfold cutS
  have e1 : (⟨l.toArray⟩ : Str).length = l.length := by simp [Str.length]
  have e2 : HT.sIx l.length 0 (some 1) = min 1 l.length := HT.sIx_nat l.length 0 1
  rw [e1, HT.sIx_none, e2]
  cases l with
  | nil => rfl
  | cons c r => simp
/-- list(a text) -/
def rLstS : List V → Hp → VK → Prop := fun xs H Q => ∃ z : Str, xs = [.str z] ∧ z.length ≤ 4000 ∧ ∀ q, H q = none → Q (.ref q) (L2.upd H q (.lst (z.cps.toList.map fun c => V.str ⟨#[c]⟩)))
theorem call_lstS {X : Cx} (hc : X.calm = true) : CallR X (.type "list") rLstS := by
  intro pins s σ H xs us Q I r h
  obtain ⟨z, rfl, hz, q⟩ := h
  obtain ⟨u, rfl, t, rfl⟩ := vals1 r
  have hsz : z.cps.size ≤ sizeLine := Nat.le_trans hz (by decide)
  refine PySem.call_list_str (I.ok.hd hc) z t (fun h' tk acc c' hk e hi => ?_) hsz
  refine ⟨.ref s.heap.objs.size, _, I.laid hk (Nat.le_refl _) (show ObjOk X.prog X.w _ h' _ (.lst (z.cps.toList.map fun c => V.str ⟨#[c]⟩)) from ⟨by simpa using hsz, acc.toList, c', ?_, by rw [Array.toArray_toList]; exact e⟩), rfl, q _ (I.hok.fresh (Nat.le_refl _))⟩
  refine vals_of_idx _ _ (by rw [List.length_map, Array.length_toList, Array.length_toList]; exact hi.1) fun j v hj => ?_
  obtain ⟨c, t', hc, rfl⟩ := hi.2 j v (by rw [← Array.getElem?_toList]; exact hj)
  exact ⟨.str ⟨#[c]⟩, by rw [List.getElem?_map, Array.getElem?_toList, hc]; rfl, ⟨_, rfl⟩⟩
def spLOf : Sp := fun vs H Q _ => ∃ z : Str, vs = [.str z] ∧ Fit z ∧ Q (optV (lof z)) H
section
variable {P : Program} {w : World} {K : PySem.W.Frag} {mg : Str → Option Value} {base : Heap}
theorem scLOf : FnScope ["item", "kind"] ["item"] (defScope sLOf) := ⟨rfl, rfl, rfl, by decide +kernel, rfl, by decide +kernel, by decide +kernel⟩
theorem str_ne {l m : List Nat} (h : l ≠ m) : decide (V.str ⟨l.toArray⟩ = V.str ⟨m.toArray⟩) = false := decide_eq_false fun e => by
  have e2 : (⟨l.toArray⟩ : Str) = ⟨m.toArray⟩ := by injection e
  have e3 : l.toArray.toList = m.toArray.toList := congrArg (fun s : Str => s.cps.toList) e2
  exact h e3
theorem ok_lOf {f : Addr} {fd : FuncData} (F : Fun K "letter_of" "letter_of" sLOf f fd) (hA : ∃ t, mg "ALPHABET" = some (.str alphS t)) (hlen : mg "len" = none) : FnOk P w K mg base CX0 1 f fd ["item"] spLOf := by
  refine F.ok scLOf (fun vs H Q E h => ?_) (fun cdv A outer s H vs Q E hr h => ?_)
  · obtain ⟨i, rfl, _⟩ := h
    rfl
  · obtain ⟨z, rfl, hf, k⟩ := h
    obtain ⟨tA, mA⟩ := hA
    refine ⟨_, pss_cons (ps_set (i := 1) scLOf.nd rfl (Or.inl rfl) (pe_op op_add (pe_m1 PySem.F.slot_str_find PySem.F.type_str_find mt_find (pe_glob (v := .str alphS) (by rfl) mA ⟨_, rfl⟩) (pe_slice sl_str (pv 0) po_none (po_some pe_int))) pe_int))
      (pss_cons (ps_if (PW.pt (pw_or (pt_cmpR op_eq (pv 0) pe_str (nomark _)) (pw_or1 (pt_cmpR op_eq (pv 1) pe_int (nomark _))))) (pss_one (ps_ret pe_non)) pss_nil)
      (pss_cons (ps_if (pt_cmpR op_eq (pe_callB call_len_str (by rfl) hlen PySem.boot_len (pa_cons (pv 0) pa_nil)) pe_int (nomark _)) (pss_one (ps_ret (pv 1))) pss_nil)
      (pss_one (ps_ret (pe_ifExp (pt_cmpR op_eq (pe_slice sl_str (pv 0) (po_some pe_int) po_none) pe_str (nomark _)) (pe_un un_neg (pv 1)) pe_non))))), ?_⟩
    have hsz : z.length ≤ sizeLine := Nat.le_trans hf.2 (by decide)
    refine ⟨⟨_, rfl⟩, _, rfl, _, rfl, _, rfl, hsz, _, _, rfl, rfl, ?_⟩
    have ez := eta z
    have hc := hf.1
    have kk : Q (optV (lofL z.cps.toList)) H := k
    have hln : z.length = z.cps.toList.length := by simp [Str.length]
    generalize z.cps.toList = l at ez hc kk hln
    subst ez
    rw [cut1]
    match l, hc, kk, hln with
    | [], hc, kk, hln =>
      refine ⟨_, _, rfl, rfl, _, rfl, rfl, _, rfl, ?_⟩
      exact iteT' (decide_eq_true rfl) kk
    | c :: r, hc, kk, hln =>
      have hc1 := hc c List.mem_cons_self
      have f1 := find_all c hc1
      have f2 : Txt.find alphS ⟨(List.take 1 (c :: r)).toArray⟩ = if 97 ≤ c ∧ c ≤ 122 then (c : Int) - 97 else -1 := f1
      rw [f2]
      refine ⟨_, _, rfl, rfl, _, rfl, rfl, _, rfl, ?_⟩
      refine iteF' (str_ne (m := []) (by simp)) ?_
      refine ⟨_, rfl, rfl, _, rfl, ?_⟩
      by_cases hin : 97 ≤ c ∧ c ≤ 122
      · rw [if_pos hin]
        refine iteF' (decide_eq_false fun q => ?_) ?_
        · have q2 : (c : Int) - 97 + 1 = 0 := by injection q
          omega
        refine ⟨_, rfl, _, rfl, hsz, rfl, _, rfl, ?_⟩
        have ek : (c : Int) - 97 + 1 = (c : Int) - 96 := by omega
        cases r with
        | nil =>
          refine iteT' (decide_eq_true (by rw [hln]; rfl)) ?_
          refine ⟨_, rfl, ?_⟩
          have : lofL [c] = some ((c : Int) - 96) := by rw [lofL1, if_pos hin]
          rw [this] at kk
          show Q (V.int ((c : Int) - 97 + 1)) H
          rw [ek]
          exact kk
        | cons d r =>
          refine iteF' (decide_eq_false fun q => ?_) ?_
          · have q2 : (((⟨(c :: d :: r).toArray⟩ : Str).length : Nat) : Int) = 1 := by injection q
            rw [hln] at q2
            simp at q2
            omega
          refine ⟨_, rfl, _, rfl, _, rfl, hsz, rfl, _, rfl, ?_⟩
          rw [cutF, tick_eq]
          by_cases hd : (List.drop 1 (c :: d :: r)) = [39]
          · have hd2 : d :: r = [39] := hd
            rw [hd]
            refine iteT' (decide_eq_true rfl) ?_
            refine ⟨_, rfl, _, rfl, ?_⟩
            have : lofL (c :: d :: r) = some (-((c : Int) - 96)) := by
              rw [hd2]
              rw [lofL2, if_pos ⟨rfl, hin⟩]
            rw [this] at kk
            show Q (V.int (-((c : Int) - 97 + 1))) H
            rw [ek]
            exact kk
          · refine iteF' (str_ne (m := [39]) hd) ?_
            have hd2 : ¬ (d :: r = [39]) := hd
            have : lofL (c :: d :: r) = none := by
              cases r with
              | nil =>
                rw [lofL2, if_neg (fun q => hd2 (by rw [q.1]))]
              | cons e r => rfl
            rw [this] at kk
            exact kk
      · rw [if_neg hin]
        refine iteT' (decide_eq_true rfl) ?_
        have : lofL (c :: r) = none := by
          match r with
          | [] => rw [lofL1, if_neg hin]
          | [d] => rw [lofL2, if_neg (fun q => hin q.2)]
          | _ :: _ :: _ => rfl
        rw [this] at kk
        exact kk
end
end W11
set_option Elab.async false
set_option linter.all false
set_option maxRecDepth 100000
set_option maxHeartbeats 600000
namespace W11
open PySem L2 PySem.Spec PyProof.Rows WR WB
/-! ### BadText -/
abbrev sInitT : Stmt := inClass (top 8) 0
def spI2 (C : Addr) : Sp := fun vs H Q _ => ∃ (a : Addr) (v u : V), vs = [.ref a, v, u] ∧ H a = some (exo a C none) ∧ ∀ dx, H dx = none → dx ≠ a → Q .non (L2.upd (L2.upd (L2.upd H dx (exd dx [("line", v)])) a (exo a C (some dx))) dx (exd dx [("item", u), ("line", v)]))
structure ErrT (P : Program) (w : World) (K : PySem.W.Frag) (mg : Str → Option Value) (base : Heap) (C : Addr) (x : Str) (ps : List Str) (sp : Sp) : Prop where
  oex : OexC K C
  ini : ∃ (fI : Addr) (fd : FuncData), PySem.W.findIn K (.ref C) "__init__" = some (some (.ref fI)) ∧ PySem.W.typeIn K (.ref fI) = some (.type "function") ∧ FnOk P w K mg base CX0 1 fI fd ps sp ∧ Binds K fd ps []
  g : mg x = some (.ref C)
  xf : XfC K C
  te : PySem.W.exmOne K (.ref C) (.ref C) = some true
section
variable {P : Program} {w : World} {K : PySem.W.Frag} {mg : Str → Option Value} {base : Heap}
theorem scInitT : FnScope ["self", "line", "item"] ["self", "line", "item"] (defScope sInitT) := ⟨rfl, rfl, rfl, by decide +kernel, rfl, by decide +kernel, by decide +kernel⟩
theorem ok_initT {C f : Addr} {fd : FuncData} (F : Fun K "__init__" "BadText.__init__" sInitT f fd) (O : OexC K C) (n1 : PySem.W.findIn K (.ref C) "line" = some none) (n2 : PySem.W.findIn K (.ref C) "item" = some none) : FnOk P w K mg base CX0 1 f fd ["self", "line", "item"] (spI2 C) := by
  refine F.ok scInitT (fun vs H Q E h => ?_) (fun cdv A outer s H vs Q E hr h => ?_)
  · obtain ⟨a, v, u, rfl, _⟩ := h
    rfl
  · obtain ⟨a, v, u, rfl, hA, k⟩ := h
    refine ⟨_, pss_cons (ps_ost (pv 0) (pv 1)) (pss_one (ps_ost (pv 0) (pv 2))), ?_⟩
    refine ⟨_, rfl, _, rfl, a, C, rfl, O, n1, .inl ⟨hA, fun dx h1 h2 => ?_⟩⟩
    refine ⟨_, rfl, _, rfl, a, C, rfl, O, n2, .inr ⟨dx, _, upd_same, by rw [upd_ne h2, upd_same], by show 1 ≤ 900; decide, k dx h1 h2⟩⟩
end
theorem heap2 {H : Hp} {a d : Addr} {e1 e2 e3 e4 o : HO} (ha : H a = none) (hd : d ≠ a) : L2.upd (del (L2.upd (L2.upd (L2.upd (L2.upd H a e1) d e2) a e3) d e4) a) d o = L2.upd H d o := by
  funext b
  by_cases h1 : b = d
  · subst h1
    rw [upd_same, upd_same]
  · rw [upd_ne h1, upd_ne h1]
    by_cases h2 : b = a
    · subst h2
      rw [del_same, ha]
    · rw [del_ne h2, upd_ne h1, upd_ne h2, upd_ne h1, upd_ne h2]
theorem mk2 {C : Addr} {H : Hp} {v u : V} {Q : XK} (k : ∀ d, H d = none → Q (.ref C) (some d) (L2.upd H d (.xd [("item", u), ("line", v)]))) : ∀ a, H a = none → spI2 C [.ref a, v, u] (L2.upd H a (exo a C none))
    (fun z H2 => z = .non ∧ ∃ (d : Addr) (fs : List (Str × V)), H2 a = some (exo a C (some d)) ∧ H2 d = some (exd d fs) ∧ H d = none ∧ Q (.ref C) (some d) (L2.upd (del H2 a) d (.xd fs))) (fun _ _ _ => False) := by
  intro a ha
  refine ⟨a, v, u, rfl, upd_same, fun dx h1 h2 => ⟨rfl, dx, _, by rw [upd_ne h2.symm, upd_same], upd_same, by rw [upd_ne h2] at h1; exact h1, ?_⟩⟩
  rw [heap2 ha h2]
  exact k dx (by rw [upd_ne h2] at h1; exact h1)
/-- BadText of line 0 -/
abbrev BadT (CT : Addr) (E : XK) (H : Hp) (i : Nat) : Prop := ∀ H1, Same H H1 → ∀ d, H1 d = none → E (.ref CT) (some d) (L2.upd H1 d (.xd [(("item" : Str), .int (i : Int)), (("line" : Str), .int 0)]))
section
variable {X : Cx} {x : Str} {k j : Nat} {ps : List Str} {sp : Sp} {p pos : Pos} {e : Expr} {es : List Expr} {t : TA} {E : XK}
end
/-! ### a text's items -/
def sp (z : Str) : List Str := Txt.split z ⟨#[32]⟩
abbrev dashS : Str := ⟨#[45]⟩
theorem parts_glue2 (c : Nat) : ∀ xs : List Nat, MText.glue c (MText.parts c xs) = xs
  | [] => rfl
  | h :: t => by
    have ih := parts_glue2 c t
    obtain ⟨p, r, e⟩ := MText.parts_ne c t
    rw [e] at ih
    unfold MText.parts
    rw [e]
    by_cases hc : h = c
    · rw [if_pos hc]
      show [] ++ c :: MText.glue c (p :: r) = h :: t
      rw [ih, hc]
      rfl
    · rw [if_neg hc]
      show MText.glue c ((h :: p) :: r) = h :: t
      cases r with
      | nil =>
        show h :: p = h :: t
        rw [← ih]
        rfl
      | cons q r =>
        show h :: (p ++ c :: MText.glue c (q :: r)) = h :: t
        rw [← ih]
        rfl
theorem parts_mem {c : Nat} : ∀ {xs p : List Nat}, p ∈ MText.parts c xs → (∀ y ∈ p, y ∈ xs ∧ y ≠ c) ∧ p.length ≤ xs.length
  | [], p, h => by
    have : p = [] := by simpa [MText.parts] using h
    subst this
    exact ⟨fun y hy => (nomatch hy), Nat.le_refl _⟩
  | h :: t, p, hp => by
    obtain ⟨q, r, e⟩ := MText.parts_ne c t
    have ih := fun p (hp : p ∈ MText.parts c t) => parts_mem (c := c) (xs := t) hp
    unfold MText.parts at hp
    rw [e] at hp ih
    have old : ∀ p', p' ∈ q :: r → (∀ y ∈ p', y ∈ h :: t ∧ y ≠ c) ∧ p'.length ≤ (h :: t).length := fun p' h' => by
      obtain ⟨i1, i2⟩ := ih p' h'
      exact ⟨fun y hy => ⟨List.mem_cons_of_mem _ (i1 y hy).1, (i1 y hy).2⟩, by rw [List.length_cons]; omega⟩
    by_cases hc : h = c
    · rw [if_pos hc] at hp
      rcases List.mem_cons.mp hp with rfl | hp
      · exact ⟨fun y hy => (nomatch hy), Nat.zero_le _⟩
      · exact old p hp
    · rw [if_neg hc] at hp
      rcases List.mem_cons.mp hp with rfl | hp
      · obtain ⟨i1, i2⟩ := ih q List.mem_cons_self
        refine ⟨fun y hy => ?_, by rw [List.length_cons, List.length_cons]; omega⟩
        rcases List.mem_cons.mp hy with rfl | hy
        · exact ⟨List.mem_cons_self, hc⟩
        · exact ⟨List.mem_cons_of_mem _ (i1 y hy).1, (i1 y hy).2⟩
      · exact old p (List.mem_cons_of_mem _ hp)
theorem parts_len (c : Nat) : ∀ xs : List Nat, (MText.parts c xs).length ≤ xs.length + 1
  | [] => Nat.le_refl _
  | h :: t => by
    have ih := parts_len c t
    obtain ⟨q, r, e⟩ := MText.parts_ne c t
    rw [e, List.length_cons] at ih
    unfold MText.parts
    rw [e]
    split
    · simp only [List.length_cons]
      omega
    · simp only [List.length_cons]
      omega
theorem sp_parts (z : Str) : (sp z).map (·.cps.toList) = MText.parts 32 z.cps.toList := MText.split_parts z (by decide)
theorem sp_ne (z : Str) : sp z ≠ [] := fun e => by
  have h := sp_parts z
  rw [e] at h
  obtain ⟨p, r, e2⟩ := MText.parts_ne 32 z.cps.toList
  rw [e2] at h
  cases h
theorem len_cps (z : Str) : z.cps.toList.length = z.length := by simp [Str.length]
theorem sp_fit {z y : Str} (h : Fit z) (hy : y ∈ sp z) : Fit y := by
  have m : y.cps.toList ∈ MText.parts 32 z.cps.toList := by
    rw [← sp_parts]
    exact List.mem_map_of_mem hy
  obtain ⟨h1, h2⟩ := parts_mem m
  refine ⟨fun c hc => h.1 c (h1 c hc).1, ?_⟩
  have := h.2
  rw [len_cps, len_cps] at h2
  omega
theorem sp_len {z : Str} (h : Fit z) : (sp z).length ≤ 4001 := by
  have h1 := parts_len 32 z.cps.toList
  rw [← sp_parts, List.length_map, len_cps] at h1
  have := h.2
  omega
theorem sp_join (z : Str) : Txt.join ⟨#[32]⟩ (sp z) = z := by
  refine MText.str_eq ?_
  rw [MText.join_glue, sp_parts, parts_glue2]
def wBad (zs : List Str) (i : Nat) : Bool := decide (500 ≤ i) || (lof (zs.getD i default)).isNone
/-- the first item of a word's text that can't stand -/
def wordPl (zs : List Str) : Option Nat := if zs.head? = some dashS then (if 1 < zs.length then some 1 else none) else (List.range zs.length).find? (wBad zs)
def itT (zs : List Str) : List Str := if zs.head? = some dashS then [] else zs
theorem itT_d (r : List Str) : itT (dashS :: r) = [] := if_pos rfl
theorem itT_n {y : Str} {r : List Str} (h : y ≠ dashS) : itT (y :: r) = y :: r := if_neg fun e => h (Option.some.inj e)
theorem all_lof : ∀ {zs : List Str}, (∀ z ∈ zs, (lof z).isNone = false) → zs.map (fun z => optV (lof z)) = iv (zs.filterMap lof) ∧ zs = (zs.filterMap lof).map itm ∧ Lts (zs.filterMap lof)
  | [], _ => ⟨rfl, rfl, fun x hx => (nomatch hx)⟩
  | z :: zs, h => by
    obtain ⟨i1, i2, i3⟩ := all_lof (zs := zs) fun y hy => h y (List.mem_cons_of_mem _ hy)
    have h0 := h z List.mem_cons_self
    cases e : lof z with
    | none =>
      rw [e] at h0
      cases h0
    | some i =>
      obtain ⟨j1, j2, j3⟩ := itm_lof e
      rw [List.filterMap_cons_some e]
      refine ⟨?_, ?_, ?_⟩
      · rw [List.map_cons, i1, e]
        rfl
      · rw [List.map_cons, ← i2, j1]
      · intro x hx
        rcases List.mem_cons.mp hx with rfl | hx
        · exact ⟨j2, j3⟩
        · exact i3 x hx
theorem lof_dash : lof dashS = none := rfl
theorem getD_at {α : Type} {xs : List α} {i : Nat} {d : α} (h : i < xs.length) : xs.getD i d = xs[i] := by
  rw [List.getD_eq_getElem?_getD, List.getElem?_eq_getElem h]
  rfl
theorem word_no {zs : List Str} (h : wordPl zs = none) : zs.map (fun z => optV (lof z)) = iv (zs.filterMap lof) ∧ zs = (zs.filterMap lof).map itm ∧ Lts (zs.filterMap lof) ∧ zs.length ≤ 500 ∨ zs = [dashS] := by
  unfold wordPl at h
  split at h
  · rename_i hd
    split at h
    · cases h
    · rename_i hl
      match zs, hd, hl with
      | [a], hd, hl =>
        right
        have : a = dashS := Option.some.inj hd
        rw [this]
      | a :: b :: r, hd, hl => exact absurd (by rw [List.length_cons, List.length_cons]; omega) hl
  · left
    rw [List.find?_eq_none] at h
    have hb : ∀ i, i < zs.length → i < 500 ∧ (lof (zs.getD i default)).isNone = false := fun i hi => by
      have := h i (List.mem_range.mpr hi)
      unfold wBad at this
      rw [Bool.not_eq_true, Bool.or_eq_false_iff] at this
      have h1 := of_decide_eq_false this.1
      exact ⟨by omega, this.2⟩
    have ha := all_lof (zs := zs) fun z hz => by
      obtain ⟨i, hi, rfl⟩ := List.getElem_of_mem hz
      have := (hb i hi).2
      rw [getD_at hi] at this
      exact this
    refine ⟨ha.1, ha.2.1, ha.2.2, ?_⟩
    refine Decidable.byContradiction fun q => ?_
    have := (hb 500 (by omega)).1
    omega
theorem find_range {p : Nat → Bool} {n i : Nat} (hi : i < n) (h : p i = true) (hl : ∀ j, j < i → p j = false) : (List.range n).find? p = some i := by
  rw [List.find?_range_eq_some]
  exact ⟨h, List.mem_range.mpr hi, fun j hj => by rw [hl j hj]; rfl⟩
theorem find_none {p : Nat → Bool} {n : Nat} (hl : ∀ j, j < n → p j = false) : (List.range n).find? p = none := by
  rw [List.find?_eq_none]
  intro j hj
  rw [hl j (List.mem_range.mp hj)]
  decide
/-- no text -/
def NotS (H : Hp) (x : V) : Prop := ∃ t, Typ H x t ∧ isS x = false
def spItems (CT : Addr) : Sp := fun vs H Q E => ∃ x : V, vs = [x] ∧ ((NotS H x ∧ BadT CT E H 0) ∨
  ∃ z, x = .str z ∧ Fit z ∧ ∀ p H', H p = none → Same H H' → H' p = some (.lst ((sp z).map V.str)) → Q (.ref p) H')
def spTold (CT : Addr) : Sp := fun vs H Q E => ∃ x : V, vs = [x] ∧ ((NotS H x ∧ BadT CT E H 0) ∨
  ∃ z, x = .str z ∧ Fit z ∧ ((sp z).head? = some dashS → 1 < (sp z).length → BadT CT E H 1) ∧ (((sp z).head? = some dashS → ¬ 1 < (sp z).length) → ∀ p H', H p = none → Same H H' → H' p = some (.lst ((itT (sp z)).map V.str)) → Q (.ref p) H'))
def spReadM (K : PySem.W.Frag) (C CT : Addr) : Sp := fun vs H Q E => ∃ x : V, vs = [x] ∧ ((NotS H x ∧ BadT CT E H 0) ∨
  ∃ z, x = .str z ∧ Fit z ∧ (∀ i, wordPl (sp z) = some i → BadT CT E H i) ∧ (wordPl (sp z) = none → NewW K C H Q ((sp z).filterMap lof)))
section
variable {P : Program} {w : World} {K : PySem.W.Frag} {mg : Str → Option Value} {base : Heap} {C CT : Addr}
theorem scItems : FnScope ["text"] ["text"] (defScope sItems) := ⟨rfl, rfl, rfl, by decide +kernel, rfl, by decide +kernel, by decide +kernel⟩
theorem ok_items {f : Addr} {fd : FuncData} (F : Fun K "items_of" "items_of" sItems f fd) (T : TxI mg) (ET : ErrT P w K mg base CT "BadText" ["self", "line", "item"] (spI2 CT)) : FnOk P w K mg base (L2.CX P w) 3 f fd ["text"] (spItems CT) := by
  refine F.okX scItems (fun vs H Q E h => ?_) (fun cdv A outer s H vs Q E hr h => ?_)
  · obtain ⟨x, rfl, _⟩ := h
    rfl
  · obtain ⟨x, rfl, h⟩ := h
    obtain ⟨fI, fdI, iC, tI, FI, bI⟩ := ET.ini
    refine ⟨_, pss_cons (ps_if (pt_not (pt_val (pe_callB call_isi (by rfl) T.isin (by decide +kernel) (pa_cons (pv 0) (pa_cons (pe_bltn (v := .ty "str") (by rfl) T.str (by decide +kernel) rfl) pa_nil))))) (pss_one (ps_raise rfl (takes_of rfl rfl rfl rfl) (pmk_oex (dvs := []) ET.oex iC tI FI (hr.mono (by decide)) bI .nil pass0 (by rfl) ET.g (pa_cons pe_int (pa_cons pe_int pa_nil))))) pss_nil)
      (pss_one (ps_ret (pe_split (pv 0) pe_str))), ?_⟩
    rcases h with ⟨⟨t, ht, hs⟩, kb⟩ | ⟨z, rfl, hf, k⟩
    · have hk := ht.kStr (K := K)
      rw [hs] at hk
      refine ⟨_, rfl, x, _, _, _, _, rfl, .ty _, ht.ty, hk, _, rfl, ?_⟩
      exact iteT ⟨by show 2 ≤ 1000; decide, mk2 (Q := fun cls d H' => E cls d H') fun d hd => kb H (Same.refl _) d hd⟩
    · refine ⟨_, rfl, V.str z, _, _, _, _, rfl, .ty _, (Typ.str (H := H) z).ty, (Typ.str (H := H) z).kStr, _, rfl, ?_⟩
      refine iteF ?_
      have hs : z.length + 2 ≤ sizeLine := Nat.le_trans (show z.length + 2 ≤ 4002 by have := hf.2; omega) (by decide)
      refine ⟨_, rfl, ⟨_, rfl⟩, _, _, rfl, rfl, (by decide +kernel), hs, fun p hp => ?_⟩
      rw [space_eq]
      exact k p _ hp (same_upd hp) upd_same
theorem scTold : FnScope ["text", "items"] ["text"] (defScope sTold) := ⟨rfl, rfl, rfl, by decide +kernel, rfl, by decide +kernel, by decide +kernel⟩
theorem ok_told {f : Addr} {fd : FuncData} (F : Fun K "items_told" "items_told" sTold f fd) (GI : CalX P w K mg base "items_of" 3 ["text"] (spItems CT)) (ET : ErrT P w K mg base CT "BadText" ["self", "line", "item"] (spI2 CT)) (hlen : mg "len" = none) : FnOk P w K mg base (L2.CX P w) 4 f fd ["text"] (spTold CT) := by
  refine F.okX scTold (fun vs H Q E h => ?_) (fun cdv A outer s H vs Q E hr h => ?_)
  · obtain ⟨x, rfl, _⟩ := h
    rfl
  · obtain ⟨x, rfl, h⟩ := h
    obtain ⟨fI, fdI, iC, tI, FI, bI⟩ := ET.ini
    refine ⟨_, pss_cons (ps_set (i := 1) scTold.nd rfl (Or.inl rfl) (pe_calX GI hr (by decide) (passes_call (takes_of rfl rfl rfl rfl) (fun _ _ _ _ h => h)) (by rfl) (pa_cons (pv 0) pa_nil)))
      (pss_cons (ps_if (pt_cmpR op_ne (pe_ix ix_list (pv 1) pe_int (fun _ _ => rfl)) pe_str (nomark _)) (pss_one (ps_ret (pv 1))) pss_nil)
      (pss_cons (ps_if (pt_cmpR op_gt (pe_callB call_len_seq (by rfl) hlen PySem.boot_len (pa_cons (pv 1) pa_nil)) pe_int (nomark _)) (pss_one (ps_raise rfl (takes_of rfl rfl rfl rfl) (pmk_oex (dvs := []) ET.oex iC tI FI (hr.mono (by decide)) bI .nil pass0 (by rfl) ET.g (pa_cons pe_int (pa_cons pe_int pa_nil))))) pss_nil)
      (pss_one (ps_ret (pe_lst pa_nil))))), ?_⟩
    rcases h with ⟨hn, kb⟩ | ⟨z, rfl, hf, k1, k2⟩
    · exact ⟨_, rfl, x, rfl, .inl ⟨hn, kb⟩⟩
    · refine ⟨_, rfl, .str z, rfl, .inr ⟨z, rfl, hf, fun p H1 hp0 s1 h1 => ?_⟩⟩
      refine at_set ?_
      try dsimp only
      have hl := sp_ne z
      generalize sp z = zs at h1 k1 k2 hl
      cases zs with
      | nil => exact absurd rfl hl
      | cons y r =>
        refine ⟨_, rfl, p, _, _, _, rfl, rfl, SqL.of h1, atI_nat (j := 0) rfl, rfl, _, rfl, ?_⟩
        rw [dash_eq]
        by_cases hy : y = dashS
        · subst hy
          refine iteF' (by simp) ?_
          refine ⟨_, rfl, p, _, rfl, .inl (SqL.of h1), _, _, rfl, rfl, _, rfl, ?_⟩
          by_cases h2 : 1 < (dashS :: r).length
          · refine iteT' (decide_eq_true (by rw [List.length_map]; omega)) ?_
            exact ⟨by show 2 ≤ 1000; decide, mk2 (Q := fun cls d H' => E cls d H') fun d hd => k1 rfl h2 H1 s1 d hd⟩
          · refine iteF' (decide_eq_false (by rw [List.length_map]; omega)) ?_
            refine ⟨Nat.zero_le _, fun q hq => k2 (fun _ => h2) q _ (s1.free hq) (s1.trans (same_upd hq)) ?_⟩
            rw [upd_same, itT_d]
            rfl
        · refine iteT' ?_ ⟨_, rfl, k2 (fun e => absurd (Option.some.inj e) hy) p H1 hp0 s1 ?_⟩
          · have : ¬ (V.str y = V.str ⟨#[45]⟩) := fun q => hy (by injection q)
            simp [this]
          · rw [h1, itT_n hy]
end
end W11
set_option Elab.async false
set_option linter.all false
set_option maxRecDepth 100000
set_option maxHeartbeats 600000
namespace W11
open PySem L2 PySem.Spec PyProof.Rows WR WB
theorem wBad_at {zs : List Str} {i : Nat} (h : i < zs.length) : wBad zs i = (decide (500 ≤ i) || (lof zs[i]).isNone) := by
  unfold wBad
  rw [getD_at h]
theorem optV_non {o : Option Int} : optV o = V.non ↔ o.isNone = true := by
  cases o with
  | none => exact ⟨fun _ => rfl, fun _ => rfl⟩
  | some i => exact ⟨fun e => (nomatch e), fun e => (nomatch e)⟩
theorem all_opt {ws : List V} {os : List (Option Int)} (h : All2 (fun v o => v = optV o) ws os) : ws = os.map optV := by
  induction h with
  | nil => rfl
  | cons h1 _ ih => rw [List.map_cons, h1, ih]
theorem none_bad {zs : List Str} (h : ∀ j, j < zs.length → wBad zs j = false) : zs.map (fun z => optV (lof z)) = iv (zs.filterMap lof) ∧ zs = (zs.filterMap lof).map itm ∧ Lts (zs.filterMap lof) ∧ zs.length ≤ 500 := by
  have ha := all_lof (zs := zs) fun z hz => by
    obtain ⟨i, hi, rfl⟩ := List.getElem_of_mem hz
    have := h i hi
    rw [wBad_at hi, Bool.or_eq_false_iff] at this
    exact this.2
  refine ⟨ha.1, ha.2.1, ha.2.2, Decidable.byContradiction fun q => ?_⟩
  have := h 500 (by omega)
  rw [wBad_at (by omega), Bool.or_eq_false_iff] at this
  exact absurd this.1 (by decide)
section
variable {P : Program} {w : World} {K : PySem.W.Frag} {mg : Str → Option Value} {base : Heap} {C CT : Addr}
theorem scReadM : FnScope ["text", "letters", "at", "letter", "item"] ["text"] (defScope sReadM) := ⟨rfl, rfl, rfl, by decide +kernel, rfl, by decide +kernel, by decide +kernel⟩
theorem ok_readM {f : Addr} {fd : FuncData} (F : Fun K "read" "Word.read" sReadM f fd) (T : TxW K mg C) (M : MkW P w K mg base C) (GT : CalX P w K mg base "items_told" 4 ["text"] (spTold CT)) (GL : Cal P w K mg base "letter_of" 1 ["item"] spLOf) (ET : ErrT P w K mg base CT "BadText" ["self", "line", "item"] (spI2 CT)) (henum : mg "enumerate" = none) : FnOk P w K mg base (L2.CX P w) 6 f fd ["text"] (spReadM K C CT) := by
  refine F.okX scReadM (fun vs H Q E h => ?_) (fun cdv A outer s H vs Q E hr h => ?_)
  · obtain ⟨ns, rfl, _⟩ := h
    rfl
  · obtain ⟨x, rfl, h⟩ := h
    obtain ⟨tk, mL⟩ := T.most
    obtain ⟨fI, fdI, iC, tI, FI, bI⟩ := ET.ini
    refine ⟨_, pss_cons (ps_setLc (i := 1) (own := [("item", 4)]) (g := gName 4) (tt := tYes) rfl scReadM.nd rfl rfl (sw_true rfl rfl rfl (by decide +kernel)) (pi_list (pe_calX GT hr (by decide) (passes_call (takes_of rfl rfl rfl rfl) (fun _ _ _ _ h => h)) (by rfl) (pa_cons (pv 0) pa_nil))) (blkOk_by (N := ["text", "letters", "at", "letter", "item"]) (sc := defScope sReadM) (by decide +kernel)) (fun _ _ _ _ _ => pg_name (i := 4) scReadM.nd rfl (Or.inl rfl)) (fun _ _ _ _ _ => pts_nil)
        (fun _ _ _ _ _ => pe_cal GL hr (by decide) (by rfl) (pa_cons (pv 4) pa_nil)))
      (pss_cons (ps_for (passes_of rfl) rfl (pi_enum (by rfl) henum (pa_cons (pv 1) pa_nil)) (pg_tup (n := 2) rfl (pgs_cons (pg_name (i := 2) scReadM.nd rfl (Or.inl rfl)) (pgs_cons (pg_name (i := 3) scReadM.nd rfl (Or.inl rfl)) pgs_nil)))
        (pss_one (ps_if (PW.pt (pw_or (pt_cmpR op_isN (pv 3) pe_non (nomark _)) (pw_or1 (pt_cmpR op_eq (pv 2) (pe_glob (v := .int 500) (by rfl) mL ⟨_, rfl⟩) (nomark _))))) (pss_one (ps_raise rfl (takes_of rfl rfl rfl rfl) (pmk_oex (dvs := []) ET.oex iC tI FI (hr.mono (by decide)) bI .nil pass0 (by rfl) ET.g (pa_cons pe_int (pa_cons (pv 2) pa_nil))))) pss_nil)))
      (pss_one (ps_ret (pe_word M T hr (by decide) (by rfl) (pa_cons (pv 1) pa_nil))))), ?_⟩
    refine as_lc ?_
    rcases h with ⟨hn, kb⟩ | ⟨z, rfl, hf, kb, kn⟩
    · exact ⟨_, rfl, x, rfl, .inl ⟨hn, kb⟩⟩
    refine ⟨_, rfl, .str z, rfl, .inr ⟨z, rfl, hf, fun hd hl => ?_, fun hd0 p H1 hp0 s1 h1 => ?_⟩⟩
    · refine kb 1 ?_
      unfold wordPl
      rw [if_pos hd, if_pos hl]
    have hfit : ∀ y ∈ sp z, Fit y := fun y hy => sp_fit hf hy
    have hlen := sp_len hf
    generalize sp z = zs at h1 kb kn hd0 hfit hlen
    -- the items that are read
    have hus : (zs = [dashS] ∧ itT zs = []) ∨ (zs.head? ≠ some dashS ∧ itT zs = zs) := by
      by_cases hd : zs.head? = some dashS
      · left
        have hl := hd0 hd
        match zs, hd, hl with
        | [a], hd, hl =>
          have : a = dashS := Option.some.inj hd
          subst this
          exact ⟨rfl, itT_d []⟩
        | a :: b :: r, hd, hl => exact absurd (by rw [List.length_cons, List.length_cons]; omega) hl
      · right
        exact ⟨hd, if_neg hd⟩
    have hun : zs.filterMap lof = (itT zs).filterMap lof := by
      rcases hus with ⟨h1, h2⟩ | ⟨h1, h2⟩
      · rw [h2, h1]
        rfl
      · rw [h2]
    have hbad : ∀ i, i < (itT zs).length → wBad (itT zs) i = true → (∀ j, j < i → wBad (itT zs) j = false) → wordPl zs = some i := by
      intro i hi hb hl
      rcases hus with ⟨h1, h2⟩ | ⟨h1, h2⟩
      · rw [h2] at hi
        exact absurd hi (Nat.not_lt_zero _)
      · rw [h2] at hi hb hl
        unfold wordPl
        rw [if_neg h1]
        exact find_range hi hb hl
    have hnone : (∀ j, j < (itT zs).length → wBad (itT zs) j = false) → wordPl zs = none := by
      intro hl
      rcases hus with ⟨h1, h2⟩ | ⟨h1, h2⟩
      · rw [h1]
        rfl
      · rw [h2] at hl
        unfold wordPl
        rw [if_neg h1]
        exact find_none hl
    have hufit : ∀ y ∈ itT zs, Fit y := by
      rcases hus with ⟨h1, h2⟩ | ⟨h1, h2⟩
      · rw [h2]
        exact fun y hy => (nomatch hy)
      · rw [h2]
        exact hfit
    have hulen : (itT zs).length ≤ 4001 := by
      rcases hus with ⟨h1, h2⟩ | ⟨h1, h2⟩
      · rw [h2]
        exact Nat.zero_le _
      · rw [h2]
        exact hlen
    rw [hun] at kn
    generalize itT zs = us at h1 hun hbad hnone hufit hulen kn
    refine ⟨p, rfl, ⟨_, SqL.of h1⟩, ?_⟩
    refine lcM (walk_list (K := K) (a := p) (xs := us.map V.str)) (us.map lof) (fun _ _ v o => v = optV o) (fun _ _ _ _ _ h _ => h) (fun _ _ _ _ _ _ _ h => h) (by rw [List.length_map]; omega) (by rw [List.length_map, List.length_map]) (fun H2 s2 => SqL.of (s2 _ _ h1)) ?_ (fun x σ1 H A B k h => gName_mono k h) ?_
    · intro i x b hx hb D H2 hD hu2 s2 Qy ky
      rw [List.getElem?_map] at hx hb
      cases hz : us[i]? with
      | none => rw [hz] at hx; cases hx
      | some y =>
        rw [hz] at hx hb
        obtain rfl := Option.some.inj hx
        obtain rfl := Option.some.inj hb
        refine ⟨rfl, ?_⟩
        exact ⟨_, rfl, y, rfl, hufit y (List.mem_of_getElem? hz), ky _ _ (Same.refl _) rfl⟩
    intro D H2 ws hD s2 h2 r2
    have ews := all_opt r2
    rw [List.map_map] at ews
    have ews : ws = us.map (fun z => optV (lof z)) := ews
    subst ews
    refine at_set ?_
    try dsimp only
    refine ⟨_, rfl, D, _, rfl, SqL.of h2, ?_⟩
    refine for_it (walk_enum (K := K) (a := D) (xs := us.map (fun z => optV (lof z)))) (fun i σ H' => (∃ v2 v3 : Option V, σ = [some (.str z), some (.ref D), v2, v3, none]) ∧ Same H2 H' ∧ ∀ j, j < i → wBad us j = false) ⟨⟨none, none, rfl⟩, Same.refl _, fun j hj => absurd hj (Nat.not_lt_zero _)⟩ (fun i σ H' _ ⟨_, s, _⟩ => SqL.of (s _ _ h2)) ?_ ?_
    · rintro i x σ H3 H4 hi ⟨⟨v2, v3, rfl⟩, sm, hl⟩ ⟨T0, xi, yi, rfl, hT0, rfl, hx, hy⟩
      have hin : i < us.length := by rw [List.length_map] at hi; exact hi
      obtain rfl := Option.some.inj hx
      have ey : yi = optV (lof us[i]) := by
        have hy : (us.map (fun z => optV (lof z)))[i]? = some yi := hy
        rw [List.getElem?_map, List.getElem?_eq_getElem hin] at hy
        exact (Option.some.inj hy).symm
      subst ey
      refine ⟨T0, _, rfl, SqT.of upd_same, rfl, _, _, rfl, _, _, rfl, rfl, ?_⟩
      have sT := sm.trans (same_upd (o := .tup [.int (i : Int), optV (lof us[i])]) hT0)
      have raise : wBad us i = true → BadT CT E (L2.upd H3 T0 (.tup [.int (i : Int), optV (lof us[i])])) i := fun hb H5 s5 d hd => kb i (hbad i hin hb hl) H5 (((s1.trans s2).trans sT).trans s5) d hd
      refine ⟨_, rfl, rfl, _, rfl, ?_⟩
      by_cases hnn : (lof us[i]).isNone = true
      · refine iteT' (decide_eq_true (optV_non.mpr hnn)) ?_
        exact ⟨_, rfl, by show 2 ≤ 1000; decide, mk2 (Q := fun cls d H' => E cls d H') fun d hd => raise (by rw [wBad_at hin, hnn, Bool.or_true]) _ (Same.refl _) d hd⟩
      refine iteF' (decide_eq_false fun q => hnn (optV_non.mp q)) ?_
      refine ⟨_, rfl, rfl, _, rfl, ?_⟩
      by_cases h5 : i = 500
      · refine iteT' (decide_eq_true (by rw [h5]; rfl)) ?_
        exact ⟨_, rfl, by show 2 ≤ 1000; decide, mk2 (Q := fun cls d H' => E cls d H') fun d hd => raise (by rw [wBad_at hin, decide_eq_true (by omega : 500 ≤ i)]; rfl) _ (Same.refl _) d hd⟩
      · refine iteF' (decide_eq_false fun q => ?_) ?_
        · have q2 : (i : Int) = 500 := by injection q
          omega
        refine ⟨⟨_, _, rfl⟩, sT, fun j hj => ?_⟩
        rcases Nat.lt_succ_iff_lt_or_eq.mp hj with hj | rfl
        · exact hl j hj
        · have h6 : ¬ 500 ≤ j := fun q => by
            have := hl 500 (by omega)
            rw [wBad_at (by omega), Bool.or_eq_false_iff] at this
            exact absurd this.1 (by decide)
          rw [wBad_at hin, decide_eq_false h6, Bool.eq_false_iff.mpr hnn]
          rfl
    · rintro σ H3 ⟨⟨v2, v3, rfl⟩, sm, hl⟩
      rw [List.length_map] at hl
      obtain ⟨e1, e2, e3, e4⟩ := none_bad hl
      have hlf : (us.filterMap lof).length ≤ 500 := by
        have := congrArg List.length e2
        rw [List.length_map] at this
        omega
      rw [e1] at h2
      refine ⟨_, rfl, fun x dx nx ndx _ => make_at nx ndx (.inl (SqL.of (sm _ _ h2))) hlf e3 fun H4 s4 W4 => ?_⟩
      exact kn (hnone hl) x H4 (((s1.trans s2).trans sm).trans s4) W4
end
end W11
set_option Elab.async false
set_option linter.all false
set_option maxRecDepth 100000
set_option maxHeartbeats 600000
namespace W11
open PySem L2 PySem.Spec PyProof.Rows WR WB
abbrev slashS : Str := ⟨#[47]⟩
theorem slash_eq : (Str.ofString "/") = ⟨#[47]⟩ := by decide +kernel
/-! ### the rows of rims, item by item -/
abbrev RgR := Nat ⊕ (List (List Int) × List Int)
def rgo (i : Nat) (rs : List (List Int)) (cur : List Int) : List Str → RgR
  | [] => .inr (rs, cur)
  | z :: r => if rs.flatten.length + cur.length = 24 then .inl i else match lof z with
    | some k => rgo (i + 1) rs (cur ++ [k]) r
    | none => if z = slashS ∧ cur ≠ [] ∧ rs.length < 3 then rgo (i + 1) (rs ++ [cur]) [] r else .inl i
theorem rgo_full {i : Nat} {rs : List (List Int)} {cur : List Int} {z : Str} {r : List Str} (h : rs.flatten.length + cur.length = 24) : rgo i rs cur (z :: r) = .inl i := if_pos h
theorem rgo_some {i : Nat} {rs : List (List Int)} {cur : List Int} {z : Str} {r : List Str} {k : Int} (h : ¬ rs.flatten.length + cur.length = 24) (e : lof z = some k) : rgo i rs cur (z :: r) = rgo (i + 1) rs (cur ++ [k]) r := by
  refine (if_neg h).trans ?_
  rw [e]
theorem rgo_cut {i : Nat} {rs : List (List Int)} {cur : List Int} {z : Str} {r : List Str} (h : ¬ rs.flatten.length + cur.length = 24) (e : lof z = none) (c : z = slashS ∧ cur ≠ [] ∧ rs.length < 3) : rgo i rs cur (z :: r) = rgo (i + 1) (rs ++ [cur]) [] r := by
  refine (if_neg h).trans ?_
  rw [e]
  exact if_pos c
theorem rgo_bad {i : Nat} {rs : List (List Int)} {cur : List Int} {z : Str} {r : List Str} (h : ¬ rs.flatten.length + cur.length = 24) (e : lof z = none) (c : ¬ (z = slashS ∧ cur ≠ [] ∧ rs.length < 3)) : rgo i rs cur (z :: r) = .inl i := by
  refine (if_neg h).trans ?_
  rw [e]
  exact if_neg c
/-- what the rows keep -/
def RgI (rs : List (List Int)) (cur : List Int) : Prop := rs.length ≤ 3 ∧ (∀ w ∈ rs, w ≠ []) ∧ rs.flatten.length + cur.length ≤ 24 ∧ Lts rs.flatten ∧ Lts cur
/-- the items of rows -/
def slF (rs : List (List Int)) (cur : List Int) : List Str := (rs.map fun w => w.map itm ++ [slashS]).flatten ++ cur.map itm
theorem Lts.snoc {ns : List Int} {k : Int} (h : Lts ns) (k1 : 1 ≤ k.natAbs ∧ k.natAbs ≤ 26) : Lts (ns ++ [k]) := fun x hx => by
  rcases List.mem_append.mp hx with hx | hx
  · exact h x hx
  · rw [List.mem_singleton.mp hx]
    exact k1
theorem flat_snoc (rs : List (List Int)) (cur : List Int) : (rs ++ [cur]).flatten = rs.flatten ++ cur := by
  rw [List.flatten_append]
  simp
theorem rgo_keeps : ∀ {zs : List Str} {i : Nat} {rs : List (List Int)} {cur : List Int} {rs' : List (List Int)} {cur' : List Int}, RgI rs cur → rgo i rs cur zs = .inr (rs', cur') → RgI rs' cur' ∧ slF rs cur ++ zs = slF rs' cur'
  | [], i, rs, cur, rs', cur', hI, h => by
    have h2 : (rs, cur) = (rs', cur') := Sum.inr.inj h
    obtain ⟨rfl, rfl⟩ := Prod.mk.inj h2
    exact ⟨hI, List.append_nil _⟩
  | z :: r, i, rs, cur, rs', cur', hI, h => by
    obtain ⟨h1, h2, h3, h4, h5⟩ := id hI
    by_cases hf : rs.flatten.length + cur.length = 24
    · rw [rgo_full hf] at h
      cases h
    · cases e : lof z with
      | some k =>
        rw [rgo_some hf e] at h
        obtain ⟨e1, e2⟩ := itm_lof e
        obtain ⟨r1, r2⟩ := rgo_keeps (zs := r) ⟨h1, h2, by rw [List.length_append]; show _ + (_ + 1) ≤ 24; omega, h4, h5.snoc e2⟩ h
        refine ⟨r1, ?_⟩
        rw [← r2]
        unfold slF
        rw [List.map_append]
        simp [e1]
      | none =>
        by_cases hc : z = slashS ∧ cur ≠ [] ∧ rs.length < 3
        · rw [rgo_cut hf e hc] at h
          obtain ⟨r1, r2⟩ := rgo_keeps (zs := r) ⟨by rw [List.length_append]; show _ + 1 ≤ 3; omega, fun w hw => by
            rcases List.mem_append.mp hw with hw | hw
            · exact h2 w hw
            · rw [List.mem_singleton.mp hw]
              exact hc.2.1, by rw [flat_snoc, List.length_append]; show _ + 0 ≤ 24; omega, by
            intro x hx
            rw [flat_snoc] at hx
            rcases List.mem_append.mp hx with hx | hx
            · exact h4 x hx
            · exact h5 x hx, fun x hx => absurd hx List.not_mem_nil⟩ h
          refine ⟨r1, ?_⟩
          rw [← r2]
          unfold slF
          simp [hc.1]
        · rw [rgo_bad hf e hc] at h
          cases h
theorem rgo_lt : ∀ {zs : List Str} {i : Nat} {rs : List (List Int)} {cur : List Int} {j : Nat}, rgo i rs cur zs = .inl j → i ≤ j ∧ j < i + zs.length
  | [], i, rs, cur, j, h => by cases h
  | z :: r, i, rs, cur, j, h => by
    rw [List.length_cons]
    by_cases hf : rs.flatten.length + cur.length = 24
    · rw [rgo_full hf] at h
      have : i = j := Sum.inl.inj h
      omega
    · cases e : lof z with
      | some k =>
        rw [rgo_some hf e] at h
        have := rgo_lt h
        omega
      | none =>
        by_cases hc : z = slashS ∧ cur ≠ [] ∧ rs.length < 3
        · rw [rgo_cut hf e hc] at h
          have := rgo_lt h
          omega
        · rw [rgo_bad hf e hc] at h
          have : i = j := Sum.inl.inj h
          omega
/-- the rows, laid as lists that are new -/
def RowsI (H0 H' : Hp) (R : Addr) (ys : List Addr) (b : Addr) (rs : List (List Int)) (cur : List Int) : Prop :=
  Same H0 H' ∧ H0 R = none ∧ H0 b = none ∧ H' R = some (.lst ((ys ++ [b]).map V.ref)) ∧ All2 (fun y ns => H' y = some (.lst (iv ns)) ∧ y ≠ b ∧ y ≠ R) ys rs ∧ H' b = some (.lst (iv cur)) ∧ b ≠ R
theorem RowsI.same {H0 H1 H2 : Hp} {R b : Addr} {ys : List Addr} {rs : List (List Int)} {cur : List Int} (h : RowsI H0 H1 R ys b rs cur) (s : Same H1 H2) : RowsI H0 H2 R ys b rs cur := by
  obtain ⟨h1, h2, h3, h4, h5, h6, h7⟩ := h
  exact ⟨h1.trans s, h2, h3, s _ _ h4, h5.imp fun _ _ q => ⟨s _ _ q.1, q.2⟩, s _ _ h6, h7⟩
/-- a letter more in the last row -/
theorem RowsI.put {H0 H1 : Hp} {R b : Addr} {ys : List Addr} {rs : List (List Int)} {cur : List Int} {k : Int} (h : RowsI H0 H1 R ys b rs cur) : RowsI H0 (L2.upd H1 b (.lst (iv cur ++ [.int k]))) R ys b rs (cur ++ [k]) := by
  obtain ⟨h1, h2, h3, h4, h5, h6, h7⟩ := h
  refine ⟨fun a o e => by rw [upd_ne (ne_of_none e h3)]; exact h1 _ _ e, h2, h3, by rw [upd_ne h7.symm]; exact h4, h5.imp fun _ _ q => ⟨by rw [upd_ne q.2.1]; exact q.1, q.2⟩, ?_, h7⟩
  rw [upd_same]
  simp [iv]
/-- a row more -/
theorem RowsI.new {H0 H1 : Hp} {R b b2 : Addr} {ys : List Addr} {rs : List (List Int)} {cur : List Int} (h : RowsI H0 H1 R ys b rs cur) (hb : H1 b2 = none) : RowsI H0 (L2.upd (L2.upd H1 b2 (.lst [])) R (.lst ((ys ++ [b]).map V.ref ++ [.ref b2]))) R (ys ++ [b]) b2 (rs ++ [cur]) [] := by
  obtain ⟨h1, h2, h3, h4, h5, h6, h7⟩ := h
  have nR : b2 ≠ R := (ne_of_none h4 hb).symm
  have nb : b ≠ b2 := ne_of_none h6 hb
  refine ⟨fun a o e => ?_, h2, h1.free hb, ?_, ?_, ?_, nR⟩
  · rw [upd_ne (ne_of_none e h2), upd_ne (ne_of_none (h1 _ _ e) hb)]
    exact h1 _ _ e
  · rw [upd_same, List.map_append (l₁ := ys ++ [b])]
    rfl
  · exact All2.app (h5.imp fun y ns q => ⟨by rw [upd_ne q.2.2, upd_ne (ne_of_none q.1 hb)]; exact q.1, ne_of_none q.1 hb, q.2.2⟩) (.cons ⟨by rw [upd_ne h7, upd_ne nb]; exact h6, nb, h7⟩ .nil)
  · rw [upd_ne nR, upd_same]
    rfl
theorem RowsI.all {H0 H1 : Hp} {R b : Addr} {ys : List Addr} {rs : List (List Int)} {cur : List Int} (h : RowsI H0 H1 R ys b rs cur) : All2 (fun y ns => H1 y = some (.lst (iv ns))) (ys ++ [b]) (rs ++ [cur]) :=
  All2.app (h.2.2.2.2.1.imp fun _ _ q => q.1) (.cons h.2.2.2.2.2.1 .nil)
abbrev sRows : Stmt := top 42
def spRows (K : PySem.W.Frag) (CT : Addr) : Sp := fun vs H Q E => ∃ (a : Addr) (zs : List Str), vs = [.ref a] ∧ SqL K H a (zs.map V.str) ∧ (∀ z ∈ zs, Fit z) ∧ zs.length ≤ 4001 ∧ (∀ i, rgo 0 [] [] zs = .inl i → BadT CT E H i) ∧
  (∀ rs cur, rgo 0 [] [] zs = .inr (rs, cur) → ∀ p H' xs, Same H H' → H' p = some (.lst (xs.map V.ref)) → All2 (fun y ns => H' y = some (.lst (iv ns))) xs (rs ++ [cur]) → Q (.ref p) H')
abbrev nRows : List Str := ["items", "rows", "many", "at", "item", "letter"]
theorem str_is {z : Str} {m : Str} : decide (V.str z = V.str m) = decide (z = m) := by
  rw [Bool.eq_iff_iff, decide_eq_true_iff, decide_eq_true_iff]
  exact ⟨fun e => by injection e, fun e => by rw [e]⟩
section
variable {P : Program} {w : World} {K : PySem.W.Frag} {mg : Str → Option Value} {base : Heap} {C CT : Addr}
theorem scRows : FnScope nRows ["items"] (defScope sRows) := ⟨rfl, rfl, rfl, by decide +kernel, rfl, by decide +kernel, by decide +kernel⟩
theorem ok_rows {f : Addr} {fd : FuncData} (F : Fun K "rows_of" "rows_of" sRows f fd) (TR : TxR mg) (TA : TxA mg) (GL : Cal P w K mg base "letter_of" 1 ["item"] spLOf) (ET : ErrT P w K mg base CT "BadText" ["self", "line", "item"] (spI2 CT)) : FnOk P w K mg base (L2.CX P w) 3 f fd ["items"] (spRows K CT) := by
  refine F.okX scRows (fun vs H Q E h => ?_) (fun cdv A outer s H vs Q E hr h => ?_)
  · obtain ⟨a, zs, rfl, _⟩ := h
    rfl
  · obtain ⟨a, zs, rfl, hS, hfit, hlen, kb, kn⟩ := h
    obtain ⟨tW, mW⟩ := TR.words
    obtain ⟨tP, mP⟩ := TR.places
    obtain ⟨fI, fdI, iC, tI, FI, bI⟩ := ET.ini
    refine ⟨_, pss_cons (ps_set (i := 1) scRows.nd rfl (Or.inl rfl) (pe_lst (pa_cons (pe_lst pa_nil) pa_nil)))
      (pss_cons (ps_set (i := 2) scRows.nd rfl (Or.inl rfl) pe_int)
      (pss_cons (ps_for (passes_of rfl) rfl (pi_enum (by rfl) TR.enum (pa_cons (pv 0) pa_nil)) (pg_tup (n := 2) rfl (pgs_cons (pg_name (i := 3) scRows.nd rfl (Or.inl rfl)) (pgs_cons (pg_name (i := 4) scRows.nd rfl (Or.inl rfl)) pgs_nil)))
        (pss_cons (ps_set (i := 5) scRows.nd rfl (Or.inl rfl) (pe_cal GL hr (by decide) (by rfl) (pa_cons (pv 4) pa_nil)))
        (pss_cons (ps_if (pt_cmpR op_eq (pv 2) (pe_glob (v := .int 24) (by rfl) mP ⟨_, rfl⟩) (nomark _)) (pss_one (ps_raise rfl (takes_of rfl rfl rfl rfl) (pmk_oex (dvs := []) ET.oex iC tI FI (hr.mono (by decide)) bI .nil pass0 (by rfl) ET.g (pa_cons pe_int (pa_cons (pv 3) pa_nil))))) pss_nil)
        (pss_one (ps_if (pt_cmpR op_notN (pv 5) pe_non (nomark _))
          (pss_cons (ps_expr (pe_bm PySem.F.plainAttrs_list PySem.F.slot_list_append PySem.F.type_list_append mt_append (pe_ix ix_list (pv 1) (pe_un un_neg pe_int) (fun _ _ => rfl)) (pa_cons (pv 5) pa_nil)))
          (pss_one (ps_aug (i := 2) scRows.nd rfl (Or.inl rfl) pe_int ip_add)))
          (pss_one (ps_if (PW.pt (pw_and (pt_cmpR op_eq (pv 4) pe_str (nomark _)) (pw_and (pt_truth (pe_ix ix_list (pv 1) (pe_un un_neg pe_int) (fun _ _ => rfl)) (by intro _; rfl)) (pw_and1 (pt_cmpR op_lt (pe_callB call_len_seq (by rfl) TA.len PySem.boot_len (pa_cons (pv 1) pa_nil)) (pe_glob (v := .int 4) (by rfl) mW ⟨_, rfl⟩) (nomark _))))))
            (pss_one (ps_expr (pe_bm PySem.F.plainAttrs_list PySem.F.slot_list_append PySem.F.type_list_append mt_append (pv 1) (pa_cons (pe_lst pa_nil) pa_nil))))
            (pss_one (ps_raise rfl (takes_of rfl rfl rfl rfl) (pmk_oex (dvs := []) ET.oex iC tI FI (hr.mono (by decide)) bI .nil pass0 (by rfl) ET.g (pa_cons pe_int (pa_cons (pv 3) pa_nil))))))))))))
      (pss_one (ps_ret (pv 1))))), ?_⟩
    refine ⟨Nat.zero_le _, fun b0 hb0 => ⟨by show 1 ≤ sizeLine; decide, fun R hR => ?_⟩⟩
    have s1 := same_upd (o := .lst []) hb0
    have nb : b0 ≠ R := fun e => by
      rw [← e, upd_same] at hR
      cases hR
    have hI0 : RowsI H (L2.upd (L2.upd H b0 (.lst [])) R (.lst [.ref b0])) R [] b0 [] [] := ⟨s1.trans (same_upd hR), s1.free hR, hb0, upd_same, .nil, by rw [upd_ne nb, upd_same]; rfl, nb⟩
    refine ⟨_, rfl, a, _, rfl, hI0.1.seq hS, ?_⟩
    refine for_it (walk_enum (K := K) (a := a) (xs := zs.map V.str)) (fun i σ H' => ∃ (v3 v4 v5 : Option V) (ys : List Addr) (b : Addr) (rs : List (List Int)) (cur : List Int), σ = [some (.ref a), some (.ref R), some (.int ((rs.flatten.length + cur.length : Nat) : Int)), v3, v4, v5] ∧ RowsI H H' R ys b rs cur ∧ RgI rs cur ∧ rgo 0 [] [] zs = rgo i rs cur (zs.drop i))
      ⟨none, none, none, [], b0, [], [], rfl, hI0, ⟨Nat.zero_le _, fun w hw => (nomatch hw), Nat.zero_le _, fun x hx => (nomatch hx), fun x hx => (nomatch hx)⟩, by rw [List.drop_zero]⟩ (fun i σ H' _ ⟨_, _, _, _, _, _, _, _, hI, _⟩ => hI.1.seq hS) ?_ ?_
    · rintro i x σ H3 H4 hi ⟨v3, v4, v5, ys, b, rs, cur, rfl, hI, hG, hgo⟩ ⟨T0, xi, yi, rfl, hT0, rfl, hx, hy⟩
      have hin : i < zs.length := by rw [List.length_map] at hi; exact hi
      obtain rfl := Option.some.inj hx
      have ey : yi = V.str zs[i] := by
        have hy : (zs.map V.str)[i]? = some yi := hy
        rw [List.getElem?_map, List.getElem?_eq_getElem hin] at hy
        exact (Option.some.inj hy).symm
      subst ey
      have hzf := hfit zs[i] (List.getElem_mem hin)
      rw [List.drop_eq_getElem_cons hin] at hgo
      have sT := same_upd (o := .tup [.int (i : Int), V.str zs[i]]) hT0
      have hI2 := hI.same sT
      refine ⟨T0, _, rfl, SqT.of upd_same, rfl, _, _, rfl, _, _, rfl, rfl, ?_⟩
      generalize zs[i] = z at hzf hgo hI2 ⊢
      have raise : rgo 0 [] [] zs = .inl i → BadT CT E (L2.upd H3 T0 (.tup [.int (i : Int), V.str z])) i := fun hb H5 s5 d hd => kb i hb H5 (hI2.1.trans s5) d hd
      generalize L2.upd H3 T0 (.tup [.int (i : Int), V.str z]) = H5 at hI2 raise ⊢
      obtain ⟨j1, j2, j3, j4, j5, j6, j7⟩ := id hI2
      have atL : atI ((ys ++ [b]).map V.ref) (-1) = some (V.ref b) := by
        rw [List.map_append]
        exact atI_last _ _
      have lys := j5.length
      refine ⟨_, rfl, z, rfl, hzf, ?_⟩
      refine ⟨_, rfl, rfl, _, rfl, ?_⟩
      by_cases hf : rs.flatten.length + cur.length = 24
      · refine iteT' (decide_eq_true (by rw [hf]; rfl)) ?_
        exact ⟨_, rfl, by show 2 ≤ 1000; decide, mk2 (Q := fun cls d H' => E cls d H') fun d hd => raise (hgo.trans (rgo_full hf)) _ (Same.refl _) d hd⟩
      refine iteF' (decide_eq_false fun q => ?_) ?_
      · have q2 : ((rs.flatten.length + cur.length : Nat) : Int) = 24 := by injection q
        omega
      refine ⟨_, rfl, rfl, _, rfl, ?_⟩
      cases e : lof z with
      | some k =>
        refine iteT' rfl ?_
        obtain ⟨e1, e2⟩ := itm_lof e
        refine ⟨_, rfl, _, rfl, R, _, _, _, rfl, rfl, SqL.of j4, atL, .inl ⟨rfl, _, SqL.of j6⟩, _, rfl, b, _, _, rfl, rfl, j6, Evl.sz_lt (by rw [List.length_map]; have := hG.2.2.1; omega), ?_⟩
        refine ⟨_, rfl, _, _, rfl, rfl, ?_⟩
        refine ⟨some (.int (i : Int)), some (.str z), some (.int k), ys, b, rs, cur ++ [k], ?_, hI2.put, ⟨hG.1, hG.2.1, ?_, hG.2.2.2.1, hG.2.2.2.2.snoc e2⟩, hgo.trans (rgo_some hf e)⟩
        · rw [List.length_append]
          show _ = [some (V.ref a), some (V.ref R), some (V.int ((rs.flatten.length + (cur.length + 1) : Nat) : Int)), _, _, _]
          have : ((rs.flatten.length + (cur.length + 1) : Nat) : Int) = ((rs.flatten.length + cur.length : Nat) : Int) + 1 := by omega
          rw [this]
          rfl
        · rw [List.length_append]
          show _ + (_ + 1) ≤ 24
          have := hG.2.2.1
          omega
      | none =>
        refine iteF' rfl ?_
        refine ⟨_, rfl, rfl, _, rfl, ?_⟩
        rw [str_is, slash_eq]
        by_cases h1 : z = slashS
        · refine iteT' (decide_eq_true h1) ?_
          refine ⟨_, rfl, _, rfl, R, _, _, _, rfl, rfl, SqL.of j4, atL, _, .inl ⟨_, SqL.of j6, rfl⟩, ?_⟩
          by_cases h2 : cur = []
          · refine iteF' (by rw [h2]; rfl) ?_
            refine iteF ?_
            exact ⟨_, rfl, by show 2 ≤ 1000; decide, mk2 (Q := fun cls d H' => E cls d H') fun d hd => raise (hgo.trans (rgo_bad hf e fun q => q.2.1 h2)) _ (Same.refl _) d hd⟩
          refine iteT' (by
            cases cur with
            | nil => exact absurd rfl h2
            | cons => rfl) ?_
          refine ⟨_, rfl, R, _, rfl, .inl (SqL.of j4), _, _, rfl, rfl, _, rfl, ?_⟩
          have el : (((ys ++ [b]).map V.ref).length : Int) = (rs.length : Int) + 1 := by
            rw [List.length_map, List.length_append, lys]
            rfl
          by_cases h3 : rs.length < 3
          · refine iteT' (decide_eq_true (by rw [el]; omega)) ?_
            refine ⟨_, rfl, .inl ⟨rfl, _, SqL.of j4⟩, Nat.zero_le _, fun b2 hb2 => ?_⟩
            have j4' : (L2.upd H5 b2 (.lst [])) R = some (.lst ((ys ++ [b]).map V.ref)) := by rw [upd_ne (ne_of_none j4 hb2)]; exact j4
            refine ⟨R, _, _, rfl, rfl, j4', Evl.sz_lt (by have := el; omega), ?_⟩
            refine ⟨some (.int (i : Int)), some (.str z), some .non, ys ++ [b], b2, rs ++ [cur], [], ?_, hI2.new hb2, ⟨by rw [List.length_append]; show _ + 1 ≤ 3; omega, fun w hw => ?_, ?_, ?_, fun x hx => (nomatch hx)⟩, hgo.trans (rgo_cut hf e ⟨h1, h2, h3⟩)⟩
            · have : (rs ++ [cur]).flatten.length + ([] : List Int).length = rs.flatten.length + cur.length := by rw [flat_snoc, List.length_append]; rfl
              rw [this]
              rfl
            · rcases List.mem_append.mp hw with hw | hw
              · exact hG.2.1 w hw
              · rw [List.mem_singleton.mp hw]
                exact h2
            · have := hG.2.2.1
              rw [flat_snoc, List.length_append]
              show _ + 0 ≤ 24
              omega
            · intro x hx
              rw [flat_snoc] at hx
              rcases List.mem_append.mp hx with hx | hx
              · exact hG.2.2.2.1 x hx
              · exact hG.2.2.2.2 x hx
          · refine iteF' (decide_eq_false (by rw [el]; omega)) ?_
            exact ⟨_, rfl, by show 2 ≤ 1000; decide, mk2 (Q := fun cls d H' => E cls d H') fun d hd => raise (hgo.trans (rgo_bad hf e fun q => h3 q.2.2)) _ (Same.refl _) d hd⟩
        · refine iteF' (decide_eq_false h1) ?_
          refine iteF ?_
          exact ⟨_, rfl, by show 2 ≤ 1000; decide, mk2 (Q := fun cls d H' => E cls d H') fun d hd => raise (hgo.trans (rgo_bad hf e fun q => h1 q.1)) _ (Same.refl _) d hd⟩
    · rintro σ H3 ⟨v3, v4, v5, ys, b, rs, cur, rfl, hI, hG, hgo⟩
      rw [List.length_map, List.drop_length] at hgo
      exact ⟨_, rfl, kn rs cur hgo R H3 (ys ++ [b]) hI.1 hI.2.2.2.1 hI.all⟩
end
end W11
set_option Elab.async false
set_option linter.all false
set_option maxRecDepth 100000
set_option maxHeartbeats 600000
namespace W11
open PySem L2 PySem.Spec PyProof.Rows WR WB
def rimsPl (zs : List Str) : Option Nat := match rgo 0 [] [] zs with
  | .inl i => some i
  | .inr (rs, cur) => if cur = [] then some zs.length else if Fr.bal (rs ++ [cur]).flatten = [] then none else some (zs.length - 1)
def rowsOf (zs : List Str) : List (List Int) := match rgo 0 [] [] zs with
  | .inl _ => []
  | .inr (rs, cur) => rs ++ [cur]
theorem rimsPl_l {zs : List Str} {i : Nat} (h : rgo 0 [] [] zs = .inl i) : rimsPl zs = some i := by
  unfold rimsPl
  rw [h]
theorem rimsPl_r {zs : List Str} {rs : List (List Int)} {cur : List Int} (h : rgo 0 [] [] zs = .inr (rs, cur)) : rimsPl zs = if cur = [] then some zs.length else if Fr.bal (rs ++ [cur]).flatten = [] then none else some (zs.length - 1) := by
  unfold rimsPl
  rw [h]
theorem rowsOf_r {zs : List Str} {rs : List (List Int)} {cur : List Int} (h : rgo 0 [] [] zs = .inr (rs, cur)) : rowsOf zs = rs ++ [cur] := by
  unfold rowsOf
  rw [h]
theorem rgI0 : RgI [] [] := ⟨Nat.zero_le _, fun w hw => (nomatch hw), Nat.zero_le _, fun x hx => (nomatch hx), fun x hx => (nomatch hx)⟩
/-- what stands where nothing is refused -/
theorem rims_ok {zs : List Str} (h : rimsPl zs = none) : ∃ rs cur, rgo 0 [] [] zs = .inr (rs, cur) ∧ RimOk (rowsOf zs) ∧ rowsOf zs = rs ++ [cur] ∧ zs = slF rs cur ∧ (∀ w ∈ rowsOf zs, w ≠ []) := by
  cases e : rgo 0 [] [] zs with
  | inl i =>
    rw [rimsPl_l e] at h
    cases h
  | inr p =>
    obtain ⟨rs, cur⟩ := p
    rw [rimsPl_r e] at h
    split at h
    · cases h
    · rename_i hc
      split at h
      · rename_i hb
        obtain ⟨⟨h1, h2, h3, h4, h5⟩, h6⟩ := rgo_keeps rgI0 e
        have hne : ∀ w ∈ rs ++ [cur], w ≠ [] := fun w hw => by
          rcases List.mem_append.mp hw with hw | hw
          · exact h2 w hw
          · rw [List.mem_singleton.mp hw]
            exact hc
        refine ⟨rs, cur, rfl, ?_, rowsOf_r e, h6, by rw [rowsOf_r e]; exact hne⟩
        rw [rowsOf_r e]
        refine ⟨by rw [List.length_append]; show 1 ≤ _ + 1; omega, by rw [List.length_append]; show _ + 1 ≤ 4; omega, hne, by rw [flat_snoc, List.length_append]; exact h3, ?_, hb⟩
        intro x hx
        rw [flat_snoc] at hx
        rcases List.mem_append.mp hx with hx | hx
        · exact h4 x hx
        · exact h5 x hx
      · cases h
abbrev sReadR : Stmt := inClass (top 40) 5
def spReadR (K : PySem.W.Frag) (C CR CT : Addr) : Sp := fun vs H Q E => ∃ x : V, vs = [x] ∧ ((NotS H x ∧ BadT CT E H 0) ∨
  ∃ z, x = .str z ∧ Fit z ∧ (∀ i, rimsPl (sp z) = some i → BadT CT E H i) ∧ (rimsPl (sp z) = none → ∀ p H' xs, Same H H' → RimsAt K C CR H' p xs (rowsOf (sp z)) → Q (.ref p) H'))
theorem pi_listK {X : Cx} {K : PySem.W.Frag} {tg l : Expr} {tl : TE} (h : X.K = K) (hl : PE X l tl) : PI X tg l (iList K tl) := by
  subst h
  exact pi_list hl
theorem pe_wordK {X : Cx} {K : PySem.W.Frag} {C : Addr} {p pos : Pos} {e : Expr} {es : List Expr} {t : TA} {j : Nat} (hK : X.K = K) (M : MkW X.prog X.w K X.mg X.base C) (T : TxW K X.mg C) (hr : Room j X.A) (hkj : 5 ≤ j) (hg : Gl X "Word") (ha : PA X (e :: es) t)
    (he : starEach (e :: es) X.env = (false, eval e X.env) :: starEach es X.env := by rfl) (hpl : (backTo pos (starEach es X.env)).any (·.1) = false := by rfl) : PE X (.Call (.Name "Word" p) (e :: es) [] pos) (tMake C (spInit K C) [] E0 t) := by
  subst hK
  exact pe_word M T hr hkj hg ha he hpl
theorem all_word {K : PySem.W.Frag} {C : Addr} {H : Hp} {vs : List V} {ws : List (List Int)} (h : All2 (fun v ns => ∃ q, v = V.ref q ∧ WordAt K C H q ns) vs ws) : ∃ qs : List Addr, vs = qs.map V.ref ∧ Wds K C H qs ws := by
  induction h with
  | nil => exact ⟨[], rfl, .nil⟩
  | cons h1 _ ih =>
    obtain ⟨q, rfl, hq⟩ := h1
    obtain ⟨qs, rfl, hqs⟩ := ih
    exact ⟨q :: qs, rfl, .cons hq hqs⟩
theorem all2_snoc {α β : Type} {R : α → β → Prop} {xs : List α} {ys : List β} {y : β} (h : All2 R xs (ys ++ [y])) : ∃ us u, xs = us ++ [u] ∧ All2 R us ys ∧ R u y := by
  induction ys generalizing xs with
  | nil =>
    cases h with
    | cons h1 h2 =>
      cases h2
      exact ⟨[], _, rfl, .nil, h1⟩
  | cons a r ih =>
    cases h with
    | cons h1 h2 =>
      obtain ⟨us, u, rfl, h3, h4⟩ := ih h2
      exact ⟨_ :: us, u, rfl, .cons h1 h3, h4⟩
theorem nx_tru_lc2 {sq : Sp} {K : PySem.W.Frag} {wi wi1 : TI} {g g1 : TG} {tt tt1 : TT} {te : TE} {vs vs1 : List Nat} {D : Ends} {σ : L2.St} {H : Hp} {A B Cc : TS} {b1 b2 : L2.St → Hp → Prop} {rt : VK}
    (h : wi σ H fun J H1 => tLc2 (fun _ H R => R J H) g tt wi1 g1 tt1 te vs vs1 σ H1 fun y H2 => sq [y] H2 (fun x H' => ∃ k, TruV K x H' k ∧ if k = true then A { D with nx := Cc D } σ H' else B { D with nx := Cc D } σ H') E0) :
    tNext { nx := tSeq (tIfS (fun σ H Q => tCall sq [] E0 (tCons (tLc2 wi g tt wi1 g1 tt1 te vs vs1) tNil) σ H fun x H' => ∃ k, TruV K x H' k ∧ Q k H') A B) Cc D, rt := rt, bk := b1, ct := b2 } σ H := h
theorem nx_mk_lc {C : Addr} {sq : Sp} {wi : TI} {g : TG} {tt : TT} {te : TE} {vs : List Nat} {D : Ends} {σ : L2.St} {H : Hp} {rt : VK} {b1 b2 : L2.St → Hp → Prop}
    (h : wi σ H fun J H1 => tLc (fun _ H R => R J H) g tt te vs σ H1 fun y H2 => tMake C sq [] E0 (fun _ H Q => Q [y] H) σ H2 D.rt) : tNext { nx := tRet (tMake C sq [] E0 (tCons (tLc wi g tt te vs) tNil)) D, rt := rt, bk := b1, ct := b2 } σ H := h
theorem SqB.keptL {K : PySem.W.Frag} {H H' : Hp} {l q : Addr} {vs xs : List V} (hl : H l = some (.lst vs)) (d : Kept l H H') (h : SqB K H q xs) : SqB K H' q xs := by
  refine ⟨SqT.keptL hl d h.sq, ?_⟩
  obtain ⟨o, u, e, z⟩ := h.bare
  refine ⟨o, u, d _ _ (fun c => ?_) e, z⟩
  subst c
  rw [hl] at e
  cases e
theorem WordAt.keptL {K : PySem.W.Frag} {C : Addr} {H H' : Hp} {l p : Addr} {vs : List V} {ns : List Int} (hl : H l = some (.lst vs)) (d : Kept l H H') (h : WordAt K C H p ns) : WordAt K C H' p ns := by
  obtain ⟨dx, tl, tk, ks, h1, h2, h3, h4⟩ := h
  refine ⟨dx, tl, tk, ks, d _ _ (fun z => ?_) h1, SqB.keptL hl d h2, SqT.keptL hl d h3, h4⟩
  rw [z, hl] at h1
  cases h1
abbrev nReadR : List Str := ["text", "items", "rows", "row", "letter"]
section
variable {P : Program} {w : World} {K : PySem.W.Frag} {mg : Str → Option Value} {base : Heap} {C CR CT : Addr}
theorem scReadR : FnScope nReadR ["text"] (defScope sReadR) := ⟨rfl, rfl, rfl, by decide +kernel, rfl, by decide +kernel, by decide +kernel⟩
theorem ok_readR {f : Addr} {fd : FuncData} (F : Fun K "read" "Rims.read" sReadR f fd) (T : TxW K mg C) (TC : TxRC K mg CR) (TA : TxA mg) (M : MkW P w K mg base C) (MR : MkR P w K mg base C CR) (GI : CalX P w K mg base "items_of" 3 ["text"] (spItems CT)) (GW : CalX P w K mg base "rows_of" 3 ["items"] (spRows K CT)) (GB : Cal P w K mg base "balance_of" 2 ["letters"] (spBalOf K)) (ET : ErrT P w K mg base CT "BadText" ["self", "line", "item"] (spI2 CT)) : FnOk P w K mg base (L2.CX P w) 6 f fd ["text"] (spReadR K C CR CT) := by
  refine F.okX scReadR (fun vs H Q E h => ?_) (fun cdv A outer s H vs Q E hr h => ?_)
  · obtain ⟨ns, rfl, _⟩ := h
    rfl
  · obtain ⟨x, rfl, h⟩ := h
    obtain ⟨fI, fdI, iC, tI, FI, bI⟩ := ET.ini
    refine ⟨_, pss_cons (ps_set (i := 1) scReadR.nd rfl (Or.inl rfl) (pe_calX GI hr (by decide) (passes_call (takes_of rfl rfl rfl rfl) (fun _ _ _ _ h => h)) (by rfl) (pa_cons (pv 0) pa_nil)))
      (pss_cons (ps_set (i := 2) scReadR.nd rfl (Or.inl rfl) (pe_calX GW hr (by decide) (passes_call (takes_of rfl rfl rfl rfl) (fun _ _ _ _ h => h)) (by rfl) (pa_cons (pv 1) pa_nil)))
      (pss_cons (ps_if (pt_not (pt_truth (pe_ix ix_list (pv 2) (pe_un un_neg pe_int) (fun _ _ => rfl)) (by intro _; rfl))) (pss_one (ps_raise rfl (takes_of rfl rfl rfl rfl) (pmk_oex (dvs := []) ET.oex iC tI FI (hr.mono (by decide)) bI .nil pass0 (by rfl) ET.g (pa_cons pe_int (pa_cons (pe_callB call_len_seq (by rfl) TA.len PySem.boot_len (pa_cons (pv 1) pa_nil)) pa_nil))))) pss_nil)
      (pss_cons (ps_if (pt_truth (pe_cal GB hr (by decide) (by rfl) (pa_cons (pe_lc2 (own := [("row", 3), ("letter", 4)]) (vs1 := [4]) (g := gName 3) (tt := tYes) (g1 := gName 4) (tt1 := tYes) rfl scReadR.nd (pi_list (pv 2))
          (blkOk_by (N := nReadR) (sc := defScope sReadR) (by decide +kernel)) (by decide) (fun _ _ _ _ _ => pg_name (i := 3) scReadR.nd rfl (Or.inl rfl)) (fun _ _ _ _ _ => pts_nil)
          (fun _ _ _ _ _ => pi_listK (K := K) rfl (pv 3)) (fun _ _ _ _ _ => pg_name (i := 4) scReadR.nd rfl (Or.inl rfl)) (fun _ _ _ _ _ => pts_nil) (fun _ _ _ _ _ => pv 4)) pa_nil)) (by intro _; rfl))
        (pss_one (ps_raise rfl (takes_of rfl rfl rfl rfl) (pmk_oex (dvs := []) ET.oex iC tI FI (hr.mono (by decide)) bI .nil pass0 (by rfl) ET.g (pa_cons pe_int (pa_cons (pe_op op_sub (pe_callB call_len_seq (by rfl) TA.len PySem.boot_len (pa_cons (pv 1) pa_nil)) pe_int) pa_nil))))) pss_nil)
      (pss_one (ps_ret (pe_rims (mg := mg) MR TC hr (by decide) (by rfl) (pa_cons (pe_lc (own := [("row", 3)]) (g := gName 3) (tt := tYes) rfl scReadR.nd (pi_list (pv 2))
          (blkOk_by (N := nReadR) (sc := defScope sReadR) (by decide +kernel)) (fun _ _ _ _ _ => pg_name (i := 3) scReadR.nd rfl (Or.inl rfl)) (fun _ _ _ _ _ => pts_nil)
          (fun _ _ _ _ _ => pe_wordK (K := K) rfl M T hr (by decide) (by rfl) (pa_cons (pv 3) pa_nil))) pa_nil))))))), ?_⟩
    rcases h with ⟨hn, kb⟩ | ⟨z, rfl, hf, kb, kn⟩
    · exact ⟨_, rfl, x, rfl, .inl ⟨hn, kb⟩⟩
    refine ⟨_, rfl, .str z, rfl, .inr ⟨z, rfl, hf, fun p H1 hp0 s1 h1 => ?_⟩⟩
    have hfit : ∀ y ∈ sp z, Fit y := fun y hy => sp_fit hf hy
    have hlen := sp_len hf
    have hne := sp_ne z
    generalize sp z = zs at h1 kb kn hfit hlen hne
    refine at_set ?_
    try dsimp only
    refine ⟨_, rfl, p, zs, rfl, SqL.of h1, hfit, hlen, fun i hi => fun H2 s2 d hd => kb i (rimsPl_l hi) H2 (s1.trans s2) d hd, fun rs cur hgo R H2 xs s2 hR hxs => ?_⟩
    refine at_set ?_
    try dsimp only
    obtain ⟨ys, b, rfl, _, hb⟩ := all2_snoc hxs
    have atL : atI ((ys ++ [b]).map V.ref) (-1) = some (V.ref b) := by
      rw [List.map_append]
      exact atI_last _ _
    have h12 := s2 _ _ h1
    refine ⟨_, rfl, _, rfl, R, _, _, _, rfl, rfl, SqL.of hR, atL, _, .inl ⟨_, SqL.of hb, rfl⟩, ?_⟩
    have s02 := s1.trans s2
    by_cases hc : cur = []
    · subst hc
      refine iteT ?_
      refine ⟨_, rfl, p, _, rfl, .inl (SqL.of h12), ?_⟩
      refine ⟨by show 2 ≤ 1000; decide, ?_⟩
      have e : ((zs.map V.str).length : Int) = ((zs.length : Nat) : Int) := by rw [List.length_map]
      rw [e]
      refine mk2 (Q := fun cls d H' => E cls d H') fun d hd => kb zs.length ?_ H2 s02 d hd
      rw [rimsPl_r hgo, if_pos rfl]
    refine iteF' (by
      cases cur with
      | nil => exact absurd rfl hc
      | cons => rfl) ?_
    obtain ⟨⟨g1, g2, g3, g4, g5⟩, g6⟩ := rgo_keeps rgI0 hgo
    obtain ⟨xs, exs⟩ : ∃ xs, xs = ys ++ [b] := ⟨_, rfl⟩
    obtain ⟨ws, ews⟩ : ∃ ws, ws = rs ++ [cur] := ⟨_, rfl⟩
    rw [← exs] at hR hxs atL
    rw [← ews] at hxs
    have efl : ws.flatten = rs.flatten ++ cur := by rw [ews, flat_snoc]
    have lws : ws.length ≤ 4 := by rw [ews, List.length_append]; show _ + 1 ≤ 4; omega
    have l24 : ws.flatten.length ≤ 24 := by rw [efl, List.length_append]; exact g3
    have hl : Lts ws.flatten := by
      intro x hx
      rw [efl] at hx
      rcases List.mem_append.mp hx with hx | hx
      · exact g4 x hx
      · exact g5 x hx
    have lxw := hxs.length
    refine nx_tru_lc2 ?_
    refine ⟨_, rfl, R, rfl, ⟨_, SqL.of hR⟩, ?_⟩
    refine lc2_out (walk_list (xs := xs.map V.ref)) (fun i => iv (ws.getD i [])) (fun H s => SqL.of (s _ _ hR)) ?_ ?_
    · rintro i x D H3 H4 hi ⟨rfl, hx⟩ hD sm hDD Nx kN
      obtain ⟨q, hq, rfl⟩ : ∃ q, xs[i]? = some q ∧ x = V.ref q := by
        rw [List.getElem?_map] at hx
        cases e : xs[i]? with
        | none => rw [e] at hx; cases hx
        | some q => rw [e] at hx; exact ⟨q, rfl, (Option.some.inj hx).symm⟩
      obtain ⟨u, hu, hqu⟩ := hxs.at hq
      have eu : ws.getD i [] = u := by rw [List.getD_eq_getElem?_getD, hu]; rfl
      have hqu4 := sm _ _ hqu
      refine ⟨rfl, yes_te ?_⟩
      refine ⟨_, rfl, q, rfl, ⟨_, SqL.of hqu4⟩, ?_⟩
      have hft := flat_take hu
      refine lc2_in (walk_list (xs := iv u)) (fun y => y) hD sm hDD ?_ (fun H s => SqL.of (s _ _ hqu)) ?_ ?_
      · rw [flat_to (by have := (List.getElem?_eq_some_iff.mp hu).1; omega)]
        rw [List.length_map, List.length_map]
        omega
      · intro y hy H2 s2 Qy ky Qn
        exact ⟨rfl, yes_te ⟨_, rfl, ky H2 (fun _ _ e => e)⟩⟩
      · intro H2 s2 h2
        refine kN H2 s2 ?_
        rw [h2, List.map_id', eu]
    intro D H3 hD s3 h3
    have eD : ((List.range (xs.map V.ref).length).map fun i => iv (ws.getD i [])).flatten = iv ws.flatten := by
      rw [List.length_map, lxw, flat_to (Nat.le_refl _), List.take_length]
    rw [eD] at h3
    have s03 := s02.trans s3
    refine ⟨D, ws.flatten, rfl, SqL.of h3, by omega, hl, fun pb H4 s4 hB => ?_⟩
    obtain ⟨vs, hv1, hv2⟩ := hB
    have s04 := s03.trans s4
    have h14 := s4 _ _ (s3 _ _ h12)
    have lvs := hv2.length
    refine ⟨_, .inr (.inl ⟨_, hv1, rfl⟩), ?_⟩
    by_cases hb0 : Fr.bal ws.flatten = []
    · rw [hb0] at lvs
      have : vs = [] := List.length_eq_zero_iff.mp lvs
      subst this
      refine iteF ?_
      have hnone : rimsPl zs = none := by rw [rimsPl_r hgo, if_neg hc, ← ews, if_pos hb0]
      obtain ⟨rs', cur', hgo', hok, _⟩ := rims_ok hnone
      have er : rowsOf zs = ws := by rw [rowsOf_r hgo, ews]
      rw [er] at hok
      refine nx_mk_lc ?_
      have s24 := s3.trans s4
      refine ⟨_, rfl, R, rfl, ⟨_, SqL.of (s24 _ _ hR)⟩, ?_⟩
      refine lcM (walk_list (K := K) (a := R) (xs := xs.map V.ref)) ws (fun _ H v ns => ∃ q, v = V.ref q ∧ WordAt K C H q ns) (fun _ _ _ _ _ ⟨q, e, h⟩ s => ⟨q, e, h.same s⟩) ?_ (by rw [List.length_map]; omega) (by rw [List.length_map]; exact lxw) (fun H s => SqL.of (s _ _ (s24 _ _ hR))) ?_ (fun x σ1 H A B k h => gName_mono k h) ?_
      · rintro D2 H5 ws5 o v ns hD5 ⟨q, e, h⟩
        exact ⟨q, e, h.keptL hD5 Kept.upd⟩
      · intro i x u hx hu D2 H5 hD2 _ s5 Qy ky
        obtain ⟨q, hq, rfl⟩ : ∃ q, xs[i]? = some q ∧ x = V.ref q := by
          rw [List.getElem?_map] at hx
          cases e : xs[i]? with
          | none => rw [e] at hx; cases hx
          | some q => rw [e] at hx; exact ⟨q, rfl, (Option.some.inj hx).symm⟩
        obtain ⟨u', hu', hqu⟩ := hxs.at hq
        obtain rfl : u' = u := Option.some.inj (hu'.symm.trans hu)
        have hmem := List.mem_of_getElem? hu
        have hlu : u'.length ≤ 24 := Nat.le_trans (word_le hmem) l24
        refine ⟨rfl, _, rfl, fun xw dxw nx ndx _ => make_at nx ndx (.inl (SqL.of (s5 _ _ (s24 _ _ hqu)))) (by omega) (hl.word hmem) fun H6 s6 W6 => ?_⟩
        exact ky _ H6 s6 ⟨xw, rfl, W6⟩
      intro D2 H5 vs2 hD2 s5 h5 r5
      obtain ⟨qs, eqs, hW⟩ := all_word r5
      rw [eqs] at h5
      intro px dpx npx ndpx _
      refine rims_at npx ndpx (.inl (SqL.of h5)) hW hok fun H6 s6 R6 => ?_
      refine kn hnone px H6 qs ((s04.trans s5).trans s6) ?_
      rw [er]
      exact R6
    · have hne2 : vs ≠ [] := fun e => hb0 (List.length_eq_zero_iff.mp (by rw [← lvs, e]; rfl))
      refine iteT' (by
        cases vs with
        | nil => exact absurd rfl hne2
        | cons => rfl) ?_
      refine ⟨_, rfl, p, _, rfl, .inl (SqL.of h14), _, _, rfl, rfl, ?_⟩
      refine ⟨by show 2 ≤ 1000; decide, ?_⟩
      have hz0 : 0 < zs.length := List.length_pos_iff.mpr hne
      have e : ((zs.map V.str).length : Int) - 1 = ((zs.length - 1 : Nat) : Int) := by rw [List.length_map]; omega
      show ∀ a, _ → spI2 CT [.ref a, .int 0, .int (((zs.map V.str).length : Int) - 1)] _ _ _
      rw [e]
      refine mk2 (Q := fun cls d H' => E cls d H') fun d hd => kb (zs.length - 1) ?_ H4 s04 d hd
      rw [rimsPl_r hgo, if_neg hc, ← ews, if_neg hb0]
end
end W11
set_option Elab.async false
set_option linter.all false
set_option maxRecDepth 100000
set_option maxHeartbeats 600000
namespace W11
open PySem L2 PySem.Spec PyProof.Rows WR WB
/-! ### texts as data -/
theorem lay_strs : ∀ zs : List Str, (∀ z ∈ zs, PyData.strOk z = true) → PyData.canLayAll0 (zs.map PyData.str) = true
  | [], _ => rfl
  | z :: r, h => by
    have h1 := h z List.mem_cons_self
    have h2 := lay_strs r fun y hy => h y (List.mem_cons_of_mem _ hy)
    simp [PyData.canLayAll0, PyData.canLay0, h1, h2]
theorem deep_strs : ∀ zs : List Str, PyData.depthAll (zs.map PyData.str) = 0
  | [] => rfl
  | _ :: r => by simp [PyData.depthAll, PyData.depth, deep_strs r]
theorem shaped_strs {zs : List Str} (h : ∀ z ∈ zs, PyData.strOk z = true) : SeqAt.shaped (.list (zs.map PyData.str)) = true := by
  simp [SeqAt.shaped, PyData.canLay0, PyData.depth, lay_strs zs h, deep_strs]
theorem fit_ok {z : Str} (h : Fit z) : PyData.strOk z = true := by
  unfold PyData.strOk
  rw [Array.all_eq_true']
  intro c hc
  have := h.1 c (Array.mem_toList_iff.mpr hc)
  exact decide_eq_true (by omega)
theorem eqv_strs : ∀ zs : List Str, PyData.eqv (.list (zs.map PyData.str)) (.list (zs.map PyData.str)) = true := by
  intro zs
  show PyData.eqvAll (zs.map PyData.str) (zs.map PyData.str) = true
  induction zs with
  | nil => rfl
  | cons z r ih =>
    show (PyData.eqv (.str z) (.str z) && PyData.eqvAll (r.map PyData.str) (r.map PyData.str)) = true
    rw [ih, Bool.and_true]
    exact beq_self_eq_true z
theorem dpStrs {K : PySem.W.Frag} {H : Hp} : ∀ zs : List Str, DpAll K H (zs.map V.str) (zs.map PyData.str)
  | [] => .nil
  | z :: r => .cons (.str z) (dpStrs r)
/-! ### the items of words -/
def slw : List (List Int) → List Str
  | [] => []
  | w :: r => w.map itm ++ (r.map fun u => slashS :: u.map itm).flatten
theorem slw_snoc : ∀ (us : List (List Int)) (w : List Int), slw (us ++ [w]) = slw us ++ ((if us = [] then [] else [slashS]) ++ w.map itm)
  | [], w => by simp [slw]
  | u :: r, w => by
    show u.map itm ++ ((r ++ [w]).map fun u => slashS :: u.map itm).flatten = _
    rw [List.map_append, List.flatten_append]
    simp [slw]
theorem slw_more : ∀ {r : List (List Int)}, r ≠ [] → (r.map fun u => slashS :: u.map itm).flatten = slashS :: slw r
  | [], h => absurd rfl h
  | u :: r, _ => by simp [slw]
theorem slF_slw : ∀ (rs : List (List Int)) (cur : List Int), slF rs cur = slw (rs ++ [cur])
  | [], cur => by simp [slF, slw]
  | r :: rs, cur => by
    show slF (r :: rs) cur = r.map itm ++ ((rs ++ [cur]).map fun u => slashS :: u.map itm).flatten
    rw [slw_more (by simp), ← slF_slw rs cur]
    simp [slF]
theorem glue_app (c : Nat) : ∀ {xs ys : List (List Nat)}, xs ≠ [] → ys ≠ [] → MText.glue c (xs ++ ys) = MText.glue c xs ++ c :: MText.glue c ys
  | [], _, h, _ => absurd rfl h
  | [a], [], _, h => absurd rfl h
  | [a], b :: r, _, _ => rfl
  | a :: b :: r, ys, _, h => by
    have ih := glue_app c (xs := b :: r) (ys := ys) (by simp) h
    show a ++ c :: MText.glue c ((b :: r) ++ ys) = (a ++ c :: MText.glue c (b :: r)) ++ c :: MText.glue c ys
    rw [ih]
    simp
theorem join_cons (s a b : Str) (r : List Str) : (Txt.join s (a :: b :: r)).cps.toList = a.cps.toList ++ s.cps.toList ++ (Txt.join s (b :: r)).cps.toList := by
  show (Builtin.Str.glued s (a :: b :: r)).cps.toList = _ ++ (Builtin.Str.glued s (b :: r)).cps.toList
  rw [StrLaws.glued_eq_join, StrLaws.glued_eq_join]
  show (a ++ s ++ Str.join s (b :: r)).cps.toList = _
  rw [Str.cps_append, Str.cps_append, Array.toList_append, Array.toList_append]
theorem bars_eq : (Str.ofString " / ").cps.toList = [32, 47, 32] := by decide +kernel
theorem txt_items {w : List Int} (h : w ≠ []) : (txt w).cps.toList = MText.glue 32 ((w.map itm).map (·.cps.toList)) := by
  unfold txt
  rw [if_neg h, MText.join_glue]
theorem rims_text : ∀ {ws : List (List Int)}, ws ≠ [] → (∀ w ∈ ws, w ≠ []) → Txt.join ⟨#[32]⟩ (slw ws) = txtR ws := by
  intro ws h0 h
  refine MText.str_eq ?_
  rw [MText.join_glue]
  unfold txtR
  induction ws with
  | nil => exact absurd rfl h0
  | cons w r ih =>
    have hw := h w List.mem_cons_self
    have hne : ((w.map itm).map (·.cps.toList)) ≠ [] := by
      cases w with
      | nil => exact absurd rfl hw
      | cons => exact fun z => nomatch z
    cases r with
    | nil =>
      have e1 : slw [w] = w.map itm := by simp [slw]
      have e2 : (Txt.join (Str.ofString " / ") ([w].map txt)).cps.toList = (txt w).cps.toList := by
        show (Builtin.Str.glued _ [txt w]).cps.toList = _
        rw [StrLaws.glued_eq_join]
        rfl
      rw [e1, e2, txt_items hw]
    | cons u r =>
      have e1 : slw (w :: u :: r) = w.map itm ++ slashS :: slw (u :: r) := by
        show w.map itm ++ ((u :: r).map fun u => slashS :: u.map itm).flatten = _
        rw [slw_more (by simp)]
      have hu := h u (List.mem_cons_of_mem _ List.mem_cons_self)
      have hne2 : (slw (u :: r)).map (·.cps.toList) ≠ [] := by
        cases u with
        | nil => exact absurd rfl hu
        | cons => exact fun z => nomatch z
      have ih := ih (by simp) fun y hy => h y (List.mem_cons_of_mem _ hy)
      rw [e1, List.map_append, glue_app 32 hne (by simp)]
      show _ = (Txt.join (Str.ofString " / ") (txt w :: txt u :: r.map txt)).cps.toList
      rw [join_cons, ← txt_items hw, bars_eq]
      have ih : MText.glue 32 ((slw (u :: r)).map (·.cps.toList)) = (Txt.join (Str.ofString " / ") (txt u :: r.map txt)).cps.toList := ih
      rw [← ih]
      show _ ++ 32 :: MText.glue 32 ([47] :: (slw (u :: r)).map (·.cps.toList)) = _
      have e3 : MText.glue 32 ([47] :: (slw (u :: r)).map (·.cps.toList)) = [47] ++ 32 :: MText.glue 32 ((slw (u :: r)).map (·.cps.toList)) := glue_app 32 (xs := [[47]]) (by simp) hne2
      rw [e3]
      simp
/-- the text of what is read -/
theorem word_back {z : Str} (h : wordPl (sp z) = none) : txt ((sp z).filterMap lof) = z ∧ Lts ((sp z).filterMap lof) ∧ ((sp z).filterMap lof).length ≤ 500 ∧ sp z = if (sp z).filterMap lof = [] then [dashS] else ((sp z).filterMap lof).map itm := by
  have hj := sp_join z
  have hne := sp_ne z
  rcases word_no h with ⟨e1, e2, e3, e4⟩ | e
  · have hne2 : (sp z).filterMap lof ≠ [] := fun q => by
      rw [q] at e2
      exact hne e2
    refine ⟨?_, e3, ?_, ?_⟩
    · unfold txt
      rw [if_neg hne2, ← e2, hj]
    · have := congrArg List.length e2
      rw [List.length_map] at this
      omega
    · rw [if_neg hne2]
      exact e2
  · rw [e]
    have e0 : ([dashS] : List Str).filterMap lof = [] := rfl
    rw [e0]
    refine ⟨?_, fun x hx => (nomatch hx), Nat.zero_le _, rfl⟩
    rw [e] at hj
    rw [← hj]
    rfl
theorem rims_back {z : Str} (h : rimsPl (sp z) = none) : txtR (rowsOf (sp z)) = z ∧ RimOk (rowsOf (sp z)) ∧ sp z = slw (rowsOf (sp z)) := by
  obtain ⟨rs, cur, e, hok, er, es, hne⟩ := rims_ok h
  have e2 : sp z = slw (rowsOf (sp z)) := by rw [er, ← slF_slw]; exact es
  refine ⟨?_, hok, e2⟩
  rw [← rims_text (by rw [er]; simp) hne, ← e2, sp_join]
end W11
set_option Elab.async false
set_option linter.all false
set_option maxRecDepth 100000
set_option maxHeartbeats 1000000
namespace W11
open PySem L2 PySem.Spec PyProof.Rows WR WB WE WS
/-! ### errors besides; what raises -/
def spM2 (C : Addr) : Sp := fun vs H Q _ => ∃ (a : Addr) (v u : V), vs = [.ref a, v, u] ∧ H a = some (exo a C none) ∧ ∀ dx, H dx = none → dx ≠ a → Q .non (L2.upd (L2.upd (L2.upd H dx (exd dx [("what", v)])) a (exo a C (some dx))) dx (exd dx [("most", u), ("what", v)]))
theorem mkM2 {C : Addr} {H : Hp} {v u : V} {Q : XK} (k : ∀ d, H d = none → Q (.ref C) (some d) (L2.upd H d (.xd [("most", u), ("what", v)]))) : ∀ a, H a = none → spM2 C [.ref a, v, u] (L2.upd H a (exo a C none))
    (fun z H2 => z = .non ∧ ∃ (d : Addr) (fs : List (Str × V)), H2 a = some (exo a C (some d)) ∧ H2 d = some (exd d fs) ∧ H d = none ∧ Q (.ref C) (some d) (L2.upd (del H2 a) d (.xd fs))) (fun _ _ _ => False) := by
  intro a ha
  refine ⟨a, v, u, rfl, upd_same, fun dx h1 h2 => ⟨rfl, dx, _, by rw [upd_ne h2.symm, upd_same], upd_same, by rw [upd_ne h2] at h1; exact h1, ?_⟩⟩
  rw [heap2 ha h2]
  exact k dx (by rw [upd_ne h2] at h1; exact h1)
abbrev sInitBW : Stmt := inClass (top 3) 0
abbrev nInitBW : List Str := ["self", "part"]
theorem scInitBW : FnScope nInitBW ["self", "part"] (defScope sInitBW) := ⟨rfl, rfl, rfl, by decide +kernel, rfl, by decide +kernel, by decide +kernel⟩
abbrev sInitUB : Stmt := inClass (top 6) 0
abbrev nInitUB : List Str := ["self", "kind"]
theorem scInitUB : FnScope nInitUB ["self", "kind"] (defScope sInitUB) := ⟨rfl, rfl, rfl, by decide +kernel, rfl, by decide +kernel, by decide +kernel⟩
abbrev sInitTM : Stmt := inClass (top 7) 0
abbrev nInitTM : List Str := ["self", "what", "most"]
theorem scInitTM : FnScope nInitTM ["self", "what", "most"] (defScope sInitTM) := ⟨rfl, rfl, rfl, by decide +kernel, rfl, by decide +kernel, by decide +kernel⟩
section
variable {P : Program} {w : World} {K : PySem.W.Frag} {mg : Str → Option Value} {base : Heap}
theorem ok_initBW {C f : Addr} {fd : FuncData} (F : Fun K "__init__" "BadWord.__init__" sInitBW f fd) (O : OexC K C) (n1 : PySem.W.findIn K (.ref C) "part" = some none) : FnOk P w K mg base CX0 1 f fd ["self", "part"] (spI1 "part" C) := by
  refine F.ok scInitBW (fun vs H Q E h => ?_) (fun cdv A outer s H vs Q E hr h => ?_)
  · obtain ⟨a, v, rfl, _⟩ := h
    rfl
  · obtain ⟨a, v, rfl, hA, k⟩ := h
    refine ⟨_, pss_one (ps_ost (pv 0) (pv 1)), ?_⟩
    exact ⟨_, rfl, _, rfl, a, C, rfl, O, n1, .inl ⟨hA, fun dx h1 h2 => k dx h1 h2⟩⟩
theorem ok_initUB {C f : Addr} {fd : FuncData} (F : Fun K "__init__" "Unbalanced.__init__" sInitUB f fd) (O : OexC K C) (n1 : PySem.W.findIn K (.ref C) "kind" = some none) : FnOk P w K mg base CX0 1 f fd ["self", "kind"] (spI1 "kind" C) := by
  refine F.ok scInitUB (fun vs H Q E h => ?_) (fun cdv A outer s H vs Q E hr h => ?_)
  · obtain ⟨a, v, rfl, _⟩ := h
    rfl
  · obtain ⟨a, v, rfl, hA, k⟩ := h
    refine ⟨_, pss_one (ps_ost (pv 0) (pv 1)), ?_⟩
    exact ⟨_, rfl, _, rfl, a, C, rfl, O, n1, .inl ⟨hA, fun dx h1 h2 => k dx h1 h2⟩⟩
theorem ok_initTM {C f : Addr} {fd : FuncData} (F : Fun K "__init__" "TooMany.__init__" sInitTM f fd) (O : OexC K C) (n1 : PySem.W.findIn K (.ref C) "what" = some none) (n2 : PySem.W.findIn K (.ref C) "most" = some none) : FnOk P w K mg base CX0 1 f fd ["self", "what", "most"] (spM2 C) := by
  refine F.ok scInitTM (fun vs H Q E h => ?_) (fun cdv A outer s H vs Q E hr h => ?_)
  · obtain ⟨a, v, u, rfl, _⟩ := h
    rfl
  · obtain ⟨a, v, u, rfl, hA, k⟩ := h
    refine ⟨_, pss_cons (ps_ost (pv 0) (pv 1)) (pss_one (ps_ost (pv 0) (pv 2))), ?_⟩
    refine ⟨_, rfl, _, rfl, a, C, rfl, O, n1, .inl ⟨hA, fun dx h1 h2 => ?_⟩⟩
    refine ⟨_, rfl, _, rfl, a, C, rfl, O, n2, .inr ⟨dx, _, upd_same, by rw [upd_ne h2, upd_same], by show 1 ≤ 900; decide, k dx h1 h2⟩⟩
end
/-- too many of what there are -/
abbrev BadM (C : Addr) (E : XK) (H : Hp) (wh : V) (n : Int) : Prop := ∀ H1, Same H H1 → ∀ d, H1 d = none → E (.ref C) (some d) (L2.upd H1 d (.xd [("most", .int n), ("what", wh)]))
def spFewPX (CTM : Addr) : Sp := fun vs H Q E => ∃ n : Int, vs = [.int n] ∧ (n ≤ 24 → Q .non H) ∧ (24 < n → BadM CTM E H (.str "letters") 24)
def spNeedBX (K : PySem.W.Frag) (CUB : Addr) : Sp := fun vs H Q E => ∃ (a : Addr) (ns : List Int), vs = [.ref a] ∧ SqL K H a (iv ns) ∧ ns.length ≤ 1000 ∧ Lts ns ∧ (Fr.bal ns = [] → ∀ H', Same H H' → Q .non H') ∧ (∀ k m r, Fr.bal ns = (k, m) :: r → Bad "kind" CUB E H (.int k))
/-- a place of n ones -/
def plB (x : V) (n : Nat) : Bool := within x (.int 0) (.int ((n : Int) - 1))
theorem plB_nat {k n : Nat} (h : k < n) : plB (.int (k : Int)) n = true := by
  show (decide ((0 : Int) ≤ k) && decide ((k : Int) ≤ (n : Int) - 1)) = true
  rw [decide_eq_true (show (0 : Int) ≤ k by omega), decide_eq_true (show (k : Int) ≤ (n : Int) - 1 by omega)]
  rfl
/-- a place that is none is refused -/
def spNoPl (K : PySem.W.Frag) (C CR CNP : Addr) : Sp := fun vs H Q E => ∃ (p : Addr) (x : V) (t : String) (xs : List Addr) (ws : List (List Int)), vs = [.ref p, x] ∧ RimsAt K C CR H p xs ws ∧ Typ H x t ∧ plB x ws.flatten.length = false ∧ Bad "value" CNP E H x
abbrev sNeedPX : Stmt := sNeedPl
abbrev nNeedPX : List Str := ["rims", "value"]
theorem scNeedPX : FnScope nNeedPX ["rims", "value"] (defScope sNeedPX) := ⟨rfl, rfl, rfl, by decide +kernel, rfl, by decide +kernel, by decide +kernel⟩
abbrev sRimOf : Stmt := inClass (top 40) 4
abbrev nRimOf : List Str := ["self", "place"]
theorem scRimOf : FnScope nRimOf ["self", "place"] (defScope sRimOf) := ⟨rfl, rfl, rfl, by decide +kernel, rfl, by decide +kernel, by decide +kernel⟩
section
variable {P : Program} {w : World} {K : PySem.W.Frag} {mg : Str → Option Value} {base : Heap} {C CR CTM CUB CNP : Addr}
theorem ok_fewPX {f : Addr} {fd : FuncData} (F : Fun K "need_few_places" "need_few_places" sFewP f fd) (T : TxR mg) (ET : ErrC P w K mg base CTM "TooMany" ["self", "what", "most"] (spM2 CTM)) : FnOk P w K mg base (L2.CX P w) 4 f fd ["many"] (spFewPX CTM) := by
  refine F.okX scFewP (fun vs H Q E h => ?_) (fun cdv A outer s H vs Q E hr h => ?_)
  · obtain ⟨n, rfl, _⟩ := h
    rfl
  · obtain ⟨n, rfl, k1, k2⟩ := h
    obtain ⟨tk, mM⟩ := T.places
    obtain ⟨fI, fdI, iC, tI, FI, bI⟩ := ET.ini
    refine ⟨_, pss_one (ps_if (pt_cmpR op_gt (pv 0) (pe_glob (v := .int 24) (by rfl) mM ⟨_, rfl⟩) (nomark _)) (pss_one (ps_raise rfl (takes_of rfl rfl rfl rfl) (pmk_oex (dvs := []) ET.oex iC tI FI (hr.mono (by decide)) bI .nil pass0 (by rfl) ET.g (pa_cons pe_str (pa_cons (pe_glob (v := .int 24) (by rfl) mM ⟨_, rfl⟩) pa_nil))))) pss_nil), ?_⟩
    refine ⟨_, rfl, _, _, rfl, rfl, _, rfl, ?_⟩
    refine ite2 (fun h => ?_) (fun h => ?_)
    · exact ⟨by show 2 ≤ 1000; decide, mkM2 (Q := fun cls d H' => E cls d H') fun d hd => k2 (of_decide_eq_true h) H (fun _ _ e => e) d hd⟩
    · exact k1 (by have := of_decide_eq_false (Bool.eq_false_iff.mpr h); omega)
theorem ok_needBX {f : Addr} {fd : FuncData} (F : Fun K "need_balanced" "need_balanced" sNeedB f fd) (GB : Cal P w K mg base "balance_of" 2 ["letters"] (spBalOf K)) (ET : ErrC P w K mg base CUB "Unbalanced" ["self", "kind"] (spI1 "kind" CUB)) : FnOk P w K mg base (L2.CX P w) 4 f fd ["letters"] (spNeedBX K CUB) := by
  refine F.okX scNeedB (fun vs H Q E h => ?_) (fun cdv A outer s H vs Q E hr h => ?_)
  · obtain ⟨a, ns, rfl, _⟩ := h
    rfl
  · obtain ⟨a, ns, rfl, hA, hlen, hl, k1, k2⟩ := h
    obtain ⟨fI, fdI, iC, tI, FI, bI⟩ := ET.ini
    refine ⟨_, pss_cons (ps_set (i := 1) scNeedB.nd rfl (Or.inl rfl) (pe_cal GB hr (by decide) (by rfl) (pa_cons (pv 0) pa_nil)))
      (pss_one (ps_if (pt_truth (pv 1) (by intro _; rfl)) (pss_one (ps_raise rfl (takes_of rfl rfl rfl rfl) (pmk_oex (dvs := []) ET.oex iC tI FI (hr.mono (by decide)) bI .nil pass0 (by rfl) ET.g (pa_cons (pe_ix ix_tup (pe_ix ix_tup (pv 1) pe_int (fun _ _ => rfl)) pe_int (fun _ _ => rfl)) pa_nil)))) pss_nil)), ?_⟩
    refine ⟨_, rfl, a, ns, rfl, hA, hlen, hl, fun p H1 s1 hB => ?_⟩
    obtain ⟨vs, h1, h2⟩ := hB
    refine at_set ?_
    try dsimp only
    refine ⟨_, rfl, _, .inr (.inl ⟨_, h1, rfl⟩), ?_⟩
    cases eb : Fr.bal ns with
    | nil =>
      rw [eb] at h2
      cases h2
      exact iteF (k1 eb H1 s1)
    | cons b r =>
      obtain ⟨kk, m⟩ := b
      rw [eb] at h2
      cases h2 with
      | cons hx _ =>
        obtain ⟨q, rfl, hq⟩ := hx
        refine iteT ?_
        refine ⟨_, rfl, p, _, _, _, rfl, rfl, h1, atI_nat (j := 0) rfl, q, _, _, _, rfl, rfl, hq, atI_nat (j := 0) rfl, by show 1 ≤ 1000; decide, ?_⟩
        exact mk1 (Q := fun cls d H' => E cls d H') fun d hd => k2 kk m r eb H1 s1 d hd
theorem ok_needPX {f : Addr} {fd : FuncData} (F : Fun K "need_place" "need_place" sNeedPX f fd) (TC : TxRC K mg CR) (NP : ErrC P w K mg base CNP "NoPlace" ["self", "value"] (spI1 "value" CNP)) (G_within : Cal P w K mg base "is_within" 2 ["value", "least", "most"] (spWithin)) : FnOk P w K mg base (L2.CX P w) 4 f fd ["rims", "value"] (spNoPl K C CR CNP) := by
  refine F.okX scNeedPX (fun vs H Q E h => ?_) (fun cdv A outer s H vs Q E hr h => ?_)
  · obtain ⟨p, x, t, xs, ws, rfl, _⟩ := h
    rfl
  · obtain ⟨p, x, t, xs, ws, rfl, R1, ht, hb, kb⟩ := h
    obtain ⟨fNP, fdNP, iNP, tNP, FNP, bNP⟩ := NP.ini
    refine ⟨_, pss_one (ps_if (pt_not (pt_val (pe_cal G_within hr (by decide) (by rfl) (pa_cons (pv 1) (pa_cons pe_int (pa_cons (pe_op op_sub (pe_fld (pv 0) rfl) pe_int) pa_nil)))))) (pss_one (ps_raise rfl (takes_of rfl rfl rfl rfl) (pmk_oex (dvs := []) NP.oex iNP tNP FNP (hr.mono (by decide)) bNP .nil pass0 (by rfl) NP.g (pa_cons (pv 1) pa_nil)))) pss_nil), ?_⟩
    obtain ⟨dx, tw, tl, th, tn, h1, _⟩ := id R1
    refine ⟨_, rfl, _, rfl, p, CR, dx, _, _, rfl, h1, TC.cl, TC.n3, rf_many, _, _, rfl, rfl, ?_⟩
    refine ⟨x, .int 0, .int ((ws.flatten.length : Int) - 1), t, rfl, ht, .inr ⟨_, rfl⟩, .inr ⟨_, rfl⟩, _, rfl, ?_⟩
    show if (!plB x ws.flatten.length) = true then _ else _
    rw [hb]
    exact iteT ⟨_, rfl, by show 1 ≤ 1000; decide, mk1 (Q := fun cls d H' => E cls d H') fun d hd => kb H (Same.refl _) d hd⟩
theorem ok_nextX {f : Addr} {fd : FuncData} (F : Fun K "next" "Rims.next" sNextR f fd) (TC : TxRC K mg CR) (GP : CalX P w K mg base "need_place" 4 ["rims", "value"] (spNoPl K C CR CNP)) : FnOk P w K mg base (L2.CX P w) 5 f fd ["self", "place"] (spNoPl K C CR CNP) := by
  refine F.okX scNextR (fun vs H Q E h => ?_) (fun cdv A outer s H vs Q E hr h => ?_)
  · obtain ⟨p, x, t, xs, ws, rfl, _⟩ := h
    rfl
  · obtain ⟨p, x, t, xs, ws, rfl, R1, ht, hb, kb⟩ := h
    refine ⟨_, pss_cons (ps_expr (pe_calX GP hr (by decide) (passes_call (takes_of rfl rfl rfl rfl) (fun _ _ _ _ h => h)) (by rfl) (pa_cons (pv 0) (pa_cons (pv 1) pa_nil))))
      (pss_one (ps_ret (pe_ix ix_tup (pe_fld (pv 0) rfl) (pv 1) (fun _ _ => rfl)))), ?_⟩
    exact ⟨_, rfl, _, rfl, p, x, t, xs, ws, rfl, R1, ht, hb, kb⟩
theorem ok_rimOfX {f : Addr} {fd : FuncData} (F : Fun K "rim_of" "Rims.rim_of" sRimOf f fd) (TC : TxRC K mg CR) (GP : CalX P w K mg base "need_place" 4 ["rims", "value"] (spNoPl K C CR CNP)) : FnOk P w K mg base (L2.CX P w) 5 f fd ["self", "place"] (spNoPl K C CR CNP) := by
  refine F.okX scRimOf (fun vs H Q E h => ?_) (fun cdv A outer s H vs Q E hr h => ?_)
  · obtain ⟨p, x, t, xs, ws, rfl, _⟩ := h
    rfl
  · obtain ⟨p, x, t, xs, ws, rfl, R1, ht, hb, kb⟩ := h
    refine ⟨_, pss_cons (ps_expr (pe_calX GP hr (by decide) (passes_call (takes_of rfl rfl rfl rfl) (fun _ _ _ _ h => h)) (by rfl) (pa_cons (pv 0) (pa_cons (pv 1) pa_nil))))
      (pss_one (ps_ret (pe_ix ix_tup (pe_fld (pv 0) rfl) (pv 1) (fun _ _ => rfl)))), ?_⟩
    exact ⟨_, rfl, _, rfl, p, x, t, xs, ws, rfl, R1, ht, hb, kb⟩
end
end W11
set_option Elab.async false
set_option linter.all false
set_option maxRecDepth 100000
set_option maxHeartbeats 1000000
namespace W11
open PySem L2 PySem.Spec PyProof.Rows WR WB WE WS
/-! ### rims that are refused -/
def NoWd (K : PySem.W.Frag) (C : Addr) (H : Hp) (x : V) : Prop := ∃ t, Typ H x t ∧ PySem.W.kitOne K (.type t) (.ref C) = some false
def FilB (K : PySem.W.Frag) (C : Addr) (H : Hp) (x : V) (b : Bool) : Prop := (NoWd K C H x ∧ b = false) ∨ (∃ p ns, x = V.ref p ∧ WordAt K C H p ns ∧ b = decide (0 < (ns.length : Int)))
theorem FilB.same {K : PySem.W.Frag} {C : Addr} {H H' : Hp} {x : V} {b : Bool} (h : FilB K C H x b) (s : Same H H') : FilB K C H' x b := by
  rcases h with ⟨⟨t, h1, h2⟩, e⟩ | ⟨p, ns, e, h, e2⟩
  · exact .inl ⟨⟨t, h1.same s, h2⟩, e⟩
  · exact .inr ⟨p, ns, e, h.same s, e2⟩
/-- whether it is a list or a tuple: told of data, and of a word -/
def LstB (K : PySem.W.Frag) (C : Addr) (H : Hp) (x : V) (b : Bool) : Prop := (∃ t, Typ H x t ∧ b = (t == "list" || t == "tuple")) ∨ (∃ p ns, x = V.ref p ∧ WordAt K C H p ns ∧ b = false)
theorem LstB.same {K : PySem.W.Frag} {C : Addr} {H H' : Hp} {x : V} {b : Bool} (h : LstB K C H x b) (s : Same H H') : LstB K C H' x b := by
  rcases h with ⟨t, h1, e⟩ | ⟨p, ns, e, h, e2⟩
  · exact .inl ⟨t, h1.same s, e⟩
  · exact .inr ⟨p, ns, e, h.same s, e2⟩
def spListedX (K : PySem.W.Frag) (C : Addr) : Sp := fun vs H Q _ => ∃ (x : V) (b : Bool), vs = [x] ∧ LstB K C H x b ∧ ∀ H', Same H H' → Q (.bl b) H'
def spFillX (K : PySem.W.Frag) (C : Addr) : Sp := fun vs H Q _ => ∃ (x : V) (b : Bool), vs = [x] ∧ FilB K C H x b ∧ Q (.bl b) H
def Trk (H : Hp) (a : Addr) (us : List V) : Prop := H a = some (.lst us) ∨ H a = some (.tup us)
def spInitRX (K : PySem.W.Frag) (C CR CBW CTM CUB : Addr) : Sp := fun vs H Q E => ∃ (H0 : Hp) (p dx : Addr) (x : V) (b : Bool), vs = [.ref p, x] ∧ Same H0 H ∧ H0 p = none ∧ H p = some (.ins CR dx []) ∧ LstB K C H0 x b ∧
  ((b = false ∧ Bad "part" CBW E H (.str "words")) ∨
   ∃ (a : Addr) (us : List V), x = .ref a ∧ Trk H0 a us ∧ b = true ∧ us.length ≤ 1000 ∧
    ((¬ (1 ≤ us.length ∧ us.length ≤ 4) ∧ Bad "part" CBW E H (.str "words")) ∨ ((1 ≤ us.length ∧ us.length ≤ 4) ∧
      ((∃ fb : V → Bool, (∀ v ∈ us, FilB K C H0 v (fb v)) ∧ us.all fb = false ∧ Bad "part" CBW E H (.str "words")) ∨
       (∃ (xs : List Addr) (ws : List (List Int)), us = xs.map V.ref ∧ Wds K C H0 xs ws ∧ (∀ w ∈ ws, w ≠ []) ∧ ws.flatten.length ≤ 60 ∧ Lts ws.flatten ∧
         ((24 < ws.flatten.length ∧ BadM CTM E H (.str "letters") 24) ∨ (ws.flatten.length ≤ 24 ∧ ∃ k m r, Fr.bal ws.flatten = (k, m) :: r ∧ Bad "kind" CUB E H (.int k))))))))
theorem ye_ne {b : Bool} {A B : Prop} (h : b = false) (k : A) : if (!b) = true then A else B := by rw [h]; exact iteT k
theorem Bad.at {fl : Str} {C : Addr} {E : XK} {H H1 : Hp} {v : V} (h : Bad fl C E H v) (s : Same H H1) : Bad fl C E H1 v := fun H2 s2 => h H2 (s.trans s2)
section
variable {P : Program} {w : World} {K : PySem.W.Frag} {mg : Str → Option Value} {base : Heap} {C CR CBW CTM CUB : Addr}
theorem ok_listedX {f : Addr} {fd : FuncData} (F : Fun K "is_listed" "is_listed" sListed f fd) (TI : TxI mg) (T : TxW K mg C) (nk : PySem.W.kitAny K (.ref C) [.type "list", .type "tuple"] = some false) : FnOk P w K mg base CX0 1 f fd ["value"] (spListedX K C) := by
  refine F.ok scListed (fun vs H Q E h => ?_) (fun cdv A outer s H vs Q E hr h => ?_)
  · obtain ⟨x, b, rfl, _⟩ := h
    rfl
  · obtain ⟨x, b, rfl, ht, k⟩ := h
    refine ⟨_, pss_one (ps_ret (pe_callB call_isiT (by rfl) TI.isin (by decide +kernel) (pa_cons (pv 0) (pa_cons (pe_tup (pa_cons (pe_bltn (v := .ty "list") (by rfl) TI.list (by decide +kernel) rfl) (pa_cons (pe_bltn (v := .ty "tuple") (by rfl) TI.tuple (by decide +kernel) rfl) pa_nil))) pa_nil)))), ?_⟩
    refine ⟨_, rfl, (by show 2 ≤ sizeLine; decide), fun p hp => ?_⟩
    have sm : Same H (upd H p (.tup [.ty "list", .ty "tuple"])) := fun b o e => by rw [upd_ne (ne_of_none e hp)]; exact e
    rcases ht with ⟨t, ht, rfl⟩ | ⟨q, ns, rfl, W1, rfl⟩
    · exact ⟨x, p, _, _, _, _, rfl, upd_same, .cons (.ty _) (.cons (.ty _) .nil), (ht.same sm).ty, (ht.same sm).kSeq, k _ sm⟩
    · exact ⟨_, p, _, _, _, _, rfl, upd_same, .cons (.ty _) (.cons (.ty _) .nil), (W1.same sm).tyx T, nk, k _ sm⟩
theorem ok_fillX {f : Addr} {fd : FuncData} (F : Fun K "is_filled" "is_filled" sFilled f fd) (T : TxW K mg C) : FnOk P w K mg base CX0 1 f fd ["value"] (spFillX K C) := by
  refine F.ok scFilled (fun vs H Q E h => ?_) (fun cdv A outer s H vs Q E hr h => ?_)
  · obtain ⟨x, b, rfl, _⟩ := h
    rfl
  · obtain ⟨x, b, rfl, hx, k⟩ := h
    refine ⟨_, pss_one (ps_ret (pe_and (pe_callB call_isi (by rfl) T.isin (by decide +kernel) (pa_cons (pv 0) (pa_cons (pe_glob (v := .ref C) (by rfl) T.mgW rfl) pa_nil)))
      (pe_one (pe_cmpR op_gt (pe_fld (pv 0) rfl) pe_int (nomark _))))), ?_⟩
    rcases hx with ⟨⟨t, h1, h2⟩, rfl⟩ | ⟨p, ns, rfl, W1, rfl⟩
    · refine ⟨_, rfl, _, _, _, _, _, rfl, .own C, h1.ty, h2, _, rfl, ?_⟩
      exact iteF k
    · refine ⟨_, rfl, _, _, _, _, _, rfl, .own C, W1.tyx T, kit_self C, _, rfl, ?_⟩
      refine iteT ?_
      obtain ⟨dx, tl, tk, ks, h1, h2, h3, h4⟩ := W1
      exact ⟨_, rfl, p, C, dx, _, _, rfl, h1, T.cl, T.nN, wf_length, _, _, rfl, rfl, k⟩
theorem ok_initRX {f : Addr} {fd : FuncData} (F : Fun K "__init__" "Rims.__init__" sInitR f fd) (T : TxW K mg C) (TC : TxRC K mg CR) (TA : TxA mg) (R : TxR mg) (GL : Cal P w K mg base "is_listed" 1 ["value"] (spListedX K C)) (GF : Cal P w K mg base "is_filled" 1 ["value"] (spFillX K C))
    (GP : CalX P w K mg base "need_few_places" 4 ["many"] (spFewPX CTM)) (GB : CalX P w K mg base "need_balanced" 4 ["letters"] (spNeedBX K CUB)) (GN : Cal P w K mg base "nexts_of" 1 ["words"] (spNexts K C)) (BW : ErrC P w K mg base CBW "BadWord" ["self", "part"] (spI1 "part" CBW)) :
    FnOk P w K mg base (L2.CX P w) 5 f fd ["self", "words"] (spInitRX K C CR CBW CTM CUB) := by
  refine F.okX scInitR (fun vs H Q E h => ?_) (fun cdv A outer s H vs Q E hr h => ?_)
  · obtain ⟨H0, p, dx, x, b, rfl, _⟩ := h
    rfl
  · obtain ⟨H0, p, dx, x, b, rfl, s0, p0, hp, ht, h⟩ := h
    obtain ⟨tW, mW⟩ := R.words
    obtain ⟨fI, fdI, iC, tI, FI, bI⟩ := BW.ini
    refine ⟨_, pss_cons (ps_if (PW.pt (pw_or (pt_not (pt_val (pe_cal GL hr (by decide) (by rfl) (pa_cons (pv 1) pa_nil)))) (pw_or1 (pt_not (pt_chain op_le op_le pe_int (pe_callB call_len_seq (by rfl) TA.len PySem.boot_len (pa_cons (pv 1) pa_nil)) (pe_glob (v := .int 4) (by rfl) mW ⟨_, rfl⟩)))))) (pss_one (ps_raise rfl (takes_of rfl rfl rfl rfl) (pmk_oex (dvs := []) BW.oex iC tI FI (hr.mono (by decide)) bI .nil pass0 (by rfl) BW.g (pa_cons pe_str pa_nil)))) pss_nil)
      (pss_cons (ps_if (pt_not (pt_val (pe_callB (cr_all rfl) (by rfl) T.all (by decide +kernel) (pa_cons (pe_lc (own := [("word", 3)]) (g := gName 3) (tt := tYes) rfl scInitR.nd (WE.pi_seqA (K := K) rfl (pv 1))
          (blkOk_by (N := nInitR) (sc := defScope sInitR) (by decide +kernel)) (fun _ _ _ _ _ => pg_name (i := 3) scInitR.nd rfl (Or.inl rfl)) (fun _ _ _ _ _ => pts_nil)
          (fun _ _ _ _ _ => pe_cal GF hr (by decide) (by rfl) (pa_cons (pv 3) pa_nil))) pa_nil)))) (pss_one (ps_raise rfl (takes_of rfl rfl rfl rfl) (pmk_oex (dvs := []) BW.oex iC tI FI (hr.mono (by decide)) bI .nil pass0 (by rfl) BW.g (pa_cons pe_str pa_nil)))) pss_nil)
      (pss_cons (ps_setLc2 (i := 2) (own := [("word", 3), ("letter", 4)]) (vs1 := [4]) (g := gName 3) (tt := tYes) (g1 := gName 4) (tt1 := tYes) rfl scInitR.nd rfl rfl (sw_true rfl rfl rfl (by decide +kernel)) (WE.pi_seqA (K := K) rfl (pv 1))
          (blkOk_by (N := nInitR) (sc := defScope sInitR) (by decide +kernel)) (by decide) (fun _ _ _ _ _ => pg_name (i := 3) scInitR.nd rfl (Or.inl rfl)) (fun _ _ _ _ _ => pts_nil)
          (fun _ _ _ _ _ => pi_tupK (K := K) rfl (pe_fldK (K := K) rfl (pv 3) rfl)) (fun _ _ _ _ _ => pg_name (i := 4) scInitR.nd rfl (Or.inl rfl)) (fun _ _ _ _ _ => pts_nil) (fun _ _ _ _ _ => pv 4))
      (pss_cons (ps_expr (pe_calX GP hr (by decide) (passes_call (takes_of rfl rfl rfl rfl) (fun _ _ _ _ h => h)) (by rfl) (pa_cons (pe_callB call_len_seq (by rfl) TA.len PySem.boot_len (pa_cons (pv 2) pa_nil)) pa_nil)))
      (pss_cons (ps_expr (pe_calX GB hr (by decide) (passes_call (takes_of rfl rfl rfl rfl) (fun _ _ _ _ h => h)) (by rfl) (pa_cons (pv 2) pa_nil)))
      (pss_cons (ps_fld (pv 0) (pe_callTy call_tupB (by rfl) TA.tuple (by decide +kernel) (pa_cons (pv 1) pa_nil)) rfl)
      (pss_cons (ps_fld (pv 0) (pe_callTy call_tupB (by rfl) TA.tuple (by decide +kernel) (pa_cons (pv 2) pa_nil)) rfl)
      (pss_cons (ps_fld (pv 0) (pe_callB call_len_seq (by rfl) TA.len PySem.boot_len (pa_cons (pv 2) pa_nil)) rfl)
      (pss_cons (ps_fld (pv 0) (pe_op op_fdiv (pe_callB call_len_seq (by rfl) TA.len PySem.boot_len (pa_cons (pv 2) pa_nil)) pe_int) rfl)
      (pss_cons (ps_fld (pv 0) (pe_callB (cr_all rfl) (by rfl) T.all (by decide +kernel) (pa_cons (pe_lc (own := [("word", 3)]) (g := gName 3) (tt := tYes) rfl scInitR.nd (WE.pi_seqA (K := K) rfl (pv 1))
          (blkOk_by (N := nInitR) (sc := defScope sInitR) (by decide +kernel)) (fun _ _ _ _ _ => pg_name (i := 3) scInitR.nd rfl (Or.inl rfl)) (fun _ _ _ _ _ => pts_nil)
          (fun _ _ _ _ _ => pe_fldK (K := K) rfl (pv 3) rfl)) pa_nil)) rfl)
      (pss_cons (ps_fld (pv 0) (pe_callTy call_tupB (by rfl) TA.tuple (by decide +kernel) (pa_cons (pe_lc2 (own := [("home", 5), ("word", 3), ("_", 6)]) (vs1 := [6]) (g := gTup K 2 (gCons (gName 5) (gCons (gName 3) gNil))) (tt := tYes) (g1 := gName 6) (tt1 := tYes) rfl scInitR.nd (WE.pi_enumA (K := K) rfl (by rfl) R.enum (pa_cons (pv 1) pa_nil))
          (blkOk_by (N := nInitR) (sc := defScope sInitR) (by decide +kernel)) (by decide) (fun _ _ _ _ _ => pg_tup (n := 2) rfl (pgs_cons (pg_name (i := 5) scInitR.nd rfl (Or.inl rfl)) (pgs_cons (pg_name (i := 3) scInitR.nd rfl (Or.inl rfl)) pgs_nil))) (fun _ _ _ _ _ => pts_nil)
          (fun _ _ _ _ _ => pi_tupK (K := K) rfl (pe_fldK (K := K) rfl (pv 3) rfl)) (fun _ _ _ _ _ => pg_name (i := 6) scInitR.nd rfl (Or.inl rfl)) (fun _ _ _ _ _ => pts_nil) (fun _ _ _ _ _ => pv 5)) pa_nil)) rfl)
      (pss_one (ps_fld (pv 0) (pe_cal GN hr (by decide) (by rfl) (pa_cons (pv 1) pa_nil)) rfl)))))))))))), ?_⟩
    refine ⟨_, rfl, x, b, rfl, ht.same s0, fun H1 s1 => ⟨_, rfl, ?_⟩⟩
    rcases h with ⟨e, kb⟩ | ⟨a, us, rfl, tr, e, lus, h⟩
    · rw [e]
      refine iteT ?_
      exact ⟨by show 1 ≤ 1000; decide, mk1 (Q := fun cls d H' => E cls d H') fun d hd => kb H1 s1 d hd⟩
    rw [e]
    refine iteF ?_
    have E0 : SqL K H0 a us ∨ SqT K H0 a us := tr.imp (fun z => SqL.of z) (fun z => SqT.of z)
    have E1 : ∀ {H'}, Same H0 H' → SqL K H' a us ∨ SqT K H' a us := fun s => E0.imp (fun z => seqL s z) (fun z => seqT s z)
    have s01 := s0.trans s1
    refine ⟨_, rfl, a, _, rfl, E1 s01, _, _, rfl, rfl, _, rfl, ?_⟩
    rcases h with ⟨e2, kb⟩ | ⟨⟨l1, l4⟩, h⟩
    · by_cases h1 : 1 ≤ us.length
      · refine iteT' (decide_eq_true (by omega)) ⟨_, _, rfl, rfl, _, rfl, ye_ne (decide_eq_false (by omega)) ?_⟩
        exact ⟨by show 1 ≤ 1000; decide, mk1 (Q := fun cls d H' => E cls d H') fun d hd => kb H1 s1 d hd⟩
      · refine iteF' (decide_eq_false (by omega)) ⟨_, rfl, iteT ?_⟩
        exact ⟨by show 1 ≤ 1000; decide, mk1 (Q := fun cls d H' => E cls d H') fun d hd => kb H1 s1 d hd⟩
    refine iteT' (decide_eq_true (by omega)) ⟨_, _, rfl, rfl, _, rfl, no_ne (decide_eq_true (by omega)) ?_⟩
    have hfb : ∃ fb : V → Bool, ∀ v ∈ us, FilB K C H0 v (fb v) := by
      rcases h with ⟨fb, hf, _⟩ | ⟨xs, ws, rfl, hW, hne, _⟩
      · exact ⟨fb, hf⟩
      · refine ⟨fun _ => true, fun v hv => ?_⟩
        obtain ⟨q, hq, rfl⟩ := List.mem_map.mp hv
        obtain ⟨u, hu, Wq⟩ := All2.mem hW hq
        have up : 0 < u.length := List.length_pos_iff.mpr (hne u hu)
        exact .inr ⟨q, u, rfl, Wq, (decide_eq_true (show (0 : Int) < (u.length : Int) by omega)).symm⟩
    have hall : ∀ {G : Hp → Prop}, True := fun {_} => trivial
    refine nx_not_lc ?_
    refine ⟨_, rfl, a, _, rfl, E1 s01, fun J G wk hG => ?_⟩
    rcases h with ⟨fb, hf, hall, kb⟩ | ⟨xs, ws, rfl, hW, hne, l60, hl, h⟩
    · refine lcp wk (fun _ => true) (fun v => V.bl (fb v)) (by omega) (fun H2 s => hG _ s) ?_ ?_
      · intro v hv H2 s2 Qy Qn ky kn
        refine ⟨rfl, yes_te ⟨_, rfl, v, fb v, rfl, (hf v hv).same (s01.trans s2), ?_⟩⟩
        exact ky rfl H2 (fun _ _ e => e)
      intro D1 H2 hD1 s2 h2
      refine ⟨D1, us.map fb, rfl, SqL.of (by
        rw [h2, List.filter_eq_self.mpr (fun _ _ => rfl), List.map_map]
        rfl), ?_⟩
      have eall : (us.map fb).all id = false := by
        rw [List.all_map]
        exact hall
      rw [eall]
      refine ⟨_, rfl, iteT ?_⟩
      exact ⟨by show 1 ≤ 1000; decide, mk1 (Q := fun cls d H' => E cls d H') fun d hd => kb H2 (s1.trans s2) d hd⟩
    have lxw : xs.length = ws.length := hW.length
    refine lcp wk (fun _ => true) (fun _ => V.bl true) (by omega) (fun H2 s => hG _ s) ?_ ?_
    · intro x hx H2 s2 Qy Qn ky kn
      obtain ⟨q, hq, rfl⟩ := List.mem_map.mp hx
      obtain ⟨u, hu, Wq⟩ := All2.mem hW hq
      have up : 0 < u.length := List.length_pos_iff.mpr (hne u hu)
      refine ⟨rfl, yes_te ⟨_, rfl, V.ref q, true, rfl, .inr ⟨q, u, rfl, Wq.same (s01.trans s2), (decide_eq_true (show (0 : Int) < (u.length : Int) by omega)).symm⟩, ?_⟩⟩
      exact ky rfl H2 (fun _ _ e => e)
    intro D1 H2 hD1 s2 h2
    have s02 := s01.trans s2
    refine ⟨D1, xs.map fun _ => true, rfl, SqL.of (by
      rw [h2, List.filter_eq_self.mpr (fun _ _ => rfl), List.map_map, List.map_map]
      rfl), ?_⟩
    have eall : (xs.map fun _ => true).all id = true := by
      rw [List.all_eq_true]
      intro b hb
      obtain ⟨_, _, rfl⟩ := List.mem_map.mp hb
      rfl
    rw [eall]
    refine ⟨_, rfl, iteF ?_⟩
    refine nx_lc2 ?_
    refine ⟨_, rfl, a, _, rfl, E1 s02, fun J2 G2 wk2 hG2 => ?_⟩
    refine lc2_out wk2 (fun i => iv (ws.getD i [])) (fun H s => hG2 _ s) ?_ ?_
    · rintro i x D H H' hi ⟨rfl, hx⟩ hD sm hDD Nx kN
      obtain ⟨q, hq, rfl⟩ : ∃ q, xs[i]? = some q ∧ x = V.ref q := by
        rw [List.getElem?_map] at hx
        cases e : xs[i]? with
        | none => rw [e] at hx; cases hx
        | some q => rw [e] at hx; exact ⟨q, rfl, (Option.some.inj hx).symm⟩
      obtain ⟨u, hu, Wq⟩ := hW.at hq
      have eu : ws.getD i [] = u := by rw [List.getD_eq_getElem?_getD, hu]; rfl
      obtain ⟨dx1, tl, tk, ks, w1, w2, _⟩ := Wq.same s02
      refine ⟨rfl, yes_te ?_⟩
      refine ⟨_, rfl, q, C, dx1, _, _, rfl, sm _ _ w1, T.cl, T.nL, wf_letters, tl, rfl, ⟨_, WR.Same.seqT sm w2.sq⟩, ?_⟩
      have hft := flat_take hu
      refine lc2_in (walk_tup (xs := iv u)) (fun y => y) hD sm hDD ?_ (fun H s => ?_) ?_ ?_
      · rw [flat_to (by have := (List.getElem?_eq_some_iff.mp hu).1; omega)]
        rw [List.length_map, List.length_map]
        omega
      · exact WR.Same.seqT s w2.sq
      · intro y hy H2 s2 Qy ky Qn
        exact ⟨rfl, yes_te ⟨_, rfl, ky H2 (fun _ _ e => e)⟩⟩
      · intro H2 s2 h2
        refine kN H2 s2 ?_
        rw [h2, List.map_id', eu]
    intro D H3 hD s3 h3
    have eD : ((List.range (xs.map V.ref).length).map fun i => iv (ws.getD i [])).flatten = iv ws.flatten := by
      rw [List.length_map, lxw, flat_to (Nat.le_refl _), List.take_length]
    rw [eD] at h3
    refine at_set ?_
    try dsimp only
    have elen : ((iv ws.flatten).length : Int) = (ws.flatten.length : Int) := by rw [List.length_map]
    have s13 := s1.trans (s2.trans s3)
    rcases h with ⟨l24, kb⟩ | ⟨l24, k, m, r, eb, kb⟩
    · exact ⟨_, rfl, D, _, rfl, .inl (SqL.of h3), _, rfl, (fun h => absurd h (by rw [elen]; omega)), fun _ H4 s4 => kb H4 (s13.trans s4)⟩
    · refine ⟨_, rfl, D, _, rfl, .inl (SqL.of h3), _, rfl, (fun _ => ?_), fun h => absurd h (by rw [elen]; omega)⟩
      refine ⟨_, rfl, D, ws.flatten, rfl, SqL.of h3, by omega, hl, fun h => ?_, fun k' m' r' e' => ?_⟩
      · rw [eb] at h
        cases h
      · rw [eb] at e'
        cases e'
        exact kb.at s13
end
end W11
set_option Elab.async false
set_option linter.all false
set_option maxRecDepth 100000
set_option maxHeartbeats 1000000
namespace W11
open PySem L2 PySem.Spec PyProof.Rows WR WB WE WS
/-! ### the law's small defs -/
theorem lcF {β : Type} {J : It} {n : Nat} {G : Hp → Prop} {Y : Nat → Hp → V → Hp → Prop} (w : Walk J n G Y) (hY : ∀ i H x H', Y i H x H' → Same H H') (out : Nat → Option β) (R : Addr → Hp → V → β → Prop) (hst : ∀ D H H' v b, R D H v b → Same H H' → R D H' v b) (hput : ∀ D H ws o v b, H D = some (.lst ws) → R D H v b → R D (L2.upd H D o) v b)
    (hz : n < 40000) {g : TG} {tt : TT} {te : TE} {vs : List Nat} {σ : L2.St} {H1 : Hp} {Q : VK} (hG : ∀ H, Same H1 H → G H)
    (hs : ∀ (i : Nat) (x : V) (H H' : Hp), i < n → Same H1 H → Y i H x H' → ∀ D, H1 D = none → (∃ ws, H' D = some (.lst ws)) → ∀ (Qy : V → Hp → Prop) (Qn : Hp → Prop), (∀ b v H2, out i = some b → Same H' H2 → R D H2 v b → Qy v H2) → (out i = none → ∀ H2, Same H' H2 → Qn H2) →
      g x (wipe σ vs) H' fun σ2 H2 => wipe σ2 vs = wipe σ vs ∧ tt σ2 H2 fun b H3 => if b = true then te σ2 H3 Qy else Qn H3)
    (hd : ∀ (D : Addr) H' ws, H1 D = none → Same H1 H' → H' D = some (.lst ws) → All2 (R D H') ws ((List.range n).filterMap out) → Q (.ref D) H') : tLc (fun _ H R => R J H) g tt te vs σ H1 Q := by
  intro D hD
  refine lc_it w (fun i H => Same H1 H ∧ ∃ ws, H D = some (.lst ws) ∧ All2 (R D H) ws ((List.range i).filterMap out)) ⟨fun b o e => by rw [upd_ne (ne_of_none e hD)]; exact e, [], upd_same, .nil⟩ (fun i H _ q => hG H q.1) ?_ ?_
  · rintro i x H H' hi ⟨sm, ws, hw, h2⟩ y
    have sY := hY _ _ _ _ y
    have hlen := h2.length
    have lf := List.length_filterMap_le out (List.range i)
    rw [List.length_range] at lf
    refine hs i x H H' hi sm y D hD ⟨ws, sY _ _ hw⟩ _ _ (fun b v H2 ho s2 r => ?_) (fun ho H2 s2 => ?_)
    · have s3 := sY.trans s2
      have hw2 := s3 _ _ hw
      refine ⟨ws, hw2, Evl.sz_lt (by omega), fun b o e => ?_, ws ++ [v], upd_same, ?_⟩
      · rw [upd_ne (ne_of_none e hD)]
        exact s3 _ _ (sm _ _ e)
      · rw [List.range_succ, List.filterMap_append, List.filterMap_cons, ho]
        exact (h2.imp fun v b r => hput D H2 ws _ v b hw2 (hst D _ _ v b r s3)).app (.cons (hput D H2 ws _ v _ hw2 r) .nil)
    · have s3 := sY.trans s2
      refine ⟨sm.trans s3, ws, s3 _ _ hw, ?_⟩
      rw [List.range_succ, List.filterMap_append, List.filterMap_cons, ho]
      show All2 (R D H2) ws (List.filterMap out (List.range i) ++ [])
      rw [List.append_nil]
      exact h2.imp fun v b r => hst D _ _ v b r s3
  · rintro H ⟨sm, ws, hw, h2⟩
    exact hd D H ws hD sm hw h2
theorem fm_if (p : Nat → Bool) : ∀ l : List Nat, l.filterMap (fun i => if p i = true then some i else none) = l.filter p
  | [] => rfl
  | a :: l => by
    rw [List.filterMap_cons, List.filter_cons, ← fm_if p l]
    cases p a <;> rfl
theorem all_nat {ws : List V} {ns : List Nat} (h : All2 (fun v b => v = V.int ((b : Nat) : Int)) ws ns) : ws = iv (ns.map fun (n : Nat) => (n : Int)) := by
  induction h with
  | nil => rfl
  | cons h1 _ ih => rw [List.map_cons, h1, ih]; rfl

theorem rd_at : ∀ {ns : List Int}, Fr.Rd ns ↔ ∀ t, t + 1 < ns.length → ns.getD (t + 1) 0 ≠ -ns.getD t 0
  | [] => by simp [Fr.Rd]
  | a :: r => by
    rw [Fr.rd_cons, rd_at (ns := r)]
    constructor
    · rintro ⟨h1, h2⟩ t ht
      cases t with
      | zero =>
        cases r with
        | nil => simp at ht
        | cons b r =>
          have := h1 b rfl
          simp
          omega
      | succ t =>
        have := h2 t (by simp at ht; omega)
        simpa using this
    · intro h
      refine ⟨fun b hb => ?_, fun t ht => ?_⟩
      · cases r with
        | nil => cases hb
        | cons c r =>
          obtain rfl : c = b := by simpa using hb
          have := h 0 (by simp)
          simp at this
          omega
      · have := h (t + 1) (by simp; omega)
        simpa using this
theorem cy_at {ns : List Int} (nz : Fr.NZ ns) : Fr.Cy ns ↔ Fr.Rd ns ∧ (ns.length < 2 ∨ ns.getD 0 0 ≠ -ns.getD (ns.length - 1) 0) := by
  unfold Fr.Cy
  refine and_congr_right fun _ => ?_
  cases ns with
  | nil => simp
  | cons a r =>
    have e : (a :: r).getLast? = some ((a :: r).getD ((a :: r).length - 1) 0) := by
      rw [List.getLast?_eq_getElem?, List.getD_eq_getElem?_getD]
      have : (a :: r).length - 1 < (a :: r).length := by simp
      rw [List.getElem?_eq_getElem this]
      rfl
    have h0 : (a :: r).getD 0 0 = a := rfl
    rw [e, h0]
    constructor
    · intro h
      exact .inr (h a _ rfl rfl)
    · rintro (h | h) x y hx hy
      · cases r with
        | nil =>
          obtain rfl : a = x := by simpa using hx
          obtain rfl : a = y := by simpa using hy
          have := nz a List.mem_cons_self
          omega
        | cons b r =>
          simp only [List.length_cons] at h
          omega
      · obtain rfl : a = x := by simpa using hx
        have : (a :: r).getD ((a :: r).length - 1) 0 = y := Option.some.inj hy
        rw [← this]
        exact h
theorem str_add_nil (a : Str) : a ++ (Str.ofString "") = a := by
  have : (Str.ofString "") = ⟨#[]⟩ := by decide +kernel
  rw [this]
  cases a with
  | mk cps =>
    show Str.mk (cps ++ #[]) = _
    rw [Array.append_empty]
theorem alph_cps : alphS.cps.toList = (List.range 26).map fun i => 97 + i := by decide +kernel
theorem call_lenK {X : Cx} {K : PySem.W.Frag} (h : X.K = K) : CallR X (.builtin "len") (fun xs H Q => ∃ p ys, xs = [.ref p] ∧ (SqL K H p ys ∨ SqT K H p ys) ∧ Q (.int ys.length) H) := h ▸ call_len_seq
theorem rt_op_lc {r : R2} {wi : TI} {g : TG} {tt : TT} {te : TE} {vs : List Nat} {D : Ends} {σ : L2.St} {H : Hp}
    (h : wi σ H fun J H1 => tLc (fun _ H R => R J H) g tt te vs σ H1 fun y H2 => tLst tNil σ H2 fun z H3 => r y z H3 D.rt) : tRet (tOp r (tLc wi g tt te vs) (tLst tNil)) D σ H := h
/-- the places whose letter is the contrary of the one ahead, read round -/
def badR (ns : List Int) (i : Nat) : Option Nat := if ns.getD i 0 = -ns.getD ((i + ns.length - 1) % ns.length) 0 then some i else none
theorem badR_nil {ns : List Int} (hl : Lts ns) : (List.range ns.length).filterMap (badR ns) = [] ↔ Fr.rnd ns = ns := by
  have nz : Fr.NZ ns := fun x hx => by have := hl x hx; omega
  rw [Fr.rnd_iff nz, cy_at nz, rd_at, List.filterMap_eq_nil_iff]
  unfold badR
  constructor
  · intro h
    refine ⟨fun t ht e => ?_, ?_⟩
    · have := h (t + 1) (List.mem_range.mpr ht)
      have e2 : (t + 1 + ns.length - 1) % ns.length = t := by
        rw [show t + 1 + ns.length - 1 = t + ns.length by omega, Nat.add_mod_right, Nat.mod_eq_of_lt (by omega)]
      rw [e2, if_pos e] at this
      cases this
    · by_cases h2 : ns.length < 2
      · exact .inl h2
      · refine .inr fun e => ?_
        have := h 0 (List.mem_range.mpr (by omega))
        have e2 : (0 + ns.length - 1) % ns.length = ns.length - 1 := by rw [show 0 + ns.length - 1 = ns.length - 1 by omega, Nat.mod_eq_of_lt (by omega)]
        rw [e2, if_pos e] at this
        cases this
  · rintro ⟨h1, h2⟩ i hi
    have hi := List.mem_range.mp hi
    refine if_neg fun e => ?_
    cases i with
    | zero =>
      have e2 : (0 + ns.length - 1) % ns.length = ns.length - 1 := by rw [show 0 + ns.length - 1 = ns.length - 1 by omega, Nat.mod_eq_of_lt (by omega)]
      rw [e2] at e
      rcases h2 with h2 | h2
      · have l1 : ns.length - 1 = 0 := by omega
        rw [l1] at e
        have m : ns.getD 0 0 ∈ ns := by
          rw [List.getD_eq_getElem?_getD, List.getElem?_eq_getElem hi]
          exact List.getElem_mem hi
        have := hl _ m
        omega
      · exact h2 e
    | succ t =>
      have e2 : (t + 1 + ns.length - 1) % ns.length = t := by
        rw [show t + 1 + ns.length - 1 = t + ns.length by omega, Nat.add_mod_right, Nat.mod_eq_of_lt (by omega)]
      rw [e2] at e
      exact h1 t hi e
theorem at_prev {ns : List Int} {i : Nat} (hi : i < ns.length) : atI (iv ns) ((i : Int) - 1) = some (V.int (ns.getD ((i + ns.length - 1) % ns.length) 0)) := by
  have hg : ∀ j, j < ns.length → (iv ns)[j]? = some (V.int (ns.getD j 0)) := fun j hj => by
    rw [List.getElem?_map, List.getElem?_eq_getElem hj, List.getD_eq_getElem?_getD, List.getElem?_eq_getElem hj]
    rfl
  cases i with
  | zero =>
    have e2 : (0 + ns.length - 1) % ns.length = ns.length - 1 := by rw [show 0 + ns.length - 1 = ns.length - 1 by omega, Nat.mod_eq_of_lt (by omega)]
    rw [e2]
    have hn : ns ≠ [] := fun e => by rw [e] at hi; cases hi
    obtain ⟨ms, x, rfl⟩ : ∃ ms x, ns = ms ++ [x] := ⟨_, _, (List.dropLast_concat_getLast hn).symm⟩
    unfold iv
    rw [List.map_append]
    have := atI_last (ms.map V.int) (V.int x)
    rw [show ((0 : Nat) : Int) - 1 = -1 by omega]
    rw [show [x].map V.int = [V.int x] from rfl, this, List.length_append]
    simp
  | succ t =>
    have e2 : (t + 1 + ns.length - 1) % ns.length = t := by
      rw [show t + 1 + ns.length - 1 = t + ns.length by omega, Nat.add_mod_right, Nat.mod_eq_of_lt (by omega)]
    rw [e2, show ((t + 1 : Nat) : Int) - 1 = (t : Int) by omega]
    exact atI_nat (hg t (by omega))
def spSR : Sp := fun vs H Q _ => ∃ (p : Addr) (ns : List Int), vs = [.ref p] ∧ H p = some (.lst (iv ns)) ∧ ns.length ≤ 1000 ∧ Lts ns ∧ ∀ H', Same H H' → Q (.bl (decide (Fr.rnd ns = ns))) H'
def spItem : Sp := fun vs H Q _ => ∃ i : Int, vs = [.int i] ∧ 1 ≤ i.natAbs ∧ i.natAbs ≤ 26 ∧ Q (.str (itm i)) H
def lawL (z : Str) : Int := (lof z).getD 0
def spLet : Sp := fun vs H Q _ => ∃ z : Str, vs = [.str z] ∧ Fit z ∧ ∀ H', Same H H' → Q (.int (lawL z)) H'
theorem ix_all : ∀ c, c < 128 → Txt.index0 alphS ⟨#[c]⟩ = if 97 ≤ c ∧ c ≤ 122 then some (c - 97) else none := by decide +kernel
theorem alph_mem (c : Nat) : decide (c ∈ alphS.cps.toList) = decide (97 ≤ c ∧ c ≤ 122) := by
  rw [alph_cps, Bool.eq_iff_iff, decide_eq_true_iff, decide_eq_true_iff, List.mem_map]
  constructor
  · rintro ⟨i, hi, e⟩
    have := List.mem_range.mp hi
    omega
  · rintro ⟨h1, h2⟩
    exact ⟨c - 97, List.mem_range.mpr (by omega), by omega⟩
theorem nil_eq : (Str.ofString "") = ⟨#[]⟩ := by decide +kernel
theorem in_ends (r : List Nat) : inV (V.str ⟨r.toArray⟩) [V.str (Str.ofString ""), V.str (Str.ofString "'")] = decide (r = [] ∨ r = [39]) := by
  rw [nil_eq, tick_eq, Bool.eq_iff_iff, decide_eq_true_iff]
  unfold inV
  rw [List.any_eq_true]
  have cps : ∀ {a b : List Nat}, (⟨a.toArray⟩ : Str) = ⟨b.toArray⟩ → a = b := fun {a b} e => by
    have := congrArg (fun s : Str => s.cps.toList) e
    simpa using this
  constructor
  · rintro ⟨v, hv, h⟩
    rcases List.mem_cons.mp hv with rfl | hv
    · have := eq_of_beq h
      exact .inl (cps (a := []) this).symm
    · rw [List.mem_singleton.mp hv] at h
      have := eq_of_beq h
      exact .inr (cps (a := [39]) this).symm
  · rintro (rfl | rfl)
    · exact ⟨_, List.mem_cons_self, beq_self_eq_true _⟩
    · exact ⟨_, List.mem_cons_of_mem _ List.mem_cons_self, beq_self_eq_true _⟩
abbrev sSR : Stmt := top 50
abbrev nSR : List Str := ["_law_word", "_law_at"]
theorem scSR : FnScope nSR ["_law_word"] (defScope sSR) := ⟨rfl, rfl, rfl, by decide +kernel, rfl, by decide +kernel, by decide +kernel⟩
abbrev sItem : Stmt := top 52
abbrev nItem : List Str := ["_law_letter_here"]
theorem scItem : FnScope nItem ["_law_letter_here"] (defScope sItem) := ⟨rfl, rfl, rfl, by decide +kernel, rfl, by decide +kernel, by decide +kernel⟩
abbrev sLet : Stmt := top 54
abbrev nLet : List Str := ["_law_item_here", "_law_signs"]
theorem scLet : FnScope nLet ["_law_item_here"] (defScope sLet) := ⟨rfl, rfl, rfl, by decide +kernel, rfl, by decide +kernel, by decide +kernel⟩
section
variable {P : Program} {w : World} {K : PySem.W.Frag} {mg : Str → Option Value} {base : Heap} {C CR : Addr}
theorem ok_SR {f : Addr} {fd : FuncData} (F : Fun K "_law_is_short_round" "_law_is_short_round" sSR f fd) (N : TN mg)   : FnOk P w K mg base CX0 1 f fd ["_law_word"] (spSR) := by
  refine F.ok scSR (fun vs H Q E h => ?_) (fun cdv A outer s H vs Q E hr h => ?_)
  · obtain ⟨p, ns, rfl, _⟩ := h
    rfl
  · obtain ⟨p, ns, rfl, hp, hlen, hl, k⟩ := h
    refine ⟨_, pss_one (ps_ret (pe_cmpR (op_eqD hr.units) (pe_lc (own := [("_law_at", 1)]) (g := gName 1) rfl scSR.nd (pi_range1 (by rfl) N.range (pa_cons (pe_callB call_len_seq (by rfl) N.len PySem.boot_len (pa_cons (pv 0) pa_nil)) pa_nil)) (blkOk_by (N := nSR) (sc := defScope sSR) (by decide +kernel)) (fun _ _ _ _ _ => (pg_name (i := 1) scSR.nd rfl (Or.inl rfl))) (fun _ _ _ _ _ => (pts_one (pt_cmpR op_eq (pe_ix (ixl (K := K) rfl) (pv 0) (pv 1) (fun _ _ => rfl)) (pe_un un_neg (pe_ix (ixl (K := K) rfl) (pv 0) (pe_op op_sub (pv 1) pe_int) (fun _ _ => rfl))) (nomark _)))) (fun _ _ _ _ _ => (pv 1))) (pe_lst pa_nil) (nomark _))), ?_⟩
    refine rt_op_lc ?_
    refine ⟨_, rfl, p, _, rfl, .inl (SqL.of hp), _, rfl, by rw [List.length_map]; omega, by rw [List.length_map]; omega, ?_⟩
    rw [show ((iv ns).length : Int) = ((ns.length : Nat) : Int) by rw [List.length_map]]
    refine lcF (walk_range (lo := 0) (n := ((ns.length : Nat) : Int).toNat)) (fun i H x H' ⟨e, _⟩ => by rw [e]; exact Same.refl _) (badR ns) (fun _ _ v b => v = V.int ((b : Nat) : Int)) (fun _ _ _ _ _ h _ => h) (fun _ _ _ _ _ _ _ h => h) (by omega) (fun _ _ => trivial) ?_ ?_
    · rintro i x H2 H3 hi s2 ⟨rfl, rfl⟩ D hD _ Qy Qn ky kn
      have hi : i < ns.length := by omega
      have hp2 := s2 _ _ hp
      have hg : (iv ns)[i]? = some (V.int (ns.getD i 0)) := by
        rw [List.getElem?_map, List.getElem?_eq_getElem hi, List.getD_eq_getElem?_getD, List.getElem?_eq_getElem hi]
        rfl
      refine ⟨rfl, ?_⟩
      refine ⟨_, rfl, _, rfl, p, _, _, _, rfl, rfl, SqL.of hp2, (by rw [Int.zero_add]; exact atI_nat hg), _, rfl, _, rfl, _, _, rfl, rfl, p, _, _, _, rfl, rfl, SqL.of hp2, (by rw [Int.zero_add]; exact at_prev hi), _, rfl, rfl, _, rfl, ?_⟩
      by_cases he : ns.getD i 0 = -ns.getD ((i + ns.length - 1) % ns.length) 0
      · refine iteT' (decide_eq_true (congrArg V.int he)) ⟨_, rfl, ky i _ _ (by unfold badR; rw [if_pos he]) (Same.refl _) (congrArg V.int (Int.zero_add _))⟩
      · refine iteF' (decide_eq_false fun q => he (by injection q)) (kn (by unfold badR; rw [if_neg he]) _ (Same.refl _))
    intro D H1 ws hD s1 h1 r1
    have ews := all_nat r1
    rw [Int.toNat_natCast] at ews
    have hb := badR_nil hl
    generalize (List.range ns.length).filterMap (badR ns) = ms at ews hb
    subst ews
    refine ⟨Nat.zero_le _, fun q hq => ?_⟩
    have s2 := same_upd (o := .lst []) hq
    have h2 := s2 _ _ h1
    refine ⟨.list ((ms.map fun (n : Nat) => (n : Int)).map PyData.int), .list [], .lst (SqL.of h2) (dpInts _), .lst (SqL.of upd_same) .nil, PySem.W.ke_shaped_ints _, rfl, ?_⟩
    have kk := k _ (s1.trans s2)
    cases ms with
    | nil =>
      rw [decide_eq_true (hb.mp rfl)] at kk
      exact kk
    | cons m r =>
      rw [decide_eq_false (fun z => nomatch hb.mpr z)] at kk
      exact kk
theorem ok_Item {f : Addr} {fd : FuncData} (F : Fun K "_law_item" "_law_item" sItem f fd) (N : TN mg)   : FnOk P w K mg base CX0 1 f fd ["_law_letter_here"] (spItem) := by
  refine F.ok scItem (fun vs H Q E h => ?_) (fun cdv A outer s H vs Q E hr h => ?_)
  · obtain ⟨i, rfl, _⟩ := h
    rfl
  · obtain ⟨i, rfl, i1, i26, k⟩ := h
    refine ⟨_, pss_one (ps_ret (pe_op op_add_str (pe_ix ix_str pe_str (pe_op op_sub (pe_callB call_abs (by rfl) N.abs (by decide +kernel) (pa_cons (pv 0) pa_nil)) pe_int) (fun _ _ => rfl)) (pe_ifExp (pt_cmpR op_lt (pv 0) pe_int (nomark _)) pe_str pe_str))), ?_⟩
    have e2 : 97 + (i.natAbs - 1) = 96 + i.natAbs := by omega
    have hat : atI alphS.cps.toList ((if i < 0 then -i else i) - 1) = some (96 + i.natAbs) := by
      rw [show (if i < 0 then -i else i) - 1 = ((i.natAbs - 1 : Nat) : Int) by split <;> omega]
      exact atI_nat (by rw [alph_at _ (by omega), e2])
    refine ⟨_, rfl, _, rfl, _, _, rfl, rfl, alphS, _, 96 + i.natAbs, rfl, rfl, alph_len, hat, ?_⟩
    refine ⟨_, rfl, _, _, rfl, rfl, _, rfl, ?_⟩
    refine ite2 (fun hp => ?_) (fun hp => ?_)
    · have h0 : ¬ 0 < i := by have := of_decide_eq_true hp; omega
      refine ⟨_, _, rfl, rfl, (by show 2 ≤ sizeLine; decide), ?_⟩
      have : itm i = (⟨#[96 + i.natAbs]⟩ : Str) ++ Str.ofString "'" := by
        unfold itm
        rw [if_neg h0, tick_eq]
        rfl
      rw [this] at k
      exact k
    · have h0 : 0 < i := by
        have := of_decide_eq_false (Bool.eq_false_iff.mpr hp)
        omega
      refine ⟨_, _, rfl, rfl, (by show 1 ≤ sizeLine; decide), ?_⟩
      have : itm i = (⟨#[96 + i.natAbs]⟩ : Str) := by unfold itm; rw [if_pos h0]
      rw [str_add_nil]
      rw [this] at k
      exact k
theorem ok_Let {f : Addr} {fd : FuncData} (F : Fun K "_law_letter" "_law_letter" sLet f fd) (N : TN mg)   : FnOk P w K mg base CX0 1 f fd ["_law_item_here"] (spLet) := by
  refine F.ok scLet (fun vs H Q E h => ?_) (fun cdv A outer s H vs Q E hr h => ?_)
  · obtain ⟨z, rfl, _⟩ := h
    rfl
  · obtain ⟨z, rfl, hf, k⟩ := h
    refine ⟨_, pss_cons (ps_set (i := 1) scLet.nd rfl (Or.inl rfl) pe_str)
      (pss_cons (ps_if (PW.pt (pw_or (pt_cmpR op_eq (pe_slice sl_str (pv 0) po_none (po_some pe_int)) pe_str (nomark _)) (pw_or (pt_cmpR op_notIn_sign (pe_slice sl_str (pv 0) po_none (po_some pe_int)) (pv 1) (by rfl)) (pw_or1 (pt_cmpR op_notIn_seq (pe_slice sl_str (pv 0) (po_some pe_int) po_none) (pe_tupB (pa_cons pe_str (pa_cons pe_str pa_nil))) (by rfl)))))) (pss_one (ps_ret pe_int)) pss_nil)
      (pss_one (ps_ret (pe_op op_mul (pe_op op_add (pe_bmS PySem.F.plainAttrs_str PySem.F.slot_str_index PySem.F.type_str_index (mt_indexX rfl LamX.takes0) (pv 1) (pa_cons (pe_slice sl_str (pv 0) po_none (po_some pe_int)) pa_nil)) pe_int) (pe_ifExp (pt_cmpR op_eq (pe_callB call_len_str (by rfl) N.len PySem.boot_len (pa_cons (pv 0) pa_nil)) pe_int (nomark _)) pe_int (pe_un un_neg pe_int)))))), ?_⟩
    have hsz : z.length ≤ sizeLine := Nat.le_trans hf.2 (by decide)
    have ez := eta z
    have hc := hf.1
    have kl : ∀ H', Same H H' → Q (.int ((lofL z.cps.toList).getD 0)) H' := k
    have hln : z.length = z.cps.toList.length := by simp [Str.length]
    generalize z.cps.toList = l at ez kl hln hc
    subst ez
    refine ⟨_, rfl, _, rfl, _, rfl, hsz, rfl, _, rfl, ?_⟩
    rw [cut1]
    match l, hc, kl, hln with
    | [], hc, kl, hln => exact iteT' (decide_eq_true rfl) (iteT (kl H (Same.refl _)))
    | c :: r, hc, kl, hln =>
      have hc1 := hc c List.mem_cons_self
      refine iteF' (str_ne (m := []) (by simp)) ?_
      refine ⟨_, rfl, _, rfl, _, rfl, hsz, _, rfl, c, alphS, congrArg V.str (cut1 (c :: r)), rfl, _, rfl, ?_⟩
      rw [alph_mem]
      by_cases hin : 97 ≤ c ∧ c ≤ 122
      · refine iteF' (by rw [decide_eq_true hin]; rfl) ?_
        refine ⟨_, rfl, _, rfl, _, rfl, hsz, by show 2 ≤ sizeLine; decide, fun t H1 s1 B1 => ⟨t, _, rfl, .inr B1.sq, rfl, rfl, _, rfl, ?_⟩⟩
        rw [cutF]
        show (fun b H1 => if b = true then _ else _) (if true = true then !inV (V.str ⟨r.toArray⟩) [V.str (Str.ofString ""), V.str (Str.ofString "'")] else _) H1
        rw [in_ends]
        by_cases hr2 : r = [] ∨ r = [39]
        · refine iteF' (by rw [decide_eq_true hr2]; rfl) ?_
          refine ⟨_, rfl, rfl, _, rfl, _, rfl, _, rfl, hsz, alphS, ⟨#[c]⟩, rfl, congrArg (fun s => [V.str s]) (cut1 (c :: r)), fun k0 hk0 => ?_, fun hk0 => ?_⟩
          · rw [ix_all c hc1, if_pos hin] at hk0
            obtain rfl := Option.some.inj hk0
            refine ⟨_, _, rfl, rfl, _, rfl, _, rfl, hsz, rfl, _, rfl, ?_⟩
            rcases hr2 with rfl | rfl
            · refine iteT' (decide_eq_true (by rw [hln]; rfl)) ?_
              refine ⟨_, _, rfl, rfl, .inl ⟨by omega, by omega⟩, ?_⟩
              have := kl H1 s1
              rw [lofL1, if_pos hin] at this
              show Q (.int ((((c - 97 : Nat) : Int) + 1) * 1)) H1
              rw [show (((c - 97 : Nat) : Int) + 1) * 1 = (c : Int) - 96 by omega]
              exact this
            · refine iteF' (decide_eq_false fun q => by injection q with q; rw [hln] at q; simp at q) ?_
              refine ⟨_, rfl, _, _, rfl, rfl, .inl ⟨by omega, by omega⟩, ?_⟩
              have := kl H1 s1
              rw [lofL2, if_pos ⟨rfl, hin⟩] at this
              show Q (.int ((((c - 97 : Nat) : Int) + 1) * (-1))) H1
              rw [show (((c - 97 : Nat) : Int) + 1) * (-1) = -((c : Int) - 96) by omega]
              exact this
          · rw [ix_all c hc1, if_pos hin] at hk0
            cases hk0
        · refine iteT' (by rw [decide_eq_false hr2]; rfl) ?_
          have e : lofL (c :: r) = none := by
            match r, hr2 with
            | [], q => exact absurd (.inl rfl) q
            | [d], q => rw [lofL2, if_neg fun z => q (.inr (by rw [z.1]))]
            | d :: e :: r, _ => rfl
          have := kl H1 s1
          rw [e] at this
          exact this
      · refine iteT' (by rw [decide_eq_false hin]; rfl) (iteT ?_)
        have e : lofL (c :: r) = none := by
          match r with
          | [] => rw [lofL1, if_neg hin]
          | [d] => rw [lofL2, if_neg fun q => hin q.2]
          | d :: e :: r => rfl
        have := kl H (Same.refl _)
        rw [e] at this
        exact this
end
end W11
set_option Elab.async false
set_option linter.all false
set_option maxRecDepth 100000
set_option maxHeartbeats 1000000
namespace W11
open PySem L2 PySem.Spec PyProof.Rows WR WB WE WS
/-! ### the law's texts, and where they stop -/
theorem pe_joinK {X : Cx} {K : PySem.W.Frag} {o e : Expr} {to te : TE} (hK : X.K = K) {apos pos : Pos} (ho : PE X o to) (he : PE X e te) (hs : starEach [e] X.env = [(false, eval e X.env)] := by rfl) (hbase : attributeBase o "join" X.env (eval o X.env) = eval o X.env := by rfl) (hline : (apos.endLine == pos.line) = true := by rfl) :
    PE X (.Call (.Attribute o "join" apos) [e] [] pos) (tM1 (fun x xs H Q => ∃ a p, ∃ ys : List Str, x = .str a ∧ xs = [.ref p] ∧ (SqL K H p (ys.map V.str) ∨ SqT K H p (ys.map V.str)) ∧
      (ys.map (·.length)).sum + ys.length * a.length ≤ 16777216 ∧ Q (.str (Txt.join a ys)) H) to te) := by
  subst hK
  exact pe_join ho he hs hbase hline
def spText : Sp := fun vs H Q _ => ∃ (p : Addr) (us : List V) (ws : List (List Int)), vs = [.ref p] ∧ H p = some (.lst us) ∧ LLs H us ws ∧ RimOk ws ∧ ∀ H', Same H H' → Q (.str (txtR ws)) H'
theorem itms_len : ∀ u : List Int, ((u.map itm).map (·.length)).sum ≤ 2 * u.length
  | [] => Nat.zero_le _
  | a :: r => by
    have ih := itms_len r
    have h : (itm a).length ≤ 2 := itm_len _
    simp only [List.map_cons, List.sum_cons, List.length_cons]
    omega
theorem all_itm {vs : List V} {u : List Int} (h : All2 (fun v b => v = V.str (itm b)) vs u) : vs = (u.map itm).map V.str := by
  induction h with
  | nil => rfl
  | cons e _ ih => rw [e, ih]; rfl
/-- the scope of the comprehension in return c.join([..]) -/
def rtScope : Scope → Stmt → Scope
  | _, .Return (some (.Call _ [.ListComp _ _ sc _] _ _)) _ => sc
  | s, _ => s
theorem nx_rt_if_lk {r : R2} {wi : TI} {g : TG} {tt : TT} {te ta tb : TE} {vs : List Nat} {D : Ends} {σ : L2.St} {H : Hp} {rt : VK} {b1 b2 : L2.St → Hp → Prop}
    (h : ∃ d u, H d = some u ∧ Mut (some u) ∧ ∀ od, wi σ (L2.upd H d (.frz od u)) fun J H1 => tLc (fun _ H R => R J H) g tt te vs σ H1 fun y H2 => H2 d = some (.frz od u) ∧ (tLst tNil σ (L2.upd H2 d u) fun z H3 => r y z H3 fun v H4 => ∃ c, v = .bl c ∧ if c = true then ta σ H4 D.rt else tb σ H4 D.rt)) :
    tNext { nx := tRet (tIf (tTest (tOp r (tLockE (tLc wi g tt te vs)) (tLst tNil))) ta tb) D, rt := rt, bk := b1, ct := b2 } σ H := h
/-- what the dict of balances holds -/
def MoreOk (kvs : List (Key × V)) (ns : List Int) : Prop := kvs.length ≤ ns.length ∧ (∀ kv ∈ kvs, ∃ k : Int, kv.1 = .inl k) ∧ ∀ k : Int, valV kvs (.inl k) = if k ∈ ns.map (fun x => (x.natAbs : Int)) then some (.int (Fr.cnt ns k)) else none
theorem more_nil : MoreOk [] [] := ⟨Nat.le_refl _, (fun _ h => nomatch h), fun k => by rw [if_neg (by simp)]; rfl⟩
theorem more_key {kvs : List (Key × V)} {ns : List Int} (h : MoreOk kvs ns) {i : Nat} (hi : i < kvs.length) : ∃ k : Int, kvs[i].1 = .inl k ∧ k ∈ ns.map (fun x => (x.natAbs : Int)) ∧ valV kvs (.inl k) = some (.int (Fr.cnt ns k)) := by
  obtain ⟨k, e⟩ := h.2.1 _ (List.getElem_mem hi)
  have a : (kvs.any fun kv => decide (kv.1 = (.inl k : Key))) = true := List.any_eq_true.mpr ⟨_, List.getElem_mem hi, decide_eq_true e⟩
  rw [valV_any] at a
  have v := h.2.2 k
  by_cases m : k ∈ ns.map (fun x => (x.natAbs : Int))
  · rw [if_pos m] at v
    exact ⟨k, e, m, v⟩
  · rw [if_neg m] at v
    rw [v] at a
    cases a
theorem more_put {kvs : List (Key × V)} {ns : List Int} (h : MoreOk kvs ns) {v : Int} (hv : 1 ≤ v.natAbs) {w : Int} (hw : ((valV kvs (.inl (v.natAbs : Int))).getD (.int 0)) = .int w) : MoreOk (putK kvs (.inl (v.natAbs : Int)) (.int (w + (if 0 < v then 1 else -1)))) (ns ++ [v]) := by
  obtain ⟨h1, h2, h3⟩ := h
  refine ⟨?_, fun kv hkv => ?_, fun k => ?_⟩
  · unfold putK
    rw [List.length_append]
    split
    · rw [List.length_map]
      exact Nat.le_trans h1 (Nat.le_add_right _ _)
    · rw [List.length_append]
      exact Nat.add_le_add_right h1 1
  · unfold putK at hkv
    split at hkv
    · obtain ⟨kv0, hk0, rfl⟩ := List.mem_map.mp hkv
      obtain ⟨k, e⟩ := h2 _ hk0
      refine ⟨k, ?_⟩
      split
      · exact e
      · exact e
    · rcases List.mem_append.mp hkv with hk | hk
      · exact h2 _ hk
      · rw [List.mem_singleton.mp hk]
        exact ⟨_, rfl⟩
  · rw [valV_put, List.map_append, Fr.cnt_app, Fr.cnt_one]
    have hvv := h3 (v.natAbs : Int)
    by_cases ek : k = (v.natAbs : Int)
    · subst ek
      rw [if_pos rfl, if_pos (List.mem_append_right _ (by simp))]
      have ew : w = Fr.cnt ns (v.natAbs : Int) := by
        rw [hvv] at hw
        split at hw
        · injection hw with hw
          exact hw.symm
        · rename_i hn
          have z := cnt_zero (ns := ns) (k := (v.natAbs : Int)) (fun ⟨x, hx, e⟩ => hn (List.mem_map.mpr ⟨x, hx, e.symm⟩)) (by omega)
          rw [z]
          injection hw with hw
          exact hw.symm
      rw [ew]
      congr 2
      by_cases p : 0 < v
      · rw [if_pos p, if_pos (by omega), if_neg (by omega)]
        omega
      · rw [if_neg p, if_neg (by omega), if_pos (by omega)]
        omega
    · have ek2 : ¬ (Sum.inl k : Key) = Sum.inl (v.natAbs : Int) := fun e => ek (by injection e)
      rw [if_neg ek2, h3 k]
      by_cases m : k ∈ ns.map (fun x => (x.natAbs : Int))
      · rw [if_pos m, if_pos (List.mem_append_left _ m)]
        obtain ⟨x, _, e⟩ := List.mem_map.mp m
        have e : (x.natAbs : Int) = k := e
        rw [if_neg (by omega), if_neg (by omega)]
        simp
      · rw [if_neg m, if_neg]
        intro q
        rcases List.mem_append.mp q with q | q
        · exact m q
        · simp at q
          omega
def outM (kvs : List (Key × V)) (ns : List Int) (i : Nat) : Option Int := match kvs[i]? with
  | some (.inl k, _) => if Fr.cnt ns k ≠ 0 then some k else none
  | _ => none
theorem out_at {kvs : List (Key × V)} {ns : List Int} {i : Nat} (hi : i < kvs.length) {k : Int} (e : kvs[i].1 = .inl k) : outM kvs ns i = if Fr.cnt ns k ≠ 0 then some k else none := by
  unfold outM
  rw [List.getElem?_eq_getElem hi]
  generalize kvs[i] = kv at e ⊢
  obtain ⟨a, b⟩ := kv
  have e : a = .inl k := e
  subst e
  rfl
theorem more_bal {kvs : List (Key × V)} {ns : List Int} (h : MoreOk kvs ns) (hl : Lts ns) : (List.range kvs.length).filterMap (outM kvs ns) = [] ↔ Fr.bal ns = [] := by
  have hb : Fr.bal ns = [] ↔ ∀ k : Nat, k < 26 → Fr.cnt ns ((k : Int) + 1) = 0 := by
    unfold Fr.bal
    rw [List.filter_eq_nil_iff]
    constructor
    · intro q k hk
      have := q _ (List.mem_map_of_mem (List.mem_range.mpr hk))
      simpa using this
    · intro q p hp
      obtain ⟨k, hk, rfl⟩ := List.mem_map.mp hp
      have := q k (List.mem_range.mp hk)
      simpa using this
  rw [hb, List.filterMap_eq_nil_iff]
  constructor
  · intro q k hk
    by_cases m : ((k : Int) + 1) ∈ ns.map (fun x => (x.natAbs : Int))
    · have v := h.2.2 ((k : Int) + 1)
      rw [if_pos m] at v
      have a : (valV kvs (.inl ((k : Int) + 1))).isSome = true := by rw [v]; rfl
      rw [← valV_any] at a
      obtain ⟨kv, hkv, e⟩ := List.any_eq_true.mp a
      obtain ⟨i, hi, rfl⟩ := List.getElem_of_mem hkv
      have := q i (List.mem_range.mpr hi)
      rw [out_at hi (of_decide_eq_true e)] at this
      refine Decidable.byContradiction fun z => ?_
      rw [if_pos z] at this
      cases this
    · exact cnt_zero (fun ⟨x, hx, e⟩ => m (List.mem_map.mpr ⟨x, hx, e.symm⟩)) (by omega)
  · intro q i hi
    have hi := List.mem_range.mp hi
    obtain ⟨k, e, m, _⟩ := more_key h hi
    obtain ⟨x, hx, ex⟩ := List.mem_map.mp m
    have hx2 := hl x hx
    have ex : (x.natAbs : Int) = k := ex
    rw [out_at hi e, if_neg]
    intro z
    refine z ?_
    have := q (x.natAbs - 1) (by omega)
    rw [show ((x.natAbs - 1 : Nat) : Int) + 1 = k by omega] at this
    exact this
theorem law_none {z : Str} : lawL z = 0 ↔ lof z = none := by
  unfold lawL
  cases e : lof z with
  | none => simp
  | some v =>
    have := (itm_lof e).2.1
    simp
    omega
theorem all_intz {vs : List V} {u : List Int} (h : All2 (fun v b => v = V.int b) vs u) : vs = iv u := by
  induction h with
  | nil => rfl
  | cons e _ ih => rw [e, ih]; rfl
def spStop (K : PySem.W.Frag) : Sp := fun vs H Q _ => ∃ (a : Addr) (zs : List Str), vs = [.ref a] ∧ SqL K H a (zs.map V.str) ∧ zs ≠ [] ∧ (∀ z ∈ zs, Fit z) ∧ zs.length ≤ 4001 ∧ ∀ H', Same H H' → Q ((rimsPl zs).elim .non fun i => .int (i : Int)) H'
abbrev sText : Stmt := top 53
abbrev nText : List Str := ["_law_words", "_law_word", "_law_letter_here"]
theorem scText : FnScope nText ["_law_words"] (defScope sText) := ⟨rfl, rfl, rfl, by decide +kernel, rfl, by decide +kernel, by decide +kernel⟩
abbrev outT : Scope := relS (rtScope (defScope sText) ((defBody sText).getD 0 (.Pass ⟨0, 0, 0, 0⟩))) (defScope sText)
abbrev sStop : Stmt := top 55
abbrev nStop : List Str := ["_law_items", "_law_many", "_law_words", "_law_more", "_law_was", "_law_at", "_law_item_here", "_law_letter_here", "_law_kind"]
theorem scStop : FnScope nStop ["_law_items"] (defScope sStop) := ⟨rfl, rfl, rfl, by decide +kernel, rfl, by decide +kernel, by decide +kernel⟩
section
variable {P : Program} {w : World} {K : PySem.W.Frag} {mg : Str → Option Value} {base : Heap} {C CR : Addr}
theorem ok_Text {f : Addr} {fd : FuncData} (F : Fun K "_law_text" "_law_text" sText f fd) (N : TN mg)  (G_item : Cal P w K mg base "_law_item" 1 ["_law_letter_here"] (spItem)) : FnOk P w K mg base CX0 2 f fd ["_law_words"] (spText) := by
  refine F.ok scText (fun vs H Q E h => ?_) (fun cdv A outer s H vs Q E hr h => ?_)
  · obtain ⟨p, us, ws, rfl, _⟩ := h
    rfl
  · obtain ⟨p, us, ws, rfl, hp, hu, ⟨l1, l4, hne, l24, hl, hb⟩, k⟩ := h
    refine ⟨_, pss_one (ps_ret (pe_join pe_str (pe_lc (own := [("_law_word", 1)]) (g := gName 1) (tt := tYes) rfl scText.nd (pi_list (pv 0)) (blkOk_by (N := nText) (sc := defScope sText) (by decide +kernel)) (fun _ _ _ _ _ => pg_name (i := 1) scText.nd rfl (Or.inl rfl)) (fun _ _ _ _ _ => pts_nil) (fun _ _ _ _ _ => pe_joinK (K := K) rfl pe_str (pe_lc (own := [("_law_letter_here", 2)]) (g := gName 2) (tt := tYes) rfl scText.nd (pi_listK (K := K) rfl (pv 1)) (blkOk_by (N := nText) (sc := outT) (by decide +kernel)) (fun _ _ _ _ _ => pg_name (i := 2) scText.nd rfl (Or.inl rfl)) (fun _ _ _ _ _ => pts_nil) (fun _ _ _ _ _ => pe_cal G_item hr (by decide) (by rfl) (pa_cons (pv 2) pa_nil))))))), ?_⟩
    have lu := hu.length
    refine ⟨⟨_, rfl⟩, lc_in ?_⟩
    refine ⟨_, rfl, p, rfl, ⟨_, SqL.of hp⟩, ?_⟩
    refine lcM (walk_list (K := K) (a := p) (xs := us)) ws (fun _ _ v u => v = V.str (txt u)) (fun _ _ _ _ _ h _ => h) (fun _ _ _ _ _ _ _ h => h) (by omega) lu (fun H s => SqL.of (s _ _ hp)) ?_ (fun x σ1 H A B k h => gName_mono k h) ?_
    · intro i x u hx hu2 D2 H2 hD2 _ s2 Qy ky
      obtain ⟨u', hu', q, rfl, hq⟩ := hu.at hx
      obtain rfl : u' = u := Option.some.inj (hu'.symm.trans hu2)
      have mem : u' ∈ ws := List.mem_of_getElem? hu2
      have hl24 := word_le mem
      have hq2 := s2 _ _ hq
      refine ⟨rfl, ⟨_, rfl⟩, lc_in ?_⟩
      refine ⟨_, rfl, q, rfl, ⟨_, SqL.of hq2⟩, ?_⟩
      refine lcM (walk_list (K := K) (a := q) (xs := iv u')) u' (fun _ _ v b => v = V.str (itm b)) (fun _ _ _ _ _ h _ => h) (fun _ _ _ _ _ _ _ h => h) (by rw [List.length_map]; omega) (by rw [List.length_map]) (fun H s => SqL.of (s _ _ hq2)) ?_ (fun x σ1 H A B k h => gName_mono k h) ?_
      · intro j x c hx hc D3 H3 hD3 _ s3 Qz kz
        rw [List.getElem?_map, hc] at hx
        obtain rfl := Option.some.inj hx
        obtain ⟨c1, c2⟩ := hl.word mem c (List.mem_of_getElem? hc)
        exact ⟨rfl, _, rfl, c, rfl, c1, c2, kz _ _ (Same.refl _) rfl⟩
      intro D3 H3 vs hD3 s3 h3 hvs
      rw [all_itm hvs] at h3
      refine ⟨_, D3, u'.map itm, rfl, rfl, .inl (SqL.of h3), ?_, ?_⟩
      · have h1 := itms_len u'
        rw [List.length_map]
        show _ + u'.length * 1 ≤ _
        omega
      · have e : Txt.join (Str.ofString " ") (u'.map itm) = txt u' := by
          unfold txt
          rw [if_neg (hne u' mem), space_eq]
        rw [e]
        exact ky _ H3 s3 rfl
    intro D H3 vs hD s3 h3 hvs
    rw [all_str hvs] at h3
    refine ⟨_, D, ws.map txt, rfl, rfl, .inl (SqL.of h3), ?_, k H3 s3⟩
    have h1 := txts_len ws
    rw [List.length_map]
    show _ + ws.length * 3 ≤ _
    omega
theorem ok_Stop {f : Addr} {fd : FuncData} (F : Fun K "_law_stop" "_law_stop" sStop f fd) (N : TN mg)  (G_letter : Cal P w K mg base "_law_letter" 1 ["_law_item_here"] (spLet)) : FnOk P w K mg base CX0 2 f fd ["_law_items"] ((spStop K)) := by
  refine F.ok scStop (fun vs H Q E h => ?_) (fun cdv A outer s H vs Q E hr h => ?_)
  · obtain ⟨a, zs, rfl, _⟩ := h
    rfl
  · obtain ⟨a, zs, rfl, hS, hne, hfit, hlz, k⟩ := h
    refine ⟨_, pss_cons (ps_asg (pe_tup (pa_cons pe_int (pa_cons pe_int (pa_cons pe_dnewK (pa_cons pe_str pa_nil))))) (pg_tup (n := 4) rfl (pgs_cons (pg_name (i := 1) scStop.nd rfl (Or.inl rfl)) (pgs_cons (pg_name (i := 2) scStop.nd rfl (Or.inl rfl)) (pgs_cons (pg_name (i := 3) scStop.nd rfl (Or.inr rfl)) (pgs_cons (pg_name (i := 4) scStop.nd rfl (Or.inl rfl)) pgs_nil))))))
      (pss_cons (ps_for PassesOwn.never rfl (pi_enum (by rfl) N.enumerate (pa_cons (pv 0) pa_nil)) (pg_tup (n := 2) rfl (pgs_cons (pg_name (i := 5) scStop.nd rfl (Or.inl rfl)) (pgs_cons (pg_name (i := 6) scStop.nd rfl (Or.inl rfl)) pgs_nil)))
      (pss_cons (ps_set (i := 7) scStop.nd rfl (Or.inl rfl) (pe_cal G_letter hr (by decide) (by rfl) (pa_cons (pv 6) pa_nil)))
      (pss_cons (ps_if (PW.pt (pw_or (pt_cmpR op_eq (pv 1) pe_int (nomark _)) (pw_or1 (PW.pt (pw_and (pt_cmpR op_eq (pv 7) pe_int (nomark _)) (pw_and1 (PW.pt (pw_or (pt_cmpR op_ne (pv 6) pe_str (nomark _)) (pw_or (pt_cmpR op_eq (pv 4) pe_str (nomark _)) (pw_or1 (pt_cmpR op_eq (pv 2) pe_int (nomark _)))))))))))) (pss_one (ps_ret (pv 5))) pss_nil)
      (pss_cons (ps_if (pt_cmpR op_eq (pv 7) pe_int (nomark _)) (pss_one (ps_set (i := 2) scStop.nd rfl (Or.inl rfl) (pe_op op_add (pv 2) pe_int))) (pss_cons (ps_set (i := 1) scStop.nd rfl (Or.inl rfl) (pe_op op_add (pv 1) pe_int))
      (pss_one (ps_dput (hu_of hr) (pv 3) (pe_callB call_abs (by rfl) N.abs (by decide +kernel) (pa_cons (pv 7) pa_nil)) (pe_op op_add (pe_dget2 (hu_of hr) (pv 3) (pe_callB call_abs (by rfl) N.abs (by decide +kernel) (pa_cons (pv 7) pa_nil)) pe_int ⟨rfl, rfl, rfl, rfl⟩) (pe_ifExp (pt_cmpR op_gt (pv 7) pe_int (nomark _)) pe_int (pe_un un_neg pe_int))) rfl))))
      (pss_one (ps_set (i := 4) scStop.nd rfl (Or.inl rfl) (pv 6)))))))
      (pss_cons (ps_if (pt_cmpR op_eq (pv 4) pe_str (nomark _)) (pss_one (ps_ret (pe_callB call_len_seq (by rfl) N.len PySem.boot_len (pa_cons (pv 0) pa_nil)))) pss_nil)
      (pss_one (ps_ret (pe_ifExp (pt_cmpR (op_eqD hr.units) (pe_lock (pe_lc (own := [("_law_kind", 8)]) (g := gName 8) rfl scStop.nd (pi_keys (pv 3)) (blkOk_by (N := nStop) (sc := defScope sStop) (by decide +kernel)) (fun _ _ _ _ _ => pg_name (i := 8) scStop.nd rfl (Or.inl rfl)) (fun _ _ _ _ _ => pts_one (pt_cmpR op_ne (pe_dget (hu_of hr) (pv 3) (pv 8) (fun _ _ => rfl)) pe_int (nomark _))) (fun _ _ _ _ _ => pv 8))) (pe_lst pa_nil) (nomark _)) pe_non (pe_op op_sub (pe_callB call_len_seq (by rfl) N.len PySem.boot_len (pa_cons (pv 0) pa_nil)) pe_int)))))), ?_⟩
    intro d hd
    refine ⟨by show 4 ≤ sizeLine; decide, fun t ht => ⟨t, _, rfl, SqT.of upd_same, rfl, _, _, rfl, _, _, rfl, _, _, rfl, _, _, rfl, rfl, ?_⟩⟩
    have s1 := same_upd (o := .dK []) hd
    have s2 := s1.trans (same_upd (o := .tup [.int 0, .int 1, .ref d, .str "/"]) ht)
    have hL2 : L2.upd (L2.upd H d (.dK [])) t (.tup [.int 0, .int 1, .ref d, .str "/"]) d = some (.dK []) := by
      rw [upd_ne (fun e => by rw [← e, upd_same] at ht; cases ht), upd_same]
    refine ⟨_, rfl, a, _, rfl, s2.seq hS, ?_⟩
    refine for_it (walk_enum (K := K) (a := a) (xs := zs.map V.str)) (fun i σ H' => ∃ (v5 v6 v7 : Option V) (rs : List (List Int)) (cur : List Int) (was : Str) (kvs : List (Key × V)), σ = [some (.ref a), some (.int ((rs.flatten.length + cur.length : Nat) : Int)), some (.int ((rs.length : Nat) + 1)), some (.ref d), some (.str was), v5, v6, v7, none] ∧ Same H H' ∧ H' d = some (.dK kvs) ∧ MoreOk kvs (rs.flatten ++ cur) ∧ (was = slashS ↔ cur = []) ∧ RgI rs cur ∧ rgo 0 [] [] zs = rgo i rs cur (zs.drop i))
      ⟨none, none, none, [], [], slashS, [], by rw [slash_eq]; rfl, s2, hL2, more_nil, by simp, rgI0, by rw [List.drop_zero]⟩ (fun i σ H' _ ⟨_, _, _, _, _, _, _, _, s, _⟩ => s.seq hS) ?_ ?_
    · rintro i x σ H3 H4 hi ⟨v5, v6, v7, rs, cur, was, kvs, rfl, sm, hLL, hM, hw, hG, hgo⟩ ⟨T0, xi, yi, rfl, hT0, rfl, hx, hy⟩
      have hin : i < zs.length := by rw [List.length_map] at hi; exact hi
      obtain rfl := Option.some.inj hx
      have ey : yi = V.str zs[i] := by
        have hy : (zs.map V.str)[i]? = some yi := hy
        rw [List.getElem?_map, List.getElem?_eq_getElem hin] at hy
        exact (Option.some.inj hy).symm
      subst ey
      have hzf := hfit zs[i] (List.getElem_mem hin)
      rw [List.drop_eq_getElem_cons hin] at hgo
      have sT := same_upd (o := .tup [.int (i : Int), V.str zs[i]]) hT0
      refine ⟨T0, _, rfl, SqT.of upd_same, rfl, _, _, rfl, _, _, rfl, rfl, ?_⟩
      generalize zs[i] = z at hzf hgo sT ⊢
      refine ⟨_, rfl, z, rfl, hzf, fun H5 s5 => ?_⟩
      have s05 := (sm.trans sT).trans s5
      have hL5 := s5 _ _ (sT _ _ hLL)
      have hret : rgo 0 [] [] zs = .inl i → Q (.int (i : Int)) H5 := fun e => by
        have := k H5 s05
        rw [rimsPl_l e] at this
        exact this
      refine ⟨_, rfl, rfl, _, rfl, ?_⟩
      by_cases hf : rs.flatten.length + cur.length = 24
      · refine iteT' (decide_eq_true (by rw [hf]; rfl)) ?_
        exact iteT ⟨_, rfl, hret (hgo.trans (rgo_full hf))⟩
      refine iteF' (decide_eq_false fun q => hf (by injection q with q; omega)) ?_
      refine ⟨_, rfl, rfl, _, rfl, ?_⟩
      cases e : lof z with
      | some v =>
        obtain ⟨e1, e2⟩ := itm_lof e
        have ev : lawL z = v := by
          unfold lawL
          rw [e]
          rfl
        rw [ev]
        have v0 : ¬ (V.int v = V.int 0) := fun q => by injection q with q; omega
        refine iteF' (decide_eq_false v0) ?_
        refine iteF ?_
        refine ⟨_, rfl, rfl, _, rfl, iteF' (decide_eq_false v0) ?_⟩
        refine ⟨_, rfl, _, _, rfl, rfl, ?_⟩
        have ea : (if v < 0 then -v else v) = (v.natAbs : Int) := by split <;> omega
        obtain ⟨w, hwv⟩ : ∃ w, ((valV kvs (.inl (v.natAbs : Int))).getD (.int 0)) = .int w := by
          rw [hM.2.2]
          split
          · exact ⟨_, rfl⟩
          · exact ⟨_, rfl⟩
        have hl24 := hG.2.2.1
        have hMl := hM.1
        rw [List.length_append] at hMl
        have e9 : ((rs.flatten.length + cur.length : Nat) : Int) + 1 = ((rs.flatten.length + (cur ++ [v]).length : Nat) : Int) := by
          rw [List.length_append]
          show _ = ((_ + (_ + 1) : Nat) : Int)
          omega
        have fin : ∀ s : Int, s = (if 0 < v then 1 else -1) → ∃ (v5 v6 v7 : Option V) (rs' : List (List Int)) (cur' : List Int) (was' : Str) (kvs' : List (Key × V)), ([some (.ref a), some (.int (((rs.flatten.length + cur.length : Nat) : Int) + 1)), some (.int ((rs.length : Nat) + 1)), some (.ref d), some (.str z), some (.int (i : Int)), some (.str z), some (.int v), none] : L2.St) = [some (.ref a), some (.int ((rs'.flatten.length + cur'.length : Nat) : Int)), some (.int ((rs'.length : Nat) + 1)), some (.ref d), some (.str was'), v5, v6, v7, none] ∧ Same H (L2.upd H5 d (.dK (putK kvs (.inl (v.natAbs : Int)) (.int (w + s))))) ∧ (L2.upd H5 d (.dK (putK kvs (.inl (v.natAbs : Int)) (.int (w + s))))) d = some (.dK kvs') ∧ MoreOk kvs' (rs'.flatten ++ cur') ∧ (was' = slashS ↔ cur' = []) ∧ RgI rs' cur' ∧ rgo 0 [] [] zs = rgo (i + 1) rs' cur' (zs.drop (i + 1)) := by
          intro s hs
          refine ⟨some (.int (i : Int)), some (.str z), some (.int v), rs, cur ++ [v], z, _, by rw [← e9], fun b o q => by rw [upd_ne (ne_of_none q hd)]; exact s05 b o q, upd_same, ?_, ⟨(fun q => by rw [q] at e; cases e), (fun q => by simp at q)⟩, ⟨hG.1, hG.2.1, ?_, hG.2.2.2.1, hG.2.2.2.2.snoc e2⟩, hgo.trans (rgo_some hf e)⟩
          · rw [← List.append_assoc, hs]
            exact more_put hM e2.1 hwv
          · rw [List.length_append]
            show _ + (_ + 1) ≤ 24
            omega
        have kvz : kvs.length < sizeLine := Nat.lt_of_lt_of_le (show kvs.length < 100 by omega) (by decide)
        refine ⟨_, rfl, d, rfl, .inl ⟨_, .inl hL5⟩, _, rfl, _, rfl, valV kvs (.inl (v.natAbs : Int)), by rw [ea]; exact DGet.k (k := .inl (v.natAbs : Int)) hL5, ?_⟩
        refine ⟨_, rfl, _, _, rfl, rfl, _, rfl, ?_⟩
        by_cases hp : 0 < v
        · refine iteT' (decide_eq_true hp) ?_
          refine ⟨w, 1, hwv, rfl, _, rfl, _, rfl, _, rfl, d, L2.upd H5 d (.dK (putK kvs (.inl (v.natAbs : Int)) (.int (w + 1)))), rfl, by rw [ea]; exact DPut.k (k := .inl (v.natAbs : Int)) hL5 kvz, _, rfl, fin 1 (by rw [if_pos hp])⟩
        · refine iteF' (decide_eq_false hp) ?_
          refine ⟨_, rfl, w, -1, hwv, rfl, _, rfl, _, rfl, _, rfl, d, L2.upd H5 d (.dK (putK kvs (.inl (v.natAbs : Int)) (.int (w + -1)))), rfl, by rw [ea]; exact DPut.k (k := .inl (v.natAbs : Int)) hL5 kvz, _, rfl, fin (-1) (by rw [if_neg hp])⟩
      | none =>
        have ev := law_none.mpr e
        rw [ev]
        refine iteT' (decide_eq_true rfl) ?_
        have hI := hG.1
        refine ⟨_, rfl, rfl, _, rfl, ?_⟩
        rw [slash_eq]
        by_cases h1 : z = slashS
        · subst h1
          refine iteF' (by simp) ?_
          refine ⟨_, rfl, rfl, _, rfl, ?_⟩
          by_cases h2 : cur = []
          · refine iteT' (decide_eq_true (by rw [hw.mpr h2])) ?_
            exact iteT ⟨_, rfl, hret (hgo.trans (rgo_bad hf e fun q => q.2.1 h2))⟩
          refine iteF' (decide_eq_false fun q => h2 (hw.mp (by injection q))) ?_
          refine ⟨_, rfl, rfl, _, rfl, ?_⟩
          by_cases h3 : rs.length < 3
          · refine iteF' (decide_eq_false fun q => ?_) ?_
            · have q2 : ((rs.length : Nat) : Int) + 1 = 4 := by injection q
              omega
            refine ⟨_, rfl, rfl, _, rfl, iteT' rfl ?_⟩
            refine ⟨_, rfl, _, _, rfl, rfl, ?_⟩
            refine ⟨_, rfl, some (.int (i : Int)), some (.str slashS), some (.int 0), rs ++ [cur], [], slashS, kvs, ?_, s05, hL5, ?_, by simp, ⟨by rw [List.length_append]; show _ + 1 ≤ 3; omega, fun w hw => ?_, ?_, ?_, fun x hx => (nomatch hx)⟩, hgo.trans (rgo_cut hf e ⟨rfl, h2, h3⟩)⟩
            · rw [List.length_append, flat_snoc, List.length_append]
              rfl
            · rw [flat_snoc, List.append_nil]
              exact hM
            · rcases List.mem_append.mp hw with hw | hw
              · exact hG.2.1 w hw
              · rw [List.mem_singleton.mp hw]
                exact h2
            · have := hG.2.2.1
              rw [flat_snoc, List.length_append]
              show _ + 0 ≤ 24
              omega
            · intro x hx
              rw [flat_snoc] at hx
              rcases List.mem_append.mp hx with hx | hx
              · exact hG.2.2.2.1 x hx
              · exact hG.2.2.2.2 x hx
          · refine iteT' (decide_eq_true (by
              have : rs.length = 3 := by omega
              rw [this]
              rfl)) ?_
            exact ⟨_, rfl, hret (hgo.trans (rgo_bad hf e fun q => h3 q.2.2))⟩
        · refine iteT' ?_ (iteT ⟨_, rfl, hret (hgo.trans (rgo_bad hf e fun q => h1 q.1))⟩)
          have : ¬ (V.str z = V.str ⟨#[47]⟩) := fun q => h1 (by injection q)
          simp [this]
    · rintro σ H3 ⟨v5, v6, v7, rs, cur, was, kvs, rfl, sm, hLL, hM, hw, hG, hgo⟩
      rw [List.length_map, List.drop_length] at hgo
      have hgo : rgo 0 [] [] zs = .inr (rs, cur) := hgo
      have hpl := rimsPl_r hgo
      refine ⟨_, rfl, rfl, _, rfl, ?_⟩
      rw [slash_eq]
      by_cases hc : cur = []
      · refine iteT' (decide_eq_true (by rw [hw.mpr hc])) ?_
        rw [if_pos hc] at hpl
        refine ⟨_, rfl, a, _, rfl, .inl (sm.seq hS), ?_⟩
        have := k H3 sm
        rw [hpl] at this
        rw [List.length_map]
        exact this
      refine iteF' (decide_eq_false fun q => hc (hw.mp (by injection q))) ?_
      rw [if_neg hc, flat_snoc] at hpl
      have hl : Lts (rs.flatten ++ cur) := fun x hx => (List.mem_append.mp hx).elim (hG.2.2.2.1 x) (hG.2.2.2.2 x)
      have hl24 : (rs.flatten ++ cur).length ≤ 24 := by rw [List.length_append]; exact hG.2.2.1
      generalize rs.flatten ++ cur = ns at hM hpl hl hl24
      refine nx_rt_if_lk ?_
      refine ⟨d, .dK kvs, hLL, trivial, fun od => ?_⟩
      have hfz : (L2.upd H3 d (.frz od (.dK kvs))) d = some (.frz od (.dK kvs)) := upd_same
      refine ⟨_, rfl, d, od, rfl, .inl ⟨kvs, hfz, ?_⟩⟩
      have kl := hM.1
      refine lcF (walk_keys (d := d) (o := od) (kvs := kvs)) (fun i H x H' ⟨e, _⟩ => by rw [e]; exact Same.refl _) (outM kvs ns) (fun _ _ v b => v = V.int b) (fun _ _ _ _ _ h _ => h) (fun _ _ _ _ _ _ _ h => h) (by omega) (fun H s => s _ _ hfz) ?_ ?_
      · rintro i x H4 H5 hi s4 ⟨rfl, kk, vv, hkv, rfl⟩ D hD _ Qy Qn ky kn
        obtain ⟨k0, e0, m0, v0⟩ := more_key hM hi
        have ekk : kk = .inl k0 := by
          rw [List.getElem?_eq_getElem hi] at hkv
          have := Option.some.inj hkv
          rw [← e0, this]
        subst ekk
        have hd4 := s4 _ _ hfz
        refine ⟨rfl, ?_⟩
        refine ⟨_, rfl, _, rfl, d, .int (Fr.cnt ns k0), rfl, .inl ⟨kvs, .inl k0, .inr ⟨od, hd4⟩, rfl, v0.symm⟩, rfl, _, rfl, ?_⟩
        have eo := out_at hi e0 (ns := ns)
        by_cases hq : Fr.cnt ns k0 = 0
        · refine iteF' ?_ (kn (by rw [eo, if_neg (fun z => z hq)]) _ (Same.refl _))
          rw [hq]
          rfl
        · refine iteT' ?_ ⟨_, rfl, ky k0 _ _ (by rw [eo, if_pos hq]) (Same.refl _) rfl⟩
          have : ¬ (V.int (Fr.cnt ns k0) = V.int 0) := fun q => hq (by injection q)
          simp [this]
      intro D H4 us hD s4 h4 r4
      have hd4 := s4 _ _ hfz
      refine ⟨hd4, Nat.zero_le _, fun q hq => ?_⟩
      have hb := more_bal hM hl
      have eus := all_intz r4
      generalize (List.range kvs.length).filterMap (outM kvs ns) = ms at eus hb
      subst eus
      have neD : D ≠ d := fun z => by rw [z, hfz] at hD; cases hD
      have h5 : (L2.upd (L2.upd H4 d (.dK kvs)) q (.lst [])) D = some (.lst (iv ms)) := by
        rw [upd_ne (fun z => by rw [← z, upd_ne neD, h4] at hq; cases hq), upd_ne neD]
        exact h4
      have s05 : Same H (L2.upd (L2.upd H4 d (.dK kvs)) q (.lst [])) := by
        refine Same.trans sm (Same.trans (fun b o e => ?_) (same_upd hq))
        by_cases eb : b = d
        · rw [eb] at e ⊢
          rw [upd_same, ← e, hLL]
        · rw [upd_ne eb]
          exact s4 _ _ (by rw [upd_ne eb]; exact e)
      have kk := k _ s05
      rw [hpl] at kk
      refine ⟨.list (ms.map PyData.int), .list [], .lst (SqL.of h5) (dpInts _), .lst (SqL.of upd_same) .nil, PySem.W.ke_shaped_ints _, rfl, _, rfl, ?_⟩
      cases ms with
      | nil =>
        rw [if_pos (hb.mp rfl)] at kk
        exact iteT' (by decide) kk
      | cons m r =>
        rw [if_neg fun z => nomatch hb.mpr z] at kk
        refine iteF' (by rfl) ?_
        refine ⟨_, rfl, a, _, rfl, .inl (s05.seq hS), _, _, rfl, rfl, ?_⟩
        have hz0 : 0 < zs.length := List.length_pos_iff.mpr hne
        have e : ((zs.map V.str).length : Int) - 1 = ((zs.length - 1 : Nat) : Int) := by rw [List.length_map]; omega
        show Q (.int (((zs.map V.str).length : Int) - 1)) _
        rw [e]
        exact kk
end
end W11
set_option Elab.async false
set_option linter.all false
set_option maxRecDepth 100000
set_option maxHeartbeats 1000000
namespace W11
open PySem L2 PySem.Spec PyProof.Rows WR WB WE WS
/-! ### the def that hears what is refused -/
abbrev sHeard : Stmt := top 51
abbrev nHeard : List Str := ["_law_ask", "_law_caught", "error"]
theorem scHeard : FnScope nHeard ["_law_ask"] (defScope sHeard) := ⟨rfl, rfl, rfl, by decide +kernel, rfl, by decide +kernel, by decide +kernel⟩
structure Five (K : PySem.W.Frag) (mg : Str → Option Value) (CBW CTM CUB CT CNP CH : Addr) : Prop where
  gH : mg "HandleError" = some (.ref CH)
  tBW : PySem.W.exmOne K (.ref CBW) (.ref CH) = some true
  tTM : PySem.W.exmOne K (.ref CTM) (.ref CH) = some true
  tUB : PySem.W.exmOne K (.ref CUB) (.ref CH) = some true
  tET : PySem.W.exmOne K (.ref CT) (.ref CH) = some true
  tNP : PySem.W.exmOne K (.ref CNP) (.ref CH) = some true
  eBW : L2.ExcC K CBW
  eTM : L2.ExcC K CTM
  eUB : L2.ExcC K CUB
  eET : L2.ExcC K CT
  eNP : L2.ExcC K CNP
  nBW : PySem.W.kitOne K (.type "NoneType") (.ref CBW) = some false
  nTM : PySem.W.kitOne K (.type "NoneType") (.ref CTM) = some false
  nUB : PySem.W.kitOne K (.type "NoneType") (.ref CUB) = some false
  nET : PySem.W.kitOne K (.type "NoneType") (.ref CT) = some false
  nNP : PySem.W.kitOne K (.type "NoneType") (.ref CNP) = some false
  TMBW : PySem.W.kitOne K (.ref CTM) (.ref CBW) = some false
  UBBW : PySem.W.kitOne K (.ref CUB) (.ref CBW) = some false
  UBTM : PySem.W.kitOne K (.ref CUB) (.ref CTM) = some false
  ETBW : PySem.W.kitOne K (.ref CT) (.ref CBW) = some false
  ETTM : PySem.W.kitOne K (.ref CT) (.ref CTM) = some false
  ETUB : PySem.W.kitOne K (.ref CT) (.ref CUB) = some false
  NPBW : PySem.W.kitOne K (.ref CNP) (.ref CBW) = some false
  NPTM : PySem.W.kitOne K (.ref CNP) (.ref CTM) = some false
  NPUB : PySem.W.kitOne K (.ref CNP) (.ref CUB) = some false
  NPET : PySem.W.kitOne K (.ref CNP) (.ref CT) = some false
  f_part : PySem.W.findIn K (.ref CBW) "part" = some none
  f_what : PySem.W.findIn K (.ref CTM) "what" = some none
  f_most : PySem.W.findIn K (.ref CTM) "most" = some none
  f_kind : PySem.W.findIn K (.ref CUB) "kind" = some none
  f_line : PySem.W.findIn K (.ref CT) "line" = some none
  f_item : PySem.W.findIn K (.ref CT) "item" = some none
  f_value : PySem.W.findIn K (.ref CNP) "value" = some none
def KindX (K : PySem.W.Frag) (CBW CTM CUB CT CNP : Addr) (H : Hp) (D : Addr) (fs : List (Str × V)) (us : List V) : Prop :=
  (D = CBW ∧ ∃ v : V, fs = ([("part", v)] : List (Str × V)) ∧ us = [.str "word", v]) ∨ (D = CTM ∧ ∃ v u : V, fs = ([("most", u), ("what", v)] : List (Str × V)) ∧ us = [v, u]) ∨ (D = CUB ∧ ∃ v : V, fs = ([("kind", v)] : List (Str × V)) ∧ us = [.str "odd", v]) ∨
  (D = CT ∧ ∃ v u : V, fs = ([("item", u), ("line", v)] : List (Str × V)) ∧ us = [.str "text", v, u]) ∨ (D = CNP ∧ ∃ (v : V) (pd : PyData), fs = ([("value", v)] : List (Str × V)) ∧ Dp K H v pd ∧ RA.Shw pd ∧ us = [.str "place", .str pd.shown])
def EF (K : PySem.W.Frag) (CBW CTM CUB CT CNP : Addr) (Q : VK) : XK := fun cls d H' => ∃ (D dd : Addr) (fs : List (Str × V)) (us : List V), cls = .ref D ∧ d = some dd ∧ H' dd = some (.xd fs) ∧ KindX K CBW CTM CUB CT CNP H' D fs us ∧
  ∀ H2, Same H' H2 → ∀ t, H2 t = some (.tup us) → Q (.ref t) H2
def THeard (K : PySem.W.Frag) (CBW CTM CUB CT CNP : Addr) : (XK → Hp → VK → Prop) → Hp → VK → Prop := fun tl H Q => ∀ R : VK, (∀ v H', (∀ H2, Same H' H2 → Q .non H2) → R v H') → tl (EF K CBW CTM CUB CT CNP Q) H R
theorem takes_len {X : Cx} {W : WX} (t : Takes X W) : Takes X (fun cls d σ H => σ.length = X.N.length → W cls d σ H) := fun u s' ⟨a, B, sI, pins, σ, H, cls, d, e, I, nb, up, sky, na, os, ag, w⟩ =>
  t u s' ⟨a, B, sI, pins, σ, H, cls, d, e, I, nb, up, sky, na, os, ag, w I.len⟩
theorem on2 {a : Addr} {σ : L2.St} (h : σ.length = 3) : (σ.set 2 (some (.ref a)))[2]? = some (some (.ref a)) := by
  match σ, h with
  | [_, _, _], _ => rfl
theorem on1 {a : Addr} {σ : L2.St} (h : σ.length = 3) : (((σ.set 2 (some (.ref a))).set 1 (some (.ref a))).set 2 none)[1]? = some (some (.ref a)) := by
  match σ, h with
  | [_, _, _], _ => rfl
set_option maxHeartbeats 4000000 in
theorem heard_gives {X : Cx} {g CBW CTM CUB CT CNP CH : Addr} {cdg : Value} {q : Str} (N : TN X.mg) (BW : ErrC X.prog X.w X.K X.mg X.base CBW "BadWord" ["self", "part"] (spI1 "part" CBW)) (TM : ErrC X.prog X.w X.K X.mg X.base CTM "TooMany" ["self", "what", "most"] (spM2 CTM)) (UB : ErrC X.prog X.w X.K X.mg X.base CUB "Unbalanced" ["self", "kind"] (spI1 "kind" CUB))
    (ET : ErrT X.prog X.w X.K X.mg X.base CT "BadText" ["self", "line", "item"] (spI2 CT)) (NP : ErrC X.prog X.w X.K X.mg X.base CNP "NoPlace" ["self", "value"] (spI1 "value" CNP)) (Z : Five X.K X.mg CBW CTM CUB CT CNP CH) (hg : X.A.guards = some []) (hr : Room 1 X.A) :
    LamX.GivesTo X nHeard "_law_heard" (defScope sHeard) g cdg (defBody sHeard) "_law_ask" q (THeard X.K CBW CTM CUB CT CNP) := by
  intro f c' s H Q tl act hc h
  have hu : X.A.units + 64 < cLine := hr.units
  refine ⟨_, pss_cons (ps_set (i := 1) scHeard.nd rfl (Or.inl rfl) pe_non)
    (pss_cons (CK.ps_try_keep (X := (cxOf C8.CX0 X.prog X.w X.K X.mg X.base nHeard "_law_heard" (defScope sHeard) g cdg X.A X.stack s H C8.E0).nox) (i := 2) (out := fun _ _ _ _ => False) (c := .ref CH)
      (say := fun _ _ _ => tAsg (tVar 2) (gName 1))
      (tb := fun W D σ H => ∃ Ech : XK, (∀ cls d σ' H', Ech cls d H' → σ'.length = 3 → W cls d σ' H') ∧ σ[0]? = some (some (.ref f)) ∧ H c' = some (LamX.CodeO c' q) ∧ tl Ech H (fun _ H' => D.nx σ H'))
      rfl rfl rfl LamX.takes0 (fun W pn xe tk _ => ?_)
      scHeard.nd rfl rfl ⟨rfl, by decide, .inl Z.gH⟩ (fun a oe cls d pn hz hf => pss_one (ps_set (i := 1) scHeard.nd rfl (Or.inl rfl) (pv 2))))
    (pss_cons (ps_if (pt_val (pe_callB CK.call_isC (by rfl) N.isinstance (by decide +kernel) (pa_cons (pv 1) (pa_cons (pe_glob (v := .ref CBW) (by rfl) BW.g rfl) pa_nil)))) (pss_one (ps_ret (pe_tup (pa_cons pe_str (pa_cons (CK.pe_kf BW.xf Z.f_part (pv 1)) pa_nil))))) pss_nil)
    (pss_cons (ps_if (pt_val (pe_callB CK.call_isC (by rfl) N.isinstance (by decide +kernel) (pa_cons (pv 1) (pa_cons (pe_glob (v := .ref CTM) (by rfl) TM.g rfl) pa_nil)))) (pss_one (ps_ret (pe_tup (pa_cons (CK.pe_kf TM.xf Z.f_what (pv 1)) (pa_cons (CK.pe_kf TM.xf Z.f_most (pv 1)) pa_nil))))) pss_nil)
    (pss_cons (ps_if (pt_val (pe_callB CK.call_isC (by rfl) N.isinstance (by decide +kernel) (pa_cons (pv 1) (pa_cons (pe_glob (v := .ref CUB) (by rfl) UB.g rfl) pa_nil)))) (pss_one (ps_ret (pe_tup (pa_cons pe_str (pa_cons (CK.pe_kf UB.xf Z.f_kind (pv 1)) pa_nil))))) pss_nil)
    (pss_cons (ps_if (pt_val (pe_callB CK.call_isC (by rfl) N.isinstance (by decide +kernel) (pa_cons (pv 1) (pa_cons (pe_glob (v := .ref CT) (by rfl) ET.g rfl) pa_nil)))) (pss_one (ps_ret (pe_tup (pa_cons pe_str (pa_cons (CK.pe_kf ET.xf Z.f_line (pv 1)) (pa_cons (CK.pe_kf ET.xf Z.f_item (pv 1)) pa_nil)))))) pss_nil)
    (pss_cons (ps_if (pt_val (pe_callB CK.call_isC (by rfl) N.isinstance (by decide +kernel) (pa_cons (pv 1) (pa_cons (pe_glob (v := .ref CNP) (by rfl) NP.g rfl) pa_nil)))) (pss_one (ps_ret (pe_tup (pa_cons pe_str (pa_cons (pe_callB (RA.call_reprA hg (by show X.A.units + 3 + 40 < cLine; omega)) (by rfl) N.repr (by decide +kernel) (pa_cons (CK.pe_kf NP.xf Z.f_value (pv 1)) pa_nil)) pa_nil))))) pss_nil)
    (pss_one (ps_ret (pe_ifExp (pt_cmpR op_isN (pv 1) pe_non (nomark _)) pe_non (pe_tup (pa_cons pe_str (pa_cons pe_non pa_nil)))))))))))), ?_⟩
  · refine ⟨fun pins s' σ H' D I h' => ?_⟩
    obtain ⟨Ech, hW, h1, h2, h3⟩ := h'
    exact (pss_one (ps_expr (act _ pn xe Ech _ _ (takes_len tk) (fun cls d σ' H' h hl => hW cls d σ' H' h hl)))).run pins s' σ H' D I ⟨h1, h2, h3⟩
  · refine ⟨EF X.K CBW CTM CUB CT CNP Q, fun cls d σ' H' h1 h2 => ?_, rfl, hc, ?_⟩
    · obtain ⟨D, dd, fs, us, rfl, rfl, h4, hk, hq⟩ := h1
      have tD : PySem.W.exmOne X.K (.ref D) (.ref CH) = some true := by
        rcases hk with ⟨rfl, _⟩ | ⟨rfl, _⟩ | ⟨rfl, _⟩ | ⟨rfl, _⟩ | ⟨rfl, _⟩
        · exact Z.tBW
        · exact Z.tTM
        · exact Z.tUB
        · exact Z.tET
        · exact Z.tNP
      refine ⟨true, tD, fun _ a ha => ?_, fun z => Bool.noConfusion z⟩
      have sa : Same H' (L2.upd H' a (CK.exk a (.ref D) (some dd))) := same_upd ha
      have hdd : (L2.upd H' a (CK.exk a (.ref D) (some dd))) dd = some (.xd fs) := sa _ _ h4
      have hat : (L2.upd H' a (CK.exk a (.ref D) (some dd))) a = some (CK.exk a (.ref D) (some dd)) := upd_same
      refine ⟨_, on2 h2, ?_⟩
      rcases hk with ⟨rfl, v, rfl, rfl⟩ | ⟨rfl, v, u, rfl, rfl⟩ | ⟨rfl, v, rfl, rfl⟩ | ⟨rfl, v, u, rfl, rfl⟩ | ⟨rfl, v, pd, rfl, hp, hs, rfl⟩
      · refine ⟨_, on1 h2, .inr ⟨a, D, dd, _, .ref D, .ref D, true, rfl, hat, hdd, Z.eBW, fun u hu => hu, kit_self D, ?_⟩⟩
        refine ⟨_, rfl, iteT ?_⟩
        exact ⟨_, on1 h2, a, dd, _, _, rfl, hat, hdd, lk_eq, by show 2 ≤ sizeLine; decide, fun t ht => hq _ (sa.trans (same_upd ht)) t upd_same⟩
      · refine ⟨_, on1 h2, .inr ⟨a, D, dd, _, .ref CBW, .ref CBW, false, rfl, hat, hdd, Z.eTM, fun u hu => hu, Z.TMBW, ?_⟩⟩
        refine ⟨_, rfl, iteF ?_⟩
        refine ⟨_, on1 h2, .inr ⟨a, D, dd, _, .ref D, .ref D, true, rfl, hat, hdd, Z.eTM, fun u hu => hu, kit_self D, ?_⟩⟩
        refine ⟨_, rfl, iteT ?_⟩
        exact ⟨_, on1 h2, a, dd, _, _, rfl, hat, hdd, (by rw [lk_ne (show ¬ (("what" : Str) = "most") by decide +kernel)]; exact lk_eq), _, on1 h2, a, dd, _, _, rfl, hat, hdd, lk_eq, by show 2 ≤ sizeLine; decide, fun t ht => hq _ (sa.trans (same_upd ht)) t upd_same⟩
      · refine ⟨_, on1 h2, .inr ⟨a, D, dd, _, .ref CBW, .ref CBW, false, rfl, hat, hdd, Z.eUB, fun u hu => hu, Z.UBBW, ?_⟩⟩
        refine ⟨_, rfl, iteF ?_⟩
        refine ⟨_, on1 h2, .inr ⟨a, D, dd, _, .ref CTM, .ref CTM, false, rfl, hat, hdd, Z.eUB, fun u hu => hu, Z.UBTM, ?_⟩⟩
        refine ⟨_, rfl, iteF ?_⟩
        refine ⟨_, on1 h2, .inr ⟨a, D, dd, _, .ref D, .ref D, true, rfl, hat, hdd, Z.eUB, fun u hu => hu, kit_self D, ?_⟩⟩
        refine ⟨_, rfl, iteT ?_⟩
        exact ⟨_, on1 h2, a, dd, _, _, rfl, hat, hdd, lk_eq, by show 2 ≤ sizeLine; decide, fun t ht => hq _ (sa.trans (same_upd ht)) t upd_same⟩
      · refine ⟨_, on1 h2, .inr ⟨a, D, dd, _, .ref CBW, .ref CBW, false, rfl, hat, hdd, Z.eET, fun u hu => hu, Z.ETBW, ?_⟩⟩
        refine ⟨_, rfl, iteF ?_⟩
        refine ⟨_, on1 h2, .inr ⟨a, D, dd, _, .ref CTM, .ref CTM, false, rfl, hat, hdd, Z.eET, fun u hu => hu, Z.ETTM, ?_⟩⟩
        refine ⟨_, rfl, iteF ?_⟩
        refine ⟨_, on1 h2, .inr ⟨a, D, dd, _, .ref CUB, .ref CUB, false, rfl, hat, hdd, Z.eET, fun u hu => hu, Z.ETUB, ?_⟩⟩
        refine ⟨_, rfl, iteF ?_⟩
        refine ⟨_, on1 h2, .inr ⟨a, D, dd, _, .ref D, .ref D, true, rfl, hat, hdd, Z.eET, fun u hu => hu, kit_self D, ?_⟩⟩
        refine ⟨_, rfl, iteT ?_⟩
        exact ⟨_, on1 h2, a, dd, _, _, rfl, hat, hdd, (by rw [lk_ne (show ¬ (("line" : Str) = "item") by decide +kernel)]; exact lk_eq), _, on1 h2, a, dd, _, _, rfl, hat, hdd, lk_eq, by show 3 ≤ sizeLine; decide, fun t ht => hq _ (sa.trans (same_upd ht)) t upd_same⟩
      · refine ⟨_, on1 h2, .inr ⟨a, D, dd, _, .ref CBW, .ref CBW, false, rfl, hat, hdd, Z.eNP, fun u hu => hu, Z.NPBW, ?_⟩⟩
        refine ⟨_, rfl, iteF ?_⟩
        refine ⟨_, on1 h2, .inr ⟨a, D, dd, _, .ref CTM, .ref CTM, false, rfl, hat, hdd, Z.eNP, fun u hu => hu, Z.NPTM, ?_⟩⟩
        refine ⟨_, rfl, iteF ?_⟩
        refine ⟨_, on1 h2, .inr ⟨a, D, dd, _, .ref CUB, .ref CUB, false, rfl, hat, hdd, Z.eNP, fun u hu => hu, Z.NPUB, ?_⟩⟩
        refine ⟨_, rfl, iteF ?_⟩
        refine ⟨_, on1 h2, .inr ⟨a, D, dd, _, .ref CT, .ref CT, false, rfl, hat, hdd, Z.eNP, fun u hu => hu, Z.NPET, ?_⟩⟩
        refine ⟨_, rfl, iteF ?_⟩
        refine ⟨_, on1 h2, .inr ⟨a, D, dd, _, .ref D, .ref D, true, rfl, hat, hdd, Z.eNP, fun u hu => hu, kit_self D, ?_⟩⟩
        refine ⟨_, rfl, iteT ?_⟩
        exact ⟨_, on1 h2, a, dd, _, v, rfl, hat, hdd, lk_eq, v, pd, rfl, RA.dp_same sa pd hp, hs, by show 2 ≤ sizeLine; decide, fun t ht => hq _ (sa.trans (same_upd ht)) t upd_same⟩
    · refine h _ fun v H' hq => ?_
      refine ⟨_, rfl, .inl ⟨_, _, _, _, _, rfl, .own CBW, Typ.non.ty, Z.nBW, ?_⟩⟩
      refine ⟨_, rfl, iteF ?_⟩
      refine ⟨_, rfl, .inl ⟨_, _, _, _, _, rfl, .own CTM, Typ.non.ty, Z.nTM, ?_⟩⟩
      refine ⟨_, rfl, iteF ?_⟩
      refine ⟨_, rfl, .inl ⟨_, _, _, _, _, rfl, .own CUB, Typ.non.ty, Z.nUB, ?_⟩⟩
      refine ⟨_, rfl, iteF ?_⟩
      refine ⟨_, rfl, .inl ⟨_, _, _, _, _, rfl, .own CT, Typ.non.ty, Z.nET, ?_⟩⟩
      refine ⟨_, rfl, iteF ?_⟩
      refine ⟨_, rfl, .inl ⟨_, _, _, _, _, rfl, .own CNP, Typ.non.ty, Z.nNP, ?_⟩⟩
      refine ⟨_, rfl, iteF ?_⟩
      exact ⟨_, rfl, rfl, _, rfl, iteT (hq _ (Same.refl _))⟩
end W11
set_option Elab.async false
set_option linter.all false
set_option maxRecDepth 100000
set_option maxHeartbeats 1000000
namespace W11
open PySem L2 PySem.Spec PyProof.Rows WR WB WE WS
/-! ### calls by lambdas: what is kept; calls by keywords; rims held against what is none -/
structure FunC (K : PySem.W.Frag) (x : Str) (st : Stmt) (f c : Addr) (fd : FuncData) : Prop where
  ex : ∃ (oc : Value) (od : Option Addr) (kV doc pm : Value) (an : Option Addr) (ct : Value) (osl : Array (Option Value)),
    fd = PySem.W.fnOf x x (defArgs st) (defBody st) (defScope st) .none kV doc pm an (.ref c) ct ∧ K.lookup f = some ⟨oc, od, .func fd, osl⟩ ∧ PySem.W.codeIn K (.ref c) x = true
theorem FunC.okG {P : Program} {w : World} {K : PySem.W.Frag} {mg : Str → Option Value} {base : Heap} {x : Str} {st : Stmt} {f c : Addr} {fd : FuncData} {N ps : List Str} {k : Nat} {sp : Sp} (F : FunC K x st f c fd) (S : FnScope N ps (defScope st)) (many : ∀ zs G R E, sp zs G R E → zs.length = ps.length)
    (B0 : ∀ (B : Around) (fr : List Env) (t : Shared) (G : Hp) (zs : List V) (R : VK) (E : XK), B.guards = some [] → Room k (B.deeper (envOfC x (defScope st) t.heap.objs.size f (.ref c))) → sp zs G R E →
      ∃ tb, PSs (cxOf CX0 P w K mg base N x (defScope st) f (.ref c) B fr t G E).nox (defBody st) tb ∧ tb { nx := fun _ G' => R .non G', rt := R } (L2.start N zs) G) : RG.FnG P w K mg base (k + 1) f fd ps sp := by
  obtain ⟨oc, od, kV, doc, pm, an, ct, osl, rfl, lk, cd⟩ := F.ex
  refine RG.fnG_of lk cd S many fun B fr t G zs R E hg room asked => ?_
  obtain ⟨tb, run, read⟩ := B0 B fr t G zs R E hg room asked
  exact ⟨tb, run.nox, read⟩
structure HeardK (K : PySem.W.Frag) (mg : Str → Option Value) (g : Addr) : Prop where
  mg : mg "_law_heard" = some (.ref g)
  kp : PySem.W.keepIn K (.ref g) = true
  ex : ∃ (oc : Value) (od : Option Addr) (kV doc pm cdv ct : Value) (an : Option Addr) (osl : Array (Option Value)),
    K.lookup g = some ⟨oc, od, .func (PySem.W.fnOf "_law_heard" "_law_heard" (defArgs sHeard) (defBody sHeard) (defScope sHeard) .none kV doc pm an cdv ct), osl⟩ ∧ PySem.W.codeIn K cdv "_law_heard" = true
theorem tabs_kept {T : List (Addr × Str)} {a c : Addr} {n : Nat} {H H' : Hp} (h : HandAt H a c n) (k : Kept a H H') (t : LamX.Tabs T H) : LamX.Tabs T H' := by
  intro p hp
  obtain ⟨ps, h1, h2, h3⟩ := t p hp
  obtain ⟨ns, i, r, ha, _⟩ := h
  have na : ∀ {b : Addr} {o : HO}, H b = some o → (∀ xs, o ≠ .lst xs) → b ≠ a := fun e z q => by
    rw [q, ha] at e
    exact z _ (Option.some.inj e).symm
  refine ⟨ps, k _ _ (na h1 fun xs q => by cases q) h1, h2, fun pos cv hc => ?_⟩
  obtain ⟨d, e1, e2⟩ := h3 pos cv hc
  exact ⟨d, e1, k _ _ (na e2 fun xs q => by
    have q2 : HO.ext _ = HO.lst xs := q
    cases q2) e2⟩
theorem HandAt.ext {H H' : Hp} {a c : Addr} {n : Nat} (h : HandAt H a c n) (s : LamX.ExtN H H') : HandAt H' a c n := by
  obtain ⟨ns, i, r, h1, h2, h3⟩ := h
  exact ⟨ns, i, r, s _ _ h1 (fun ps q => by cases q), s _ _ h2 (fun ps q => by cases q), h3⟩
theorem Drew.tabs {T : List (Addr × Str)} {a c : Addr} {m n : Nat} {H H' : Hp} (d : Drew a c n H H') (h : HandAt H a c m) (t : LamX.Tabs T H) : LamX.Tabs T H' := tabs_kept h d.2 t
theorem tabs_put {T : List (Addr × Str)} {l : Addr} {H : Hp} {xs ys : List V} (hl : H l = some (.lst xs)) (t : LamX.Tabs T H) : LamX.Tabs T (L2.upd H l (.lst ys)) := by
  intro p hp
  have kl : Kept l H (L2.upd H l (.lst ys)) := Kept.upd
  obtain ⟨ps, h1, h2, h3⟩ := t p hp
  have na : ∀ {b : Addr} {o : HO}, H b = some o → (∀ xs, o ≠ .lst xs) → b ≠ l := fun e z q => by
    rw [q, hl] at e
    exact z _ (Option.some.inj e).symm
  refine ⟨ps, kl _ _ (na h1 fun xs q => by cases q) h1, h2, fun pos cv hc => ?_⟩
  obtain ⟨d, e1, e2⟩ := h3 pos cv hc
  exact ⟨d, e1, kl _ _ (na e2 fun xs q => by
    have q2 : HO.ext _ = HO.lst xs := q
    cases q2) e2⟩
section
variable {K : PySem.W.Frag} {C CR : Addr} {H H' : Hp}
theorem extOf (s : Same H H') : LamX.ExtN H H' := LamX.ExtN.of fun b o e => s b o e
theorem SqT.extN {a : Addr} {xs : List V} (s : LamX.ExtN H H') (h : SqT K H a xs) : SqT K H' a xs :=
  h.elim (fun r => .inl (r.elim (fun r => .inl (s _ _ r fun ps q => by cases q)) fun ⟨o, r⟩ => .inr ⟨o, s _ _ r fun ps q => by cases q⟩)) fun r => .inr r
theorem SqB.extN {a : Addr} {xs : List V} (s : LamX.ExtN H H') (h : SqB K H a xs) : SqB K H' a xs :=
  ⟨SqT.extN s h.sq, let ⟨o, u, e, z⟩ := h.bare; ⟨o, u, s _ _ e (fun ps q => by cases q), z⟩⟩
theorem WordAt.extN {p : Addr} {ns : List Int} (s : LamX.ExtN H H') (h : WordAt K C H p ns) : WordAt K C H' p ns := by
  obtain ⟨dx, tl, tk, ks, h1, h2, h3, h4⟩ := h
  exact ⟨dx, tl, tk, ks, s _ _ h1 (fun ps q => by cases q), SqB.extN s h2, SqT.extN s h3, h4⟩
theorem RimsAt.extN {p : Addr} {xs : List Addr} {ws : List (List Int)} (s : LamX.ExtN H H') (h : RimsAt K C CR H p xs ws) : RimsAt K C CR H' p xs ws := by
  obtain ⟨d2, tw, tl, th, tn, r1, r2, r3, r4, r5, r6⟩ := h
  exact ⟨d2, tw, tl, th, tn, s _ _ r1 (fun ps q => by cases q), SqB.extN s r2, r3.imp fun a ns wa => WordAt.extN s wa, SqB.extN s r4, SqB.extN s r5, SqB.extN s r6⟩
def ShS (d : PyData) : Prop := RA.Shw d ∧ PyData.canLay0 (.str d.shown) = true
instance (d : PyData) : Decidable (RA.Shw d) := by unfold RA.Shw; exact inferInstance
instance (d : PyData) : Decidable (ShS d) := by unfold ShS; exact inferInstance
inductive Plc (H : Hp) : V → PyData → String → Prop
  | int (i : Int) (h : ShS (.int i)) : Plc H (.int i) (.int i) "int"
  | bl (b : Bool) : Plc H (.bl b) (.bool b) "bool"
  | non : Plc H .non .none "NoneType"
  | str (z : Str) (h : ShS (.str z)) : Plc H (.str z) (.str z) "str"
  | one {p : Addr} (e : H p = some (.lst [.int 0])) : Plc H (.ref p) (.list [.int 0]) "list"
theorem Plc.ext {v : V} {pd : PyData} {t : String} (s : LamX.ExtN H H') (h : Plc H v pd t) : Plc H' v pd t := by
  cases h with
  | int i h => exact .int i h
  | bl b => exact .bl b
  | non => exact .non
  | str z h => exact .str z h
  | one e => exact .one (s _ _ e fun ps q => by cases q)
theorem Plc.typ {v : V} {pd : PyData} {t : String} (h : Plc H v pd t) : Typ H v t := by
  cases h with
  | int i h => exact .int i
  | bl b => exact .bl b
  | non => exact .non
  | str z h => exact .str z
  | one e => exact .lst e
theorem Plc.dp {v : V} {pd : PyData} {t : String} (h : Plc H v pd t) : Dp K H v pd := by
  cases h with
  | int i h => exact .int i
  | bl b => exact .bl b
  | non => exact .non
  | str z h => exact .str z
  | one e => exact .lst (SqL.of e) (.cons (.int 0) .nil)
theorem Plc.shs {v : V} {pd : PyData} {t : String} (h : Plc H v pd t) : ShS pd := by
  cases h with
  | int i h => exact h
  | bl b => cases b <;> decide +kernel
  | non => decide +kernel
  | str z h => exact h
  | one e => decide +kernel
theorem Plc.shw {v : V} {pd : PyData} {t : String} (h : Plc H v pd t) : RA.Shw pd := h.shs.1
theorem shw_nat : ∀ n : Nat, n < 61 → ShS (.int (n : Int)) := by decide +kernel
theorem shw_neg : ∀ n : Nat, n < 61 → ShS (.int (-(n : Int))) := by decide +kernel
def TwoS (H : Hp) (v : V) (d : Str × Str) : Prop := ∃ t, v = V.ref t ∧ H t = some (.tup [.str d.1, .str d.2])
theorem TwoS.ext {v : V} {d : Str × Str} (s : LamX.ExtN H H') (h : TwoS H v d) : TwoS H' v d := by
  obtain ⟨t, e, g⟩ := h
  exact ⟨t, e, s _ _ g fun ps q => by cases q⟩
theorem TwoS.put {v : V} {d : Str × Str} {l : Addr} {us : List V} {o : HO} (hl : H l = some (.lst us)) (h : TwoS H v d) : TwoS (L2.upd H l o) v d := by
  obtain ⟨t, e, g⟩ := h
  exact ⟨t, e, by rw [upd_ne (fun z => by rw [z, hl] at g; cases g)]; exact g⟩
def dps (ds : List (Str × Str)) : List PyData := ds.map fun d => .tuple [.str d.1, .str d.2]
theorem twoS_dp : ∀ {vs : List V} {ds : List (Str × Str)}, All2 (TwoS H) vs ds → DpAll K H vs (dps ds) := by
  intro vs ds h
  induction h with
  | nil => exact .nil
  | cons h1 _ ih =>
    obtain ⟨t, rfl, g⟩ := h1
    exact .cons (.tup (SqT.of g) (.cons (.str _) (.cons (.str _) .nil))) ih
end
/-! ### what is heard -/
section
variable {K : PySem.W.Frag} {CBW CTM CUB CT CNP : Addr} {T : List (Addr × Str)} {H H1 : Hp} {Q : VK}
theorem ef_any {D : Addr} {fs : List (Str × V)} {us : List V} (s0 : LamX.ExtN H H1) (t1 : LamX.Tabs T H1) (k : ∀ H2 t, LamX.ExtN H H2 → LamX.Tabs T H2 → H2 t = some (.tup us) → Q (.ref t) H2) (kind : ∀ H', Same H1 H' → KindX K CBW CTM CUB CT CNP H' D fs us) :
    ∀ H2, Same H1 H2 → ∀ d, H2 d = none → EF K CBW CTM CUB CT CNP Q (.ref D) (some d) (L2.upd H2 d (.xd fs)) := by
  intro H2 s2 d hd
  have s3 := s2.trans (same_upd (o := .xd fs) hd)
  refine ⟨D, d, fs, us, rfl, rfl, upd_same, kind _ s3, fun H4 s4 t ht => ?_⟩
  have s5 := s3.trans s4
  exact k H4 t (s0.trans (extOf s5)) (fun p hp => (t1 p hp).ext fun b o e => s5 b o e) ht
theorem ef_word (s0 : LamX.ExtN H H1) (t1 : LamX.Tabs T H1) (k : ∀ H2 t, LamX.ExtN H H2 → LamX.Tabs T H2 → H2 t = some (.tup [.str "word", .str "words"]) → Q (.ref t) H2) : Bad "part" CBW (EF K CBW CTM CUB CT CNP Q) H1 (.str "words") :=
  ef_any s0 t1 k fun _ _ => .inl ⟨rfl, _, rfl, rfl⟩
theorem ef_many (s0 : LamX.ExtN H H1) (t1 : LamX.Tabs T H1) (k : ∀ H2 t, LamX.ExtN H H2 → LamX.Tabs T H2 → H2 t = some (.tup [.str "letters", .int 24]) → Q (.ref t) H2) : BadM CTM (EF K CBW CTM CUB CT CNP Q) H1 (.str "letters") 24 :=
  ef_any s0 t1 k fun _ _ => .inr (.inl ⟨rfl, _, _, rfl, rfl⟩)
theorem ef_odd {i : Int} (s0 : LamX.ExtN H H1) (t1 : LamX.Tabs T H1) (k : ∀ H2 t, LamX.ExtN H H2 → LamX.Tabs T H2 → H2 t = some (.tup [.str "odd", .int i]) → Q (.ref t) H2) : Bad "kind" CUB (EF K CBW CTM CUB CT CNP Q) H1 (.int i) :=
  ef_any s0 t1 k fun _ _ => .inr (.inr (.inl ⟨rfl, _, rfl, rfl⟩))
theorem ef_text {i : Nat} (s0 : LamX.ExtN H H1) (t1 : LamX.Tabs T H1) (k : ∀ H2 t, LamX.ExtN H H2 → LamX.Tabs T H2 → H2 t = some (.tup [.str "text", .int 0, .int (i : Int)]) → Q (.ref t) H2) : BadT CT (EF K CBW CTM CUB CT CNP Q) H1 i :=
  ef_any s0 t1 k fun _ _ => .inr (.inr (.inr (.inl ⟨rfl, _, _, rfl, rfl⟩)))
theorem ef_place {v : V} {pd : PyData} {t : String} (pl : Plc H1 v pd t) (s0 : LamX.ExtN H H1) (t1 : LamX.Tabs T H1) (k : ∀ H2 t, LamX.ExtN H H2 → LamX.Tabs T H2 → H2 t = some (.tup [.str "place", .str pd.shown]) → Q (.ref t) H2) : Bad "value" CNP (EF K CBW CTM CUB CT CNP Q) H1 v :=
  ef_any s0 t1 k fun _ s => .inr (.inr (.inr (.inr ⟨rfl, _, pd, rfl, (pl.ext (extOf s)).dp, pl.shw, rfl⟩)))
end
theorem dps_eqv : ∀ ds : List (Str × Str), PyData.eqvAll (dps ds) (dps ds) = true
  | [] => rfl
  | (a, b) :: r => by
    show (PyData.eqv (.tuple [.str a, .str b]) (.tuple [.str a, .str b]) && PyData.eqvAll (dps r) (dps r)) = true
    rw [dps_eqv r, Bool.and_true]
    show (a == a && (b == b && true)) = true
    rw [beq_self_eq_true, beq_self_eq_true]
    rfl
theorem dps_lay : ∀ ds : List (Str × Str), (∀ d ∈ ds, PyData.canLay0 (.str d.1) = true ∧ PyData.canLay0 (.str d.2) = true) → PyData.canLayAll0 (dps ds) = true
  | [], _ => rfl
  | (a, b) :: r, h => by
    show ((PyData.canLay0 (.str a) && (PyData.canLay0 (.str b) && true)) && PyData.canLayAll0 (dps r)) = true
    rw [dps_lay r (fun d hd => h d (List.mem_cons_of_mem _ hd)), (h _ List.mem_cons_self).1, (h _ List.mem_cons_self).2]
    rfl
/-! ### rims by keywords -/
structure MkRK (P : Program) (w : World) (K : PySem.W.Frag) (mg : Str → Option Value) (base : Heap) (C CR : Addr) : Prop where
  ex : ∃ (f : Addr) (fd : FuncData), Mk K CR f ∧ FnOk P w K mg base CX0 4 f fd ["self", "words"] (spInitR K C CR) ∧ KBn K fd ["self", "words"] 1 ["words"] (fun us ws => us ++ ws) (fun vs zs => vs ++ zs)
section
variable {X : Cx} {C CR : Addr} {tk : TA} {p pos : Pos} {kws : List Keyword} {j : Nat}
theorem pe_mkRK (M : MkRK X.prog X.w X.K X.mg X.base C CR) (T : TxRC X.K X.mg CR) (hr : Room j X.A) (hkj : 5 ≤ j) (hg : Gl X "Rims") (hkw : PK X kws tk)
    (hall : (backToKw pos (keywordEach kws X.env)).all (·.1.isSome) = true := by rfl) (hks : (backToKw pos (keywordEach kws X.env)).filterMap (·.1) = (["words"] : List Str) := by rfl)
    (hpl : ((backTo pos (starEach [] X.env)).any (·.1) || (backToKw pos (keywordEach kws X.env)).any (·.1.isNone)) = false := by rfl) :
    PE X (.Call (.Name "Rims" p) [] kws pos) (tMakeK CR 0 1 (spInitR X.K C CR) (fun vs zs => vs ++ zs) E0 tNil tk) := by
  obtain ⟨f, fd, M, F, hb⟩ := M.ex
  exact pe_makeK0 M F (hr.mono hkj) hg T.mgR hb pass0 hkw hall hks (by decide) hpl
end
structure MethK (P : Program) (w : World) (K : PySem.W.Frag) (mg : Str → Option Value) (base : Heap) (C : Addr) (m : Str) (ps ks : List Str) (sp : Sp) : Prop where
  ex : ∃ (f : Addr) (fd : FuncData), Meth K C m f ∧ FnOk P w K mg base CX0 6 f fd ps sp ∧ KBn K fd ps 1 ks (fun us ws => us ++ ws) (fun vs zs => vs ++ zs)
def tMethK (C : Addr) (m : Str) (sp : Sp) (n : Nat) (ta : TE) (tk : TA) : TE := fun σ H Q => ta σ H fun x H1 => ∃ a dx fs, x = .ref a ∧ H1 a = some (.ins C dx fs) ∧ fs.lookup m = none ∧ tk σ H1 fun zs H2 => zs.length = n ∧ sp (x :: zs) H2 Q E0
section
variable {X : Cx} {C : Addr} {o : Expr} {kws : List Keyword} {ta : TE} {tk : TA} {m : Str} {ps ks : List Str} {sp : Sp} {apos pos : Pos} {j : Nat}
theorem pe_wK {pl : Sem Bool} (M : MethK X.prog X.w X.K X.mg X.base C m ps ks sp) (c : Cls X.K C) (hr : Room j X.A) (hj : 6 ≤ j) (he : PE X o ta) (hkw : PK X kws tk)
    (hall : (backToKw pos (keywordEach kws X.env)).all (·.1.isSome) = true := by rfl) (hks : (backToKw pos (keywordEach kws X.env)).filterMap (·.1) = ks := by rfl)
    (hpl : ((backTo pos (starEach [] X.env)).any (·.1) || (backToKw pos (keywordEach kws X.env)).any (·.1.isNone)) = false := by rfl)
    (ht : eval (.Call (.Attribute o m apos) [] kws pos) X.env = (do
      let ov ← eval o X.env
      standAt apos.atName
      let (f, first) ← holding [ov] (getMethod ov m pl)
      callWith pos f first (backTo pos (starEach [] X.env)) (backToKw pos (keywordEach kws X.env))) := by rfl) :
    PE X (.Call (.Attribute o m apos) [] kws pos) (tMethK C m sp ks.length ta tk) := by
  obtain ⟨f, fd, hm, F, hb⟩ := M.ex
  constructor
  intro pins s σ H Q I h
  refine PySem.W.methodCall_KW (pl := pl) (thn (he.run pins s σ H _ I h) fun u s1 z => ?_) ht
  obtain ⟨x, H1, I1, rx, a, dx, fs, ex, ea, l, q⟩ := z
  subst ex
  obtain rfl : u = Value.ref a := rx
  refine getmeth_ok I1 ea c hm l (PySem.W.callWith_KW0 (first := [.ref a]) (h₀ := X.base) I1.ok.mod.kin hm.kp hall (thn (hkw.run pos pins s1 σ H1 _ I1 q) fun ws s3 y => ?_) hpl)
  obtain ⟨zs, H2, I3, rz, lz, q2⟩ := y
  refine ⟨I3.kIn, ?_⟩
  rw [hks]
  exact run_fnN (us := [.ref a]) (vs := [.ref a]) F (hr.mono hj) hb pass0 I3 (.cons rfl .nil) rz rfl lz q2
end
theorem pe_wK' {X : Cx} {K : PySem.W.Frag} {C : Addr} {o : Expr} {kws : List Keyword} {ta : TE} {tk : TA} {m : Str} {ps ks : List Str} {sp : Sp} {apos pos : Pos} {j : Nat} (h : X.K = K) {pl : Sem Bool} (M : MethK X.prog X.w K X.mg X.base C m ps ks sp) (c : Cls K C) (hr : Room j X.A) (hj : 6 ≤ j) (he : PE X o ta) (hkw : PK X kws tk)
    (hall : (backToKw pos (keywordEach kws X.env)).all (·.1.isSome) = true := by rfl) (hks : (backToKw pos (keywordEach kws X.env)).filterMap (·.1) = ks := by rfl)
    (hpl : ((backTo pos (starEach [] X.env)).any (·.1) || (backToKw pos (keywordEach kws X.env)).any (·.1.isNone)) = false := by rfl)
    (ht : eval (.Call (.Attribute o m apos) [] kws pos) X.env = (do
      let ov ← eval o X.env
      standAt apos.atName
      let (f, first) ← holding [ov] (getMethod ov m pl)
      callWith pos f first (backTo pos (starEach [] X.env)) (backToKw pos (keywordEach kws X.env))) := by rfl) :
    PE X (.Call (.Attribute o m apos) [] kws pos) (tMethK C m sp ks.length ta tk) := by
  subst h
  exact pe_wK M c hr hj he hkw hall hks hpl ht
/-! ### a place's rim -/
section
variable {P : Program} {w : World} {K : PySem.W.Frag} {mg : Str → Option Value} {base : Heap} {C CR : Addr}
theorem ok_rimOf {f : Addr} {fd : FuncData} (F : Fun K "rim_of" "Rims.rim_of" sRimOf f fd) (TC : TxRC K mg CR) (GP : Cal P w K mg base "need_place" 3 ["rims", "value"] (spNeedPl K C CR)) : FnOk P w K mg base CX0 4 f fd ["self", "place"] (spNextR K C CR (hmF 0)) := by
  refine F.ok scRimOf (fun vs H Q E h => ?_) (fun cdv A outer s H vs Q E hr h => ?_)
  · obtain ⟨p, i, xs, ws, rfl, _⟩ := h
    rfl
  · obtain ⟨p, i, xs, ws, rfl, R1, i1, k⟩ := h
    refine ⟨_, pss_cons (ps_expr (pe_cal GP hr (by decide) (by rfl) (pa_cons (pv 0) (pa_cons (pv 1) pa_nil))))
      (pss_one (ps_ret (pe_ix ix_tup (pe_fld (pv 0) rfl) (pv 1) (fun _ _ => rfl)))), ?_⟩
    refine ⟨_, rfl, _, rfl, p, _, xs, ws, rfl, R1, by omega, by omega, ?_⟩
    obtain ⟨dx, tw, tl, th, tn, h1, _, _, _, h5, _⟩ := R1
    have lt : i < (hmF 0 ws).length := by rw [hmF_len]; exact i1
    exact ⟨_, rfl, p, CR, dx, _, _, rfl, h1, TC.cl, TC.n6, rf_homes, _, rfl, th, _, _, _, rfl, rfl, h5.sq, atI_nat (iv_get (List.getElem?_eq_getElem lt)), k _ (List.getElem?_eq_getElem lt)⟩
end
/-! ### rims held against what is none -/
structure TxOR (K : PySem.W.Frag) (C : Addr) : Prop where
  kS : PySem.W.kitOne K (.type "str") (.ref C) = some false
  kT : PySem.W.kitOne K (.type "tuple") (.ref C) = some false
  fS : PySem.W.notFirst K C (.type "str") = true
  fT : PySem.W.notFirst K C (.type "tuple") = true
def Alien (K : PySem.W.Frag) (H : Hp) (x : V) (t : String) : Prop := (t = "str" ∧ ∃ z, x = .str z) ∨ (t = "tuple" ∧ ∃ q xs, x = .ref q ∧ SqT K H q xs)
theorem Alien.ty {K : PySem.W.Frag} {H : Hp} {x : V} {t : String} (h : Alien K H x t) : TyX K H x (.type t) := by
  rcases h with ⟨rfl, z, rfl⟩ | ⟨rfl, q, xs, rfl, h⟩
  · exact .base (.str z)
  · exact SqT.tyx h
def spEqRX (K : PySem.W.Frag) (C CR : Addr) : Sp := fun vs H Q _ => ∃ (p : Addr) (y : V) (t : String) (xs : List Addr) (ws : List (List Int)), vs = [.ref p, y] ∧ RimsAt K C CR H p xs ws ∧ Alien K H y t ∧ Q (.bl false) H
structure EqRX (P : Program) (w : World) (K : PySem.W.Frag) (mg : Str → Option Value) (base : Heap) (C CR : Addr) : Prop where
  ex : ∃ (f : Addr) (fd : FuncData), FnOk P w K mg base CX0 3 f fd ["self", "other"] (spEqRX K C CR) ∧ PySem.W.findIn K (.ref CR) "__eq__" = some (some (.ref f)) ∧ PySem.W.isFn K (.ref f) = true ∧ Binds K fd ["self", "other"] []
section
variable {P : Program} {w : World} {K : PySem.W.Frag} {mg : Str → Option Value} {base : Heap} {C CR : Addr}
theorem ok_eqRX {f : Addr} {fd : FuncData} (F : Fun K "__eq__" "Rims.__eq__" sEqR f fd) (T : TxW K mg C) (TC : TxRC K mg CR) (M : EqW P w K mg base C) (O : TxOR K CR) : FnOk P w K mg base CX0 3 f fd ["self", "other"] (spEqRX K C CR) := by
  refine F.ok scEqR (fun vs H Q E h => ?_) (fun cdv A outer s H vs Q E hr h => ?_)
  · obtain ⟨p, y, t, xs, ws, rfl, _⟩ := h
    rfl
  · obtain ⟨p, y, t, xs, ws, rfl, R1, al, k⟩ := h
    refine ⟨_, pss_one (ps_ret (pe_and (pe_callB call_isi (by rfl) T.isin (by decide +kernel) (pa_cons (pv 1) (pa_cons (pe_glob (v := .ref CR) (by rfl) TC.mgR rfl) pa_nil)))
      (pe_one (pe_cmpR (op_eqWT M hr (by decide)) (pe_fld (pv 0) rfl) (pe_fld (pv 1) rfl) (nomark _))))), ?_⟩
    have kk : PySem.W.kitOne K (.type t) (.ref CR) = some false := by
      rcases al with ⟨rfl, _⟩ | ⟨rfl, _⟩
      · exact O.kS
      · exact O.kT
    refine ⟨_, rfl, _, _, _, _, _, rfl, .own CR, al.ty, kk, _, rfl, ?_⟩
    exact iteF k
end
def rEqRX (K : PySem.W.Frag) (C CR : Addr) : R2 := fun x y H Q => ∃ (p : Addr) (xs : List Addr) (ws : List (List Int)) (t : String), x = .ref p ∧ RimsAt K C CR H p xs ws ∧ Alien K H y t ∧ Q (.bl false) H
section
variable {X : Cx} {C CR : Addr}
theorem op_eqRX (M : EqRX X.prog X.w X.K X.mg X.base C CR) (O : TxOR X.K CR) {j : Nat} (hr : Room j X.A) (hj : 3 ≤ j) : OpR X (compareOp .Eq) (rEqRX X.K C CR) := by
  intro pins s σ H x y u v Q I rx ry d
  obtain ⟨f, fd, F, hs, hf, hb⟩ := M.ex
  obtain ⟨a, xs0, ws0, t, rfl, W1, al, hq⟩ := d
  cases rx
  obtain ⟨dx, _, _, _, _, ha, _⟩ := id W1
  obtain ⟨mA, J, _⟩ := ins_get I.hok ha
  obtain ⟨od, J, _⟩ := J.look
  obtain ⟨m, hF⟩ := I.fr
  have rm : Room 3 X.A := hr.mono hj
  have ty : PySem.W.Looks (model X.prog X.w) s.heap (typeOf v) (.type t) ∧ PySem.W.notFirst X.K CR (.type t) = true := by
    rcases al with ⟨rfl, z, rfl⟩ | ⟨rfl, q, xs, rfl, h⟩
    · obtain ⟨tk, rfl⟩ := ry
      exact ⟨fun A Q E s _ q => wpAny_pure q, O.fS⟩
    · cases ry
      obtain ⟨its, rv, ⟨o, ho, hc, _⟩, _⟩ := I.tuple h
      refine ⟨fun A Q E s k q => wpAny_typeOf_ref (k _ _ ho) ?_, O.fT⟩
      rw [hc]
      exact q
  show wpAny (model X.prog X.w) X.A (richCompare .Eq (.ref a) v) (EP X pins σ Q) X.xe s
  refine PySem.W.cmp_K (op := .Eq) (tb := .type t) rm.units0 hF I.ok.mod.kin J ty.1 ty.2 hs hf ?_
  have hsp : spEqRX X.K C CR [.ref a, y] H (fun v H' => ∃ c, v = .bl c ∧ Q (.bl c) H') E0 := ⟨a, y, t, xs0, ws0, rfl, W1, al, _, rfl, hq⟩
  have e0 : Env0 X.prog X.w X.K X.mg X.base X.A X.stack s H := I.env0
  have hl := F.len _ _ _ _ hsp
  have r2 : Vals [V.ref a, y] [Value.ref a, v] := .cons rfl (.cons ry .nil)
  refine wpAny_call (codeAny_mono (F.run X.A X.stack s H ⟨[.ref a, v], []⟩ [.ref a, v] [.ref a, y] _ E0 rm e0 (by
    have := hb s [.ref a, v] I.kIn (by simpa using hl)
    simpa using this) r2 hsp) fun r s' hq => ?_)
  cases r with
  | error e => exact pass0 pins σ H s e s' I hq
  | ok fl =>
    cases fl with
    | ret w =>
      obtain ⟨z, H', I', rz, c, ez, q⟩ := I.after hq
      subst ez
      cases rz
      exact ⟨.bl c, H', I', rfl, q⟩
    | next => exact False.elim hq
    | brk => exact False.elim hq
    | cont => exact False.elim hq
end
end W11
set_option Elab.async false
set_option linter.all false
set_option maxRecDepth 100000
set_option maxHeartbeats 1000000
namespace W11
open PySem L2 PySem.Spec PyProof.Rows WR WB WE WS
/-! ### lists of lists as data -/
def lld (ws : List (List Int)) : List PyData := ws.map fun w => .list (w.map .int)
def ltd (ws : List (List Int)) : List PyData := ws.map fun w => .tuple (w.map .int)
theorem lay_lld : ∀ ws, PyData.canLayAll0 (lld ws) = true ∧ PyData.depthAll (lld ws) ≤ 2
  | [] => ⟨rfl, by decide⟩
  | w :: r => by
    obtain ⟨h1, h2⟩ := lay_lld r
    obtain ⟨i1, i2⟩ := lay_ints w
    unfold lld at h1 h2 ⊢
    simp [PyData.canLayAll0, PyData.canLay0, PyData.depthAll, PyData.depth, h1, i1, i2]
    omega
theorem lay_ltd : ∀ ws, PyData.canLayAll0 (ltd ws) = true ∧ PyData.depthAll (ltd ws) ≤ 2
  | [] => ⟨rfl, by decide⟩
  | w :: r => by
    obtain ⟨h1, h2⟩ := lay_ltd r
    obtain ⟨i1, i2⟩ := lay_ints w
    unfold ltd at h1 h2 ⊢
    simp [PyData.canLayAll0, PyData.canLay0, PyData.depthAll, PyData.depth, h1, i1, i2]
    omega
theorem shaped_lld (ws : List (List Int)) : SeqAt.shaped (.list (lld ws)) = true := by
  obtain ⟨h1, h2⟩ := lay_lld ws
  simp [SeqAt.shaped, PyData.canLay0, PyData.depth, h1]
  omega
theorem shaped_ltd (ws : List (List Int)) : SeqAt.shaped (.list (ltd ws)) = true := by
  obtain ⟨h1, h2⟩ := lay_ltd ws
  simp [SeqAt.shaped, PyData.canLay0, PyData.depth, h1]
  omega
theorem eqv_lld : ∀ ws us : List (List Int), PyData.eqv (.list (lld ws)) (.list (lld us)) = decide (ws = us)
  | [], [] => rfl
  | [], _ :: _ => rfl
  | _ :: _, [] => rfl
  | w :: r, u :: q => by
    have ih := eqv_lld r q
    have ih : PyData.eqvAll (lld r) (lld q) = decide (r = q) := ih
    show (PyData.eqvAll (w.map .int) (u.map .int) && PyData.eqvAll (lld r) (lld q)) = _
    rw [eqvAll_ints, ih, Bool.eq_iff_iff, Bool.and_eq_true, decide_eq_true_iff, decide_eq_true_iff, decide_eq_true_iff, List.cons.injEq]
theorem eqv_ltd : ∀ ws : List (List Int), PyData.eqv (.list (ltd ws)) (.list (ltd ws)) = true
  | [] => rfl
  | w :: r => by
    have ih : PyData.eqvAll (ltd r) (ltd r) = true := eqv_ltd r
    show (PyData.eqvAll (w.map .int) (w.map .int) && PyData.eqvAll (ltd r) (ltd r)) = true
    rw [eqvAll_ints, ih, decide_eq_true rfl]
    rfl
theorem dp_lls {K : PySem.W.Frag} {H : Hp} {us : List V} {ws : List (List Int)} (h : LLs H us ws) : DpAll K H us (lld ws) := by
  induction h with
  | nil => exact .nil
  | cons h1 _ ih =>
    obtain ⟨q, rfl, hq⟩ := h1
    exact .cons (.lst (SqL.of hq) (dpInts _)) ih
/-- tuples of ints, each bare -/
def LTs (K : PySem.W.Frag) (H : Hp) (us : List V) (ws : List (List Int)) : Prop := All2 (fun v w => ∃ q, v = V.ref q ∧ SqB K H q (iv w)) us ws
theorem dp_lts {K : PySem.W.Frag} {H : Hp} {us : List V} {ws : List (List Int)} (h : LTs K H us ws) : DpAll K H us (ltd ws) := by
  induction h with
  | nil => exact .nil
  | cons h1 _ ih =>
    obtain ⟨q, rfl, hq⟩ := h1
    exact .cons (.tup hq.sq (dpInts _)) ih
/-! ### letters, nexts, numbers, word by word -/
theorem nx_step {ws : List (List Int)} {i : Nat} {w : List Int} (h : ws[i]? = some w) (hw : w ≠ []) : nxF 0 (ws.take (i + 1)) = nxF 0 (ws.take i) ++ ((List.range (w.length - 1)).map fun (t : Nat) => (((ws.take i).flatten.length + 1 + t : Nat) : Int)) ++ [(((ws.take i).flatten.length : Nat) : Int)] := by
  rw [nxF_take h, List.append_assoc]
  congr 1
  obtain ⟨m, hm⟩ : ∃ m, w.length = m + 1 := ⟨w.length - 1, by have := List.length_pos_iff.mpr hw; omega⟩
  rw [hm, List.range_succ, List.map_append]
  congr 1
  · show List.map _ (List.range m) = List.map _ (List.range m)
    refine List.map_congr_left fun t ht => ?_
    have := List.mem_range.mp ht
    rw [Nat.mod_eq_of_lt (by omega)]
    omega
  · show [((_ : Nat) : Int) + (((m + 1) % (m + 1) : Nat) : Int)] = [_]
    rw [Nat.mod_self]
    congr 1
theorem hm_snoc : ∀ (ws : List (List Int)) (w : List Int) (f : Nat), hmF f (ws ++ [w]) = hmF f ws ++ List.replicate w.length ((f + ws.length : Nat) : Int)
  | [], w, f => by simp [hmF]
  | a :: r, w, f => by
    rw [List.cons_append]
    unfold hmF
    rw [hm_snoc r w, List.append_assoc, List.length_cons]
    congr 3
    congr 1
    omega
theorem hm_step {ws : List (List Int)} {i : Nat} {w : List Int} (h : ws[i]? = some w) : hmF 0 (ws.take (i + 1)) = hmF 0 (ws.take i) ++ List.replicate w.length ((i : Nat) : Int) := by
  have hi := (List.getElem?_eq_some_iff.mp h).1
  have e := (List.getElem?_eq_some_iff.mp h).2
  rw [List.take_succ_eq_append_getElem hi, e, hm_snoc, Nat.zero_add, List.length_take, Nat.min_eq_left (by omega)]
theorem fl_step {ws : List (List Int)} {i : Nat} {w : List Int} (h : ws[i]? = some w) : (ws.take (i + 1)).flatten = (ws.take i).flatten ++ w := by
  have hi := (List.getElem?_eq_some_iff.mp h).1
  have e := (List.getElem?_eq_some_iff.mp h).2
  rw [List.take_succ_eq_append_getElem hi, e, flat_snoc]
/-! ### letters that are balanced are even -/
theorem cnt_sum : ∀ (ns : List Int), Lts ns → ((List.range 26).map fun (k : Nat) => ns.count ((k : Int) + 1) + ns.count (-((k : Int) + 1))).sum = ns.length
  | [], _ => by
    simp only [List.count_nil, List.length_nil, Nat.add_zero]
    decide
  | a :: r, h => by
    have ih := cnt_sum r fun x hx => h x (List.mem_cons_of_mem _ hx)
    have ha := h a List.mem_cons_self
    have e : (List.range 26).map (fun (k : Nat) => (a :: r).count ((k : Int) + 1) + (a :: r).count (-((k : Int) + 1))) = (List.range 26).map (fun (k : Nat) => (r.count ((k : Int) + 1) + r.count (-((k : Int) + 1))) + if k = a.natAbs - 1 then 1 else 0) := by
      refine List.map_congr_left fun k hk => ?_
      rw [List.count_cons, List.count_cons]
      by_cases e1 : a = (k : Int) + 1
      · rw [if_pos (beq_iff_eq.mpr e1), if_neg (by rw [beq_iff_eq]; omega), if_pos (by omega)]
        omega
      · by_cases e2 : a = -((k : Int) + 1)
        · rw [if_neg (by rw [beq_iff_eq]; omega), if_pos (beq_iff_eq.mpr e2), if_pos (by omega)]
          omega
        · rw [if_neg (by rw [beq_iff_eq]; omega), if_neg (by rw [beq_iff_eq]; omega), if_neg (by omega)]
          omega
    have s2 : ∀ (f g : Nat → Nat) (l : List Nat), (l.map fun k => f k + g k).sum = (l.map f).sum + (l.map g).sum := by
      intro f g l
      induction l with
      | nil => rfl
      | cons x l ih => simp only [List.map_cons, List.sum_cons, ih]; omega
    have s3 : ∀ m, m < 26 → ((List.range 26).map fun k => if k = m then 1 else 0).sum = 1 := by decide
    rw [e, s2, ih, s3 _ (by omega), List.length_cons]
theorem bal_even {ns : List Int} (hl : Lts ns) (hb : Fr.bal ns = []) : ns.length % 2 = 0 := by
  rw [← cnt_sum ns hl]
  have z : ∀ k : Nat, k < 26 → Fr.cnt ns ((k : Int) + 1) = 0 := by
    unfold Fr.bal at hb
    rw [List.filter_eq_nil_iff] at hb
    intro k hk
    have := hb _ (List.mem_map_of_mem (List.mem_range.mpr hk))
    simpa using this
  have : ∀ l : List Nat, (∀ k ∈ l, k < 26) → ((l.map fun (k : Nat) => ns.count ((k : Int) + 1) + ns.count (-((k : Int) + 1))).sum) % 2 = 0 := by
    intro l h
    induction l with
    | nil => rfl
    | cons x l ih =>
      have i := ih fun k hk => h k (List.mem_cons_of_mem _ hk)
      have zz := z x (h x List.mem_cons_self)
      unfold Fr.cnt at zz
      simp only [List.map_cons, List.sum_cons]
      omega
  exact this _ fun k hk => List.mem_range.mp hk
/-! ### what is made is as it should be -/
theorem call_tupBK {X : Cx} {K : PySem.W.Frag} (h : X.K = K) : CallR X (.type "tuple") (fun xs H Q => ∃ p ys, xs = [.ref p] ∧ ((SqL K H p ys ∧ NewB K H Q ys) ∨ (SqB K H p ys ∧ Q (.ref p) H))) := h ▸ call_tupB
/-- where nothing is raised -/
theorem fn_calm {P : Program} {w : World} {K : PySem.W.Frag} {mg : Str → Option Value} {base : Heap} {k : Nat} {f : Addr} {fd : FuncData} {ps : List Str} {s1 : Sp} (F2 : FnOk P w K mg base (L2.CX P w) k f fd ps s1) : FnOk P w K mg base CX0 k f fd ps (fun vs H Q _ => s1 vs H Q fun _ _ _ => False) := by
  refine ⟨fun vs H Q E h => F2.len vs H Q _ h, fun A outer s H args us vs Q E hr e0 hb r h => ?_⟩
  refine codeAny_mono (F2.run A outer s H args us vs Q _ hr e0 hb r h) fun r s' q => ?_
  match r, q with
  | .ok (.ret u), q => exact q
  | .error e, q =>
    obtain ⟨a, B, H', cls, d, rfl, fl, hok, ub, na, os, ag, hE⟩ := q
    exact hE.elim
structure SMk (P : Program) (w : World) (K : PySem.W.Frag) (mg : Str → Option Value) (base : Heap) (C : Addr) (m : Str) (k : Nat) (ps ks : List Str) (gV : List V → List V) (sp : Sp) : Prop where
  ex : ∃ (mc : Value) (p g : Addr) (fd : FuncData) (gg : List Value → List Value), MStat.SMet K C mc m p g ∧ FnOk P w K mg base CX0 k g fd ps sp ∧ KBn K fd ps 0 ks (fun _ ws => gg ws) (fun _ zs => gV zs)
section
variable {X : Cx} {C : Addr} {o : Expr} {tk : TA} {te : TE} {m : Str} {ps ks : List Str} {gV : List V → List V} {sq : Sp} {apos pos : Pos} {kws : List Keyword} {j k : Nat}
theorem pe_skK {pl : Sem Bool} (M : SMk X.prog X.w X.K X.mg X.base C m k ps ks gV sq) (hr : Room j X.A) (hj : k ≤ j) (he : PE X o te) (hkw : PK X kws tk)
    (hall : (backToKw pos (keywordEach kws X.env)).all (·.1.isSome) = true := by rfl) (hks : (backToKw pos (keywordEach kws X.env)).filterMap (·.1) = ks := by rfl)
    (hpl : ((backTo pos (starEach [] X.env)).any (·.1) || (backToKw pos (keywordEach kws X.env)).any (·.1.isNone)) = false := by rfl)
    (ht : eval (.Call (.Attribute o m apos) [] kws pos) X.env = (do
      let ov ← eval o X.env
      standAt apos.atName
      let (f, first) ← holding [ov] (getMethod ov m pl)
      callWith pos f first (backTo pos (starEach [] X.env)) (backToKw pos (keywordEach kws X.env))) := by rfl) :
    PE X (.Call (.Attribute o m apos) [] kws pos) (MStat.tSMethK C sq gV ks.length te tk) := by
  obtain ⟨mc, p, g, fd, gg, hm, F, hb⟩ := M.ex
  exact MStat.pe_smethK he hm F (hr.mono hj) hb hkw hall hks hpl ht
end
def spRead0 (K : PySem.W.Frag) (C CR CT : Addr) : Sp := fun vs H Q _ => spReadR K C CR CT vs H Q fun _ _ _ => False
theorem HandAt.ne_iv {H : Hp} {a c m : Addr} {n : Nat} {ns : List Int} (h : HandAt H a c n) (hm : H m = some (.lst (iv ns))) : m ≠ a := fun e => by
  obtain ⟨_, i, r, h1, _⟩ := h
  rw [← e, hm] at h1
  cases ns with
  | nil => cases h1
  | cons x t => cases h1
theorem HandAt.ne_refs {H : Hp} {a c p : Addr} {n : Nat} {us : List V} (h : HandAt H a c n) (hp : H p = some (.lst us)) (hr : ∀ v ∈ us, ∃ q, v = V.ref q) : p ≠ a := fun e => by
  obtain ⟨_, i, r, h1, _⟩ := h
  rw [← e, hp] at h1
  injection h1 with h1
  injection h1 with h1
  obtain ⟨q, e2⟩ := hr (.int i) (by rw [h1]; simp)
  cases e2
theorem LLs.refs {H : Hp} {us : List V} {ws : List (List Int)} (h : LLs H us ws) : ∀ v ∈ us, ∃ q, v = V.ref q := fun v hv => by
  obtain ⟨i, hi, e⟩ := List.getElem_of_mem hv
  obtain ⟨w, _, q, e2, _⟩ := h.at (List.getElem?_eq_getElem hi)
  exact ⟨q, by rw [← e, e2]⟩
/-- the heap but for what a holds, and the tables -/
def Kx (a : Addr) (H H' : Hp) : Prop := ∀ b o, H b = some o → b ≠ a → (∀ ps, o ≠ .tbl ps) → H' b = some o
theorem Kx.refl (a : Addr) (H : Hp) : Kx a H H := fun _ _ e _ _ => e
theorem Kx.trans {a : Addr} {H H1 H2 : Hp} (h : Kx a H H1) (h' : Kx a H1 H2) : Kx a H H2 := fun b o e n z => h' b o (h b o e n z) n z
theorem Kx.same {a : Addr} {H H' : Hp} (s : Same H H') : Kx a H H' := fun b o e _ _ => s b o e
theorem Kx.ext {a : Addr} {H H' : Hp} (s : LamX.ExtN H H') : Kx a H H' := fun b o e _ z => s b o e z
theorem Kx.kept {a : Addr} {H H' : Hp} (s : Kept a H H') : Kx a H H' := fun b o e n _ => s b o n e
theorem Kx.lst {a c p : Addr} {n : Nat} {H H' : Hp} {ns : List Int} (k : Kx a H H') (hH : HandAt H a c n) (h : H p = some (.lst (iv ns))) : H' p = some (.lst (iv ns)) := k _ _ h (hH.ne_iv h) fun ps z => by cases z
theorem Kx.refs {a c p : Addr} {n : Nat} {H H' : Hp} {us : List V} {ws : List (List Int)} (k : Kx a H H') (hH : HandAt H a c n) (h : H p = some (.lst us)) (hu : LLs H us ws) : H' p = some (.lst us) ∧ LLs H' us ws :=
  ⟨k _ _ h (hH.ne_refs h hu.refs) (fun ps z => by cases z), hu.imp (fun v w ⟨q, e, hq⟩ => ⟨q, e, k.lst hH hq⟩)⟩
theorem units40 {j : Nat} {A : Around} (hr : Room j A) : A.units + 40 < cLine := by
  have := hr.units
  omega
structure TX (mg : Str → Option Value) : Prop where
  bool : mg "bool" = none
  str : mg "str" = none
  all : mg "all" = none
theorem RimsAt.keptL {K : PySem.W.Frag} {C CR : Addr} {H H' : Hp} {l p : Addr} {vs : List V} {xs : List Addr} {ws : List (List Int)} (hl : H l = some (.lst vs)) (d : Kept l H H') (h : RimsAt K C CR H p xs ws) : RimsAt K C CR H' p xs ws := by
  obtain ⟨d2, tw, tl, th, tn, r1, r2, r3, r4, r5, r6⟩ := h
  exact ⟨d2, tw, tl, th, tn, d _ _ (fun z => by rw [z, hl] at r1; cases r1) r1, SqB.keptL hl d r2, r3.imp (fun a ns wa => wa.keptL hl d), SqB.keptL hl d r4, SqB.keptL hl d r5, SqB.keptL hl d r6⟩
theorem Wds.keptL {K : PySem.W.Frag} {C : Addr} {H H' : Hp} {l : Addr} {vs : List V} {xs : List Addr} {ws : List (List Int)} (hl : H l = some (.lst vs)) (d : Kept l H H') (h : Wds K C H xs ws) : Wds K C H' xs ws := h.imp fun a ns wa => wa.keptL hl d
theorem cat_n {a b : Addr} {xs ys : List V} {H : Hp} {Q : VK} (h1 : H a = some (.lst xs)) (h2 : H b = some (.lst ys)) (hz : xs.length + ys.length ≤ 10000) (k : ∀ r H', H r = none → Same H H' → H' r = some (.lst (xs ++ ys)) → Q (.ref r) H') : rCat (.ref a) (.ref b) H Q :=
  ⟨a, b, xs, ys, rfl, rfl, h1, h2, Evl.sz_of (by omega), fun r hr => k r _ hr (same_upd hr) upd_same⟩
theorem rep_fl1 (x : V) : ∀ n : Nat, (List.replicate n [x]).flatten = List.replicate n x
  | 0 => rfl
  | n + 1 => by rw [List.replicate_succ, List.flatten_cons, rep_fl1 x n, List.replicate_succ]; rfl
theorem rep_one {a : Addr} {x : V} {n : Nat} {H : Hp} {Q : VK} (h : H a = some (.lst [x])) (hz : n ≤ 1000) (k : ∀ r H', H r = none → Same H H' → H' r = some (.lst (List.replicate n x)) → Q (.ref r) H') : rRep (.ref a) (.int (n : Int)) H Q := by
  refine ⟨a, (n : Int), [x], rfl, rfl, h, by omega, by omega, ?_, fun r hr => ?_⟩
  · rw [Int.toNat_natCast]
    exact Nat.le_trans (show 1 * n ≤ 1000 by omega) (by decide)
  · refine k r _ hr (same_upd hr) ?_
    rw [upd_same, Int.toNat_natCast]
    rw [rep_fl1]
theorem op_lc2 {r : R2} {wi wi2 : TI} {g g2 : TG} {tt tt2 : TT} {te te2 : TE} {vs vs2 : List Nat} {σ : L2.St} {H : Hp} {Q : VK}
    (h : wi σ H fun J H1 => tLc (fun _ H R => R J H) g tt te vs σ H1 fun x H2 => wi2 σ H2 fun J2 H3 => tLc (fun _ H R => R J2 H) g2 tt2 te2 vs2 σ H3 fun y H4 => r x y H4 Q) : tOp r (tLc wi g tt te vs) (tLc wi2 g2 tt2 te2 vs2) σ H Q := h
theorem ts_op_lc2 {r : R2} {wi wi2 : TI} {g g2 : TG} {tt tt2 : TT} {te te2 : TE} {vs vs2 : List Nat} {σ : L2.St} {H : Hp} {Q : Bool → Hp → Prop}
    (h : wi σ H fun J H1 => tLc (fun _ H R => R J H) g tt te vs σ H1 fun x H2 => wi2 σ H2 fun J2 H3 => tLc (fun _ H R => R J2 H) g2 tt2 te2 vs2 σ H3 fun y H4 => r x y H4 fun v H5 => ∃ k, v = .bl k ∧ Q k H5) : tTest (tOp r (tLc wi g tt te vs) (tLc wi2 g2 tt2 te2 vs2)) σ H Q := h
theorem ts_op_lc {r : R2} {wi : TI} {g : TG} {tt : TT} {te tb : TE} {vs : List Nat} {σ : L2.St} {H : Hp} {Q : Bool → Hp → Prop}
    (h : wi σ H fun J H1 => tLc (fun _ H R => R J H) g tt te vs σ H1 fun x H2 => tb σ H2 fun y H3 => r x y H3 fun v H4 => ∃ k, v = .bl k ∧ Q k H4) : tTest (tOp r (tLc wi g tt te vs) tb) σ H Q := h
theorem nx_or_op_lc {r : R2} {wi : TI} {g : TG} {tt : TT} {te tb : TE} {vs : List Nat} {rest : TT} {A B Cc : TS} {D : Ends} {σ : L2.St} {H : Hp} {b1 b2 : L2.St → Hp → Prop} {rt : VK}
    (h : wi σ H fun J H1 => tLc (fun _ H R => R J H) g tt te vs σ H1 fun x H2 => tb σ H2 fun y H3 => r x y H3 fun v H4 => ∃ k, v = .bl k ∧ if k = true then (if true = true then A { D with nx := Cc D } σ H4 else B { D with nx := Cc D } σ H4) else rest σ H4 fun c H5 => if c = true then A { D with nx := Cc D } σ H5 else B { D with nx := Cc D } σ H5) :
    tNext { nx := tSeq (tIfS (tOr (tTest (tOp r (tLc wi g tt te vs) tb)) rest) A B) Cc D, rt := rt, bk := b1, ct := b2 } σ H := h
theorem word_let {K : PySem.W.Frag} {C : Addr} {H : Hp} {p : Addr} {ns : List Int} (h : WordAt K C H p ns) : ∃ dx tl fs, H p = some (.ins C dx fs) ∧ fs.lookup ("letters" : Str) = some (.ref tl) ∧ SqB K H tl (iv ns) := by
  obtain ⟨dx, tl, tk, ks, h1, h2, _⟩ := h
  exact ⟨dx, tl, _, h1, wf_letters, h2⟩
theorem fm_get {α : Type} (l : List α) : (List.range l.length).filterMap (fun i => l[i]?) = l := by
  refine List.ext_getElem? fun j => ?_
  have e : ∀ m, m ≤ l.length → (List.range m).filterMap (fun i => l[i]?) = l.take m := by
    intro m
    induction m with
    | zero => intro _; rfl
    | succ m ih =>
      intro hm
      rw [List.range_succ, List.filterMap_append, ih (by omega), List.filterMap_cons, List.getElem?_eq_getElem (show m < l.length by omega)]
      rw [List.take_succ_eq_append_getElem (show m < l.length by omega)]
      rfl
  rw [e _ (Nat.le_refl _), List.take_length]
theorem eqv_il (ns ms : List Int) : PyData.eqv (.list (ns.map .int)) (.list (ms.map .int)) = decide (ns = ms) := eqvAll_ints ns ms
theorem glue_mem {c x : Nat} : ∀ {ps : List (List Nat)}, x ∈ MText.glue c ps → x = c ∨ ∃ p ∈ ps, x ∈ p
  | [], h => nomatch h
  | [a], h => .inr ⟨a, List.mem_cons_self, h⟩
  | a :: b :: r, h => by
    have h : x ∈ a ++ c :: MText.glue c (b :: r) := h
    rcases List.mem_append.mp h with h | h
    · exact .inr ⟨a, List.mem_cons_self, h⟩
    · rcases List.mem_cons.mp h with h | h
      · exact .inl h
      · rcases glue_mem h with h | ⟨p, hp, h⟩
        · exact .inl h
        · exact .inr ⟨p, List.mem_cons_of_mem _ hp, h⟩
theorem join_le (s : Str) : ∀ xs : List Str, (Txt.join s xs).length ≤ (xs.map (·.length)).sum + xs.length * s.length := by
  intro xs
  have h : ∀ xs : List Str, (Txt.join s xs).cps.toList.length ≤ (xs.map (·.length)).sum + xs.length * s.length := by
    intro xs
    induction xs with
    | nil =>
      show (Builtin.Str.glued s []).cps.toList.length ≤ _
      rw [StrLaws.glued_eq_join]
      exact Nat.zero_le _
    | cons a r ih =>
      cases r with
      | nil =>
        have e : (Txt.join s [a]).cps.toList = a.cps.toList := by
          show (Builtin.Str.glued s [a]).cps.toList = _
          rw [StrLaws.glued_eq_join]
          rfl
        rw [e, len_cps]
        simp
      | cons b r =>
        rw [join_cons, List.length_append, List.length_append, len_cps, len_cps]
        simp only [List.map_cons, List.sum_cons, List.length_cons, Nat.add_mul] at ih ⊢
        omega
  rw [← len_cps]
  exact h xs
theorem op_lc {r : R2} {wi : TI} {g : TG} {tt : TT} {te tb : TE} {vs : List Nat} {σ : L2.St} {H : Hp} {Q : VK}
    (h : wi σ H fun J H1 => tLc (fun _ H R => R J H) g tt te vs σ H1 fun x H2 => tb σ H2 fun y H3 => r x y H3 Q) : tOp r (tLc wi g tt te vs) tb σ H Q := h
/-! ### what is told is read -/
theorem rgo_word {rs : List (List Int)} : ∀ (w : List Int) (rest : List Str) (i : Nat) (cur : List Int), Lts w → rs.flatten.length + cur.length + w.length ≤ 24 → rgo i rs cur (w.map itm ++ rest) = rgo (i + w.length) rs (cur ++ w) rest
  | [], rest, i, cur, _, _ => by simp
  | a :: w, rest, i, cur, hl, h => by
    have ha := hl a List.mem_cons_self
    rw [List.length_cons] at h
    rw [List.map_cons, List.cons_append, rgo_some (by omega) (lof_itm ha.1 ha.2), rgo_word w rest (i + 1) (cur ++ [a]) (fun x hx => hl x (List.mem_cons_of_mem _ hx)) (by rw [List.length_append]; show _ + (_ + 1) + _ ≤ 24; omega), List.append_assoc, List.length_cons]
    congr 1
    omega
theorem rgo_slw : ∀ (r : List (List Int)) (rs : List (List Int)) (cur : List Int) (i : Nat), cur ≠ [] → (∀ w ∈ r, w ≠ []) → Lts r.flatten → rs.length + r.length ≤ 3 → rs.flatten.length + cur.length + r.flatten.length ≤ 24 → ∃ rs' cur', rgo i rs cur ((r.map fun u => slashS :: u.map itm).flatten) = .inr (rs', cur') ∧ rs' ++ [cur'] = rs ++ cur :: r ∧ cur' ≠ []
  | [], rs, cur, i, hc, _, _, _, _ => ⟨rs, cur, rfl, rfl, hc⟩
  | u :: r, rs, cur, i, hc, hne, hl, h3, h24 => by
    have hu := hne u List.mem_cons_self
    have up := List.length_pos_iff.mpr hu
    rw [List.flatten_cons, List.length_append] at h24
    rw [List.length_cons] at h3
    have hlu : Lts u := fun x hx => hl x (by rw [List.flatten_cons]; exact List.mem_append_left _ hx)
    have hlr : Lts r.flatten := fun x hx => hl x (by rw [List.flatten_cons]; exact List.mem_append_right _ hx)
    obtain ⟨rs', cur', e1, e2, e3⟩ := rgo_slw r (rs ++ [cur]) u (i + 1 + u.length) hu (fun w hw => hne w (List.mem_cons_of_mem _ hw)) hlr (by rw [List.length_append]; show _ + 1 + _ ≤ 3; omega) (by rw [flat_snoc, List.length_append]; omega)
    refine ⟨rs', cur', ?_, by rw [e2]; simp, e3⟩
    rw [List.map_cons, List.flatten_cons, List.cons_append, rgo_cut (by omega) (by decide) ⟨rfl, hc, by omega⟩, rgo_word u _ (i + 1) [] hlu (by rw [flat_snoc, List.length_append]; show _ + 0 + _ ≤ 24; omega), List.nil_append]
    exact e1
theorem slw_mem : ∀ {ws : List (List Int)} {x : Str}, x ∈ slw ws → x = slashS ∨ ∃ i ∈ ws.flatten, x = itm i
  | [], _, h => nomatch h
  | w :: r, x, h => by
    rcases List.mem_append.mp h with h | h
    · obtain ⟨i, hi, e⟩ := List.mem_map.mp h
      exact .inr ⟨i, by rw [List.flatten_cons]; exact List.mem_append_left _ hi, e.symm⟩
    · obtain ⟨l, hl, hx⟩ := List.mem_flatten.mp h
      obtain ⟨u, hu, rfl⟩ := List.mem_map.mp hl
      rcases List.mem_cons.mp hx with e | hx
      · exact .inl e
      · obtain ⟨i, hi, e⟩ := List.mem_map.mp hx
        exact .inr ⟨i, by rw [List.flatten_cons]; exact List.mem_append_right _ (List.mem_flatten.mpr ⟨u, hu, hi⟩), e.symm⟩
theorem itm_cps {i : Int} (h1 : 1 ≤ i.natAbs) (h2 : i.natAbs ≤ 26) {z : Nat} (h : z ∈ (itm i).cps.toList) : z ≠ 32 ∧ z < 128 := by
  unfold itm at h
  split at h
  · have : z = 96 + i.natAbs := by simpa using h
    omega
  · have : z = 96 + i.natAbs ∨ z = 39 := by simpa using h
    omega
theorem slw_cps {ws : List (List Int)} (hl : Lts ws.flatten) {x : Str} (hx : x ∈ slw ws) {z : Nat} (hz : z ∈ x.cps.toList) : z ≠ 32 ∧ z < 128 := by
  rcases slw_mem hx with rfl | ⟨i, hi, rfl⟩
  · have : z = 47 := by simpa using hz
    omega
  · exact itm_cps (hl i hi).1 (hl i hi).2 hz
theorem slw_ne {ws : List (List Int)} (h1 : 1 ≤ ws.length) (hne : ∀ w ∈ ws, w ≠ []) : slw ws ≠ [] := by
  cases ws with
  | nil => exact absurd h1 (by decide)
  | cons w r =>
    have := hne w List.mem_cons_self
    cases w with
    | nil => exact absurd rfl this
    | cons a w => exact fun z => nomatch z
theorem told_read {ws : List (List Int)} (ok : RimOk ws) : sp (txtR ws) = slw ws ∧ rimsPl (slw ws) = none ∧ rowsOf (slw ws) = ws ∧ Fit (txtR ws) := by
  obtain ⟨l1, l4, hne, l24, hl, hb⟩ := ok
  have w0 : ws ≠ [] := fun e => by rw [e] at l1; exact absurd l1 (by decide)
  have e0 := rims_text w0 hne
  refine ⟨?_, ?_⟩
  · unfold sp
    rw [← e0]
    exact MText.split_join (by decide) (slw_ne l1 hne) fun x hx z hz => (slw_cps hl hx hz).1
  · cases ws with
    | nil => exact absurd rfl w0
    | cons w r =>
      rw [List.flatten_cons, List.length_append] at l24
      rw [List.length_cons] at l4
      have hw := hne w List.mem_cons_self
      have hlw : Lts w := fun x hx => hl x (by rw [List.flatten_cons]; exact List.mem_append_left _ hx)
      have hlr : Lts r.flatten := fun x hx => hl x (by rw [List.flatten_cons]; exact List.mem_append_right _ hx)
      obtain ⟨rs', cur', e1, e2, e3⟩ := rgo_slw r [] w (0 + w.length) hw (fun u hu => hne u (List.mem_cons_of_mem _ hu)) hlr (by show 0 + _ ≤ 3; omega) (by show 0 + _ + _ ≤ 24; omega)
      have e4 : rgo 0 [] [] (slw (w :: r)) = .inr (rs', cur') := by
        show rgo 0 [] [] (w.map itm ++ (r.map fun u => slashS :: u.map itm).flatten) = _
        rw [rgo_word w _ 0 [] hlw (by show 0 + 0 + _ ≤ 24; omega), List.nil_append]
        exact e1
      rw [List.nil_append] at e2
      refine ⟨by rw [rimsPl_r e4, if_neg e3, e2, if_pos hb], by rw [rowsOf_r e4, e2], fun z hz => ?_, ?_⟩
      · rw [← e0, MText.join_glue] at hz
        rcases glue_mem hz with rfl | ⟨x, hx, hz⟩
        · decide
        · obtain ⟨y, hy, rfl⟩ := List.mem_map.mp hx
          exact (slw_cps hl hy hz).2
      · have h1 := txts_len (w :: r)
        have h2 : (txtR (w :: r)).length ≤ ((((w :: r).map txt).map (·.length)).sum + ((w :: r).map txt).length * 3) := by
          have := join_le (Str.ofString " / ") ((w :: r).map txt)
          exact this
        rw [List.flatten_cons, List.length_append, List.length_cons] at h1
        rw [List.length_map, List.length_cons] at h2
        omega
/-! ### words that are short round -/
def outS (ws : List (List Int)) (i : Nat) : Option (List Int) := (ws[i]?).bind fun w => if Fr.rnd w = w then none else some w
theorem outS_nil (ws : List (List Int)) : decide ((List.range ws.length).filterMap (outS ws) = []) = ws.all fun w => decide (Fr.rnd w = w) := by
  have e : (List.range ws.length).filterMap (outS ws) = ws.filterMap fun w => if Fr.rnd w = w then none else some w := by
    have h := List.filterMap_filterMap (f := fun i => ws[i]?) (g := fun w => if Fr.rnd w = w then none else some w) (l := List.range ws.length)
    rw [fm_get] at h
    exact h.symm
  rw [e, Bool.eq_iff_iff, decide_eq_true_iff, List.filterMap_eq_nil_iff, List.all_eq_true]
  constructor
  · intro h w hw
    have := h w hw
    split at this
    · rename_i e
      exact decide_eq_true e
    · cases this
  · intro h w hw
    exact if_pos (of_decide_eq_true (h w hw))
theorem cut_last {xs : List V} {y : V} : cutV (xs ++ [y]) none (some (-1)) = xs := by
  have e : HT.sIx (xs ++ [y]).length (xs ++ [y]).length (some (-1)) = xs.length := by
    unfold HT.sIx
    simp
    omega
  unfold cutV
  rw [e, HT.sIx_none, List.drop_zero, Nat.sub_zero, List.take_left]
theorem cut_tail {xs : List V} : cutV xs (some 1) none = xs.drop 1 := by
  unfold cutV
  have e : HT.sIx xs.length 0 (some 1) = min 1 xs.length := HT.sIx_nat ..
  rw [e, HT.sIx_none, ← List.length_drop]
  cases xs with
  | nil => rfl
  | cons a r => simp
theorem cut_head {xs : List V} : cutV xs none (some 1) = xs.take 1 := by
  have := cut_till (xs := xs) (c := 1)
  rw [show ((1 : Nat) : Int) = 1 from rfl] at this
  rw [this]
  cases xs with
  | nil => rfl
  | cons a r => simp
theorem rot_ok {ws : List (List Int)} (ok : RimOk ws) : RimOk (ws.drop 1 ++ ws.take 1) := by
  obtain ⟨l1, l4, hne, l24, hl, hb⟩ := ok
  have pm : (ws.drop 1 ++ ws.take 1).Perm ws := by
    have := (List.perm_append_comm (l₁ := ws.drop 1) (l₂ := ws.take 1))
    rw [List.take_append_drop] at this
    exact this
  have pf := pm.flatten
  refine ⟨by rw [pm.length_eq]; exact l1, by rw [pm.length_eq]; exact l4, fun w hw => hne w (pm.mem_iff.mp hw), by rw [pf.length_eq]; exact l24, fun x hx => hl x (pf.mem_iff.mp hx), ?_⟩
  rw [← hb]
  exact Fr.bal_congr fun k => by unfold Fr.cnt; rw [pf.count_eq, pf.count_eq]
theorem nx_or_op {r : R2} {ta tb : TE} {rest : TT} {A B Cc : TS} {D : Ends} {σ : L2.St} {H : Hp} {b1 b2 : L2.St → Hp → Prop} {rt : VK}
    (h : ta σ H fun x H2 => tb σ H2 fun y H3 => r x y H3 fun v H4 => ∃ k, v = .bl k ∧ if k = true then (if true = true then A { D with nx := Cc D } σ H4 else B { D with nx := Cc D } σ H4) else rest σ H4 fun c H5 => if c = true then A { D with nx := Cc D } σ H5 else B { D with nx := Cc D } σ H5) :
    tNext { nx := tSeq (tIfS (tOr (tTest (tOp r ta tb)) rest) A B) Cc D, rt := rt, bk := b1, ct := b2 } σ H := h
theorem ts_op {r : R2} {ta tb : TE} {σ : L2.St} {H : Hp} {Q : Bool → Hp → Prop} (h : ta σ H fun x H1 => tb σ H1 fun y H2 => r x y H2 fun v H3 => ∃ k, v = .bl k ∧ Q k H3) : tTest (tOp r ta tb) σ H Q := h
theorem op_in {r : R2} {ta tb : TE} {σ : L2.St} {H : Hp} {Q : VK} (h : ta σ H fun x H1 => tb σ H1 fun y H2 => r x y H2 Q) : tOp r ta tb σ H Q := h
theorem op_mk_lc {r : R2} {C : Addr} {sq : Sp} {wi : TI} {g : TG} {tt : TT} {te tb : TE} {vs : List Nat} {σ : L2.St} {H : Hp} {Q : VK}
    (h : wi σ H fun J H1 => tLc (fun _ H R => R J H) g tt te vs σ H1 fun y H2 => tMake C sq [] E0 (fun _ H Q => Q [y] H) σ H2 fun x H3 => tb σ H3 fun z H4 => r x z H4 Q) : tOp r (tMake C sq [] E0 (tCons (tLc wi g tt te vs) tNil)) tb σ H Q := h
theorem all2_drop {α β : Type} {R : α → β → Prop} {as : List α} {bs : List β} (h : All2 R as bs) (n : Nat) : All2 R (as.drop n) (bs.drop n) := by
  induction h generalizing n with
  | nil => simpa using All2.nil
  | cons h1 h2 ih =>
    cases n with
    | zero => exact .cons h1 h2
    | succ n => exact ih n
theorem all2_take {α β : Type} {R : α → β → Prop} {as : List α} {bs : List β} (h : All2 R as bs) (n : Nat) : All2 R (as.take n) (bs.take n) := by
  induction h generalizing n with
  | nil => simpa using All2.nil
  | cons h1 h2 ih =>
    cases n with
    | zero => exact .nil
    | succ n => exact .cons h1 (ih n)
theorem rimAB : RimOk [[1, -1]] := by
  unfold RimOk Lts
  decide +kernel
theorem rimBA : RimOk [[-1, 1]] := by
  unfold RimOk Lts
  decide +kernel
theorem ltsAB : Lts [1, -1] := by
  unfold Lts
  decide
theorem ltsBA : Lts [-1, 1] := by
  unfold Lts
  decide
theorem HandAt.lst {H : Hp} {a c : Addr} {n : Nat} (h : HandAt H a c n) : ∃ xs, H a = some (.lst xs) := by
  obtain ⟨ns, i, r, h1, _⟩ := h
  exact ⟨_, h1⟩
theorem deep_dps : ∀ ds : List (Str × Str), PyData.depthAll (dps ds) ≤ 2
  | [] => by decide
  | (a, b) :: r => by
    have ih := deep_dps r
    unfold dps at ih ⊢
    simp [PyData.depthAll, PyData.depth]
    omega
theorem shaped_dps {ds : List (Str × Str)} (h : ∀ d ∈ ds, PyData.canLay0 (.str d.1) = true ∧ PyData.canLay0 (.str d.2) = true) : SeqAt.shaped (.list (dps ds)) = true := by
  have h1 := dps_lay ds h
  have h2 := deep_dps ds
  simp [SeqAt.shaped, PyData.canLay0, PyData.depth, h1]
  omega
theorem place_lay : PyData.canLay0 (.str (Str.ofString "place")) = true := by decide +kernel
/-- what is known of Word and Rims -/
structure RimO (P : Program) (w : World) (K : PySem.W.Frag) (mg : Str → Option Value) (base : Heap) (C CR CT : Addr) : Prop where
  T : TxW K mg C
  TC : TxRC K mg CR
  MW : MkW P w K mg base C
  MR : MkR P w K mg base C CR
  MK : MkRK P w K mg base C CR
  ER : EqR P w K mg base C CR
  EX : EqRX P w K mg base C CR
  OX : TxOR K CR
  rn : PySem.W.findIn K (.ref CR) "__ne__" = some (some (.builtin "object.__ne__"))
  nxt : MethK P w K mg base CR "next" ["self", "place"] ["place"] (spNextR K C CR (nxF 0))
  rim : MethK P w K mg base CR "rim_of" ["self", "place"] ["place"] (spNextR K C CR (hmF 0))
  str : MStr.Spe P w K mg base CR "__str__" 5 (spStrR K C CR)
  rd : SMk P w K mg base CR "read" 6 ["text"] ["text"] (fun zs => zs) (spRead0 K C CR CT)
end W11
set_option Elab.async false
set_option linter.all false
set_option maxRecDepth 100000
set_option maxHeartbeats 1000000
namespace W11
open PySem L2 PySem.Spec PyProof.Rows WR WB WE WS
abbrev sMR : Stmt := top 56
abbrev nMR : List Str := ["_law_pen_here", "_law_words", "_law_passed", "_law_rims", "_law_letters", "_law_nexts", "_law_numbers", "_law_number", "_law_word", "_law_turned", "_law_none", "_law_heard_here", "_law_place"]
theorem scMR : FnScope nMR ["_law_pen_here", "_law_words"] (defScope sMR) := ⟨rfl, rfl, rfl, by decide +kernel, rfl, by decide +kernel, by decide +kernel⟩
abbrev qMR : Str := ("_law_made_right" : Str) ++ ".<locals>." ++ "<lambda>"
def spMR (T : List (Addr × Str)) : Sp := fun vs H Q _ => ∃ (a c p : Addr) (us : List V) (ws : List (List Int)) (n : Nat), vs = [.ref a, .ref p] ∧ HandAt H a c n ∧ n ≤ 6000 ∧ H p = some (.lst us) ∧ LLs H us ws ∧ RimOk ws ∧ LamX.Tabs T H ∧
  ∀ H', Kx a H H' → HandAt H' a c (n + 1) → LamX.Tabs T H' → Q (.bl true) H'
section
variable {P : Program} {w : World} {K : PySem.W.Frag} {mg : Str → Option Value} {base : Heap} {C CR CBW CTM CUB CT CNP CH : Addr}
set_option maxHeartbeats 4000000 in
theorem ok_MR {f cd P1 g fNx fRi : Addr} {fd fdNx fdRi : FuncData} {TT : List (Addr × Str)} (F : FunC K "_law_made_right" sMR f cd fd) (N : TN mg) (XT : TX mg) (O : RimO P w K mg base C CR CT) (BW : ErrC P w K mg base CBW "BadWord" ["self", "part"] (spI1 "part" CBW)) (TM : ErrC P w K mg base CTM "TooMany" ["self", "what", "most"] (spM2 CTM)) (UB : ErrC P w K mg base CUB "Unbalanced" ["self", "kind"] (spI1 "kind" CUB))
    (ET : ErrT P w K mg base CT "BadText" ["self", "line", "item"] (spI2 CT)) (NP : ErrC P w K mg base CNP "NoPlace" ["self", "value"] (spI1 "value" CNP)) (Z : Five K mg CBW CTM CUB CT CNP CH) (G : HeardK K mg g) (TB : LamX.TabB base mg cd P1) (hT : (P1, qMR) ∈ TT) (hu : ∀ p ∈ TT, p.1 = P1 → p.2 = qMR)
    (mNx : Meth K CR "next" fNx) (FNx : FnOk P w K mg base (L2.CX P w) 5 fNx fdNx ["self", "place"] (spNoPl K C CR CNP)) (bNx : L2.Binds K fdNx ["self", "place"] []) (mRi : Meth K CR "rim_of" fRi) (FRi : FnOk P w K mg base (L2.CX P w) 5 fRi fdRi ["self", "place"] (spNoPl K C CR CNP)) (bRi : L2.Binds K fdRi ["self", "place"] [])
    (G_pick : Cal P w K mg base "_law_pick" 2 ["_law_pen_here", "_law_some"] spPick) (G_text : Cal P w K mg base "_law_text" 2 ["_law_words"] spText) (G_sr : Cal P w K mg base "_law_is_short_round" 1 ["_law_word"] spSR) :
    RG.FnG P w K mg base 8 f fd ["_law_pen_here", "_law_words"] (spMR TT) := by
  refine F.okG scMR (fun vs H Q E h => ?_) (fun A outer s H vs Q E hg hr h => ?_)
  · obtain ⟨a, c, p, us, ws, n, rfl, _⟩ := h
    rfl
  · obtain ⟨a, c, p, us, ws, n, rfl, hH, hn, hp, hu', ok, tT, k⟩ := h
    obtain ⟨oc, od, kV, doc, pm, cdv, ct, an, osl, lk, hcd⟩ := G.ex
    have bG : L2.Binds K (PySem.W.fnOf "_law_heard" "_law_heard" (defArgs sHeard) (defBody sHeard) (defScope sHeard) .none kV doc pm an cdv ct) ["_law_ask"] [] := (fun_mk (st := sHeard) lk hcd G.kp).binds (ps := ["_law_ask"]) fun _ _ _ _ _ _ us hl => match us, hl with | [_], _ => rfl
    refine ⟨_, pss_cons (ps_setLc (i := 2) (own := [("_law_word", 8)]) (g := gName 8) (tt := tYes) rfl scMR.nd rfl rfl (sw_true rfl rfl rfl (by decide +kernel)) (pi_list (pv 1)) (blkOk_by (N := nMR) (sc := defScope sMR) (by decide +kernel)) (fun _ _ _ _ _ => pg_name (i := 8) scMR.nd rfl (Or.inl rfl)) (fun _ _ _ _ _ => pts_nil) (fun _ _ _ _ _ => by exact pe_wordK (K := K) rfl O.MW O.T hr (by decide) (by rfl) (pa_cons (pv 8) pa_nil)))
      (pss_cons (ps_set (i := 3) scMR.nd rfl (Or.inr rfl) (pe_mkRK O.MK O.TC hr (by decide) (by rfl) (pk_cons (pv 2) pk_nil)))
      (pss_cons (ps_expr (pe_bm PySem.F.plainAttrs_list PySem.F.slot_list_append PySem.F.type_list_append mt_append (pv 2) (pa_cons pe_str pa_nil)))
      (pss_cons (ps_par3 (i := 4) (j := 5) (l := 6) (by rfl) scMR.nd rfl rfl rfl (by decide) (by decide) (by decide) rfl rfl rfl (pa_cons (pe_lst pa_nil) (pa_cons (pe_lst pa_nil) (pa_cons (pe_lst pa_nil) pa_nil))) (by rfl))
      (pss_cons (ps_for PassesOwn.never rfl (pi_enum (by rfl) N.enumerate (pa_cons (pv 1) pa_nil)) (pg_tup (n := 2) rfl (pgs_cons (pg_name (i := 7) scMR.nd rfl (Or.inl rfl)) (pgs_cons (pg_name (i := 8) scMR.nd rfl (Or.inl rfl)) pgs_nil)))
      (pss_cons (ps_set (i := 5) scMR.nd rfl (Or.inl rfl) (pe_op op_cat (pe_op op_cat (pv 5) (pe_listRg rfl (by rfl) N.list (prg_2 (by rfl) N.range (pe_op op_add (pe_callB call_len_seq (by rfl) N.len PySem.boot_len (pa_cons (pv 4) pa_nil)) pe_int) (pe_op op_add (pe_callB call_len_seq (by rfl) N.len PySem.boot_len (pa_cons (pv 4) pa_nil)) (pe_callB call_len_seq (by rfl) N.len PySem.boot_len (pa_cons (pv 8) pa_nil)))))) (pe_lst (pa_cons (pe_callB call_len_seq (by rfl) N.len PySem.boot_len (pa_cons (pv 4) pa_nil)) pa_nil))))
      (pss_one (ps_par (i := 4) (j := 6) (by rfl) scMR.nd rfl rfl (by decide) rfl rfl (pa_cons (pe_op op_cat (pv 4) (pv 8)) (pa_cons (pe_op op_cat (pv 6) (pe_op op_rep (pe_lst (pa_cons (pv 7) pa_nil)) (pe_callB call_len_seq (by rfl) N.len PySem.boot_len (pa_cons (pv 8) pa_nil)))) pa_nil)) (by rfl)))))
      (pss_cons (ps_if (PW.pt (pw_or (pt_not (pt_val (pe_callB call_isi (by rfl) N.isinstance (by decide +kernel) (pa_cons (pe_fld (pv 3) rfl) (pa_cons (pe_bltn (v := .ty "tuple") (by rfl) N.tuple (by decide +kernel) rfl) pa_nil))))) (pw_or1 (pt_cmpR (op_neD hr.units) (pe_lc (own := [("_law_word", 8)]) (g := gName 8) (tt := tYes) rfl scMR.nd (pi_tup (pe_fld (pv 3) rfl)) (blkOk_by (N := nMR) (sc := defScope sMR) (by decide +kernel)) (fun _ _ _ _ _ => (pg_name (i := 8) scMR.nd rfl (Or.inl rfl))) (fun _ _ _ _ _ => pts_nil) (fun _ _ _ _ _ => (pe_fldK (K := K) rfl (pv 8) rfl))) (pe_lc (own := [("_law_word", 8)]) (g := gName 8) (tt := tYes) rfl scMR.nd (pi_list (pv 1)) (blkOk_by (N := nMR) (sc := defScope sMR) (by decide +kernel)) (fun _ _ _ _ _ => (pg_name (i := 8) scMR.nd rfl (Or.inl rfl))) (fun _ _ _ _ _ => pts_nil) (fun _ _ _ _ _ => (pe_callTy (call_tupBK (K := K) rfl) (by rfl) N.tuple (by decide +kernel) (pa_cons (pv 8) pa_nil)))) (nomark _))))) (pss_one (ps_ret pe_bl)) pss_nil)
      (pss_cons (ps_if (PW.pt (pw_or (pt_cmpR (op_neD hr.units) (pe_fld (pv 3) rfl) (pe_callTy call_tupB (by rfl) N.tuple (by decide +kernel) (pa_cons (pv 4) pa_nil)) (nomark _)) (pw_or (pt_cmpR op_ne (pe_fld (pv 3) rfl) (pe_callB call_len_seq (by rfl) N.len PySem.boot_len (pa_cons (pv 4) pa_nil)) (nomark _)) (pw_or (pt_cmpR op_ne (pe_op op_mul pe_int (pe_fld (pv 3) rfl)) (pe_callB call_len_seq (by rfl) N.len PySem.boot_len (pa_cons (pv 4) pa_nil)) (nomark _)) (pw_or1 (pt_val (pe_callB call_isi (by rfl) N.isinstance (by decide +kernel) (pa_cons (pe_fld (pv 3) rfl) (pa_cons (pe_bltn (v := .ty "bool") (by rfl) XT.bool (by decide +kernel) rfl) pa_nil))))))))) (pss_one (ps_ret pe_bl)) pss_nil)
      (pss_cons (ps_if (PW.pt (pw_or (pt_cmpR (op_neD hr.units) (pe_lc (own := [("_law_place", 12)]) (g := gName 12) (tt := tYes) rfl scMR.nd (pi_range1 (by rfl) N.range (pa_cons (pe_fld (pv 3) rfl) pa_nil)) (blkOk_by (N := nMR) (sc := defScope sMR) (by decide +kernel)) (fun _ _ _ _ _ => (pg_name (i := 12) scMR.nd rfl (Or.inl rfl))) (fun _ _ _ _ _ => pts_nil) (fun _ _ _ _ _ => (pe_wK' (K := K) rfl O.nxt O.TC.cl hr (by decide) (pv 3) (pk_cons (pv 12) pk_nil)))) (pv 5) (nomark _)) (pw_or1 (pt_cmpR (op_neD hr.units) (pe_lc (own := [("_law_place", 12)]) (g := gName 12) (tt := tYes) rfl scMR.nd (pi_range1 (by rfl) N.range (pa_cons (pe_fld (pv 3) rfl) pa_nil)) (blkOk_by (N := nMR) (sc := defScope sMR) (by decide +kernel)) (fun _ _ _ _ _ => (pg_name (i := 12) scMR.nd rfl (Or.inl rfl))) (fun _ _ _ _ _ => pts_nil) (fun _ _ _ _ _ => (pe_wK' (K := K) rfl O.rim O.TC.cl hr (by decide) (pv 3) (pk_cons (pv 12) pk_nil)))) (pv 6) (nomark _))))) (pss_one (ps_ret pe_bl)) pss_nil)
      (pss_cons (ps_if (PW.pt (pw_or (pt_not (pt_val (pe_callB call_isi (by rfl) N.isinstance (by decide +kernel) (pa_cons (pe_fld (pv 3) rfl) (pa_cons (pe_bltn (v := .ty "bool") (by rfl) XT.bool (by decide +kernel) rfl) pa_nil))))) (pw_or1 (pt_cmpR op_ne (pe_fld (pv 3) rfl) (pe_cmpR (op_eqD hr.units) (pe_lc (own := [("_law_word", 8)]) (g := gName 8) rfl scMR.nd (pi_list (pv 1)) (blkOk_by (N := nMR) (sc := defScope sMR) (by decide +kernel)) (fun _ _ _ _ _ => (pg_name (i := 8) scMR.nd rfl (Or.inl rfl))) (fun _ _ _ _ _ => (pts_one (pt_not (pt_val (pe_cal G_sr hr (by decide) (by rfl) (pa_cons (pv 8) pa_nil)))))) (fun _ _ _ _ _ => (pv 8))) (pe_lst pa_nil) (nomark _)) (nomark _))))) (pss_one (ps_ret pe_bl)) pss_nil)
      (pss_cons (ps_if (PW.pt (pw_or (pt_cmpR op_ne (pe_callTy (MStr.call_strO O.str hr (by decide)) (by rfl) XT.str (by decide +kernel) (pa_cons (pv 3) pa_nil)) (pe_cal G_text hr (by decide) (by rfl) (pa_cons (pv 1) pa_nil)) (nomark _)) (pw_or (pt_cmpR (op_neR O.ER O.rn O.TC.cm hr (by decide)) (pe_skK O.rd hr (by decide) (pe_glob (v := .ref CR) (by rfl) O.TC.mgR rfl) (pk_cons (pe_cal G_text hr (by decide) (by rfl) (pa_cons (pv 1) pa_nil)) pk_nil)) (pv 3) (nomark _)) (pw_or (pt_cmpR (op_neR O.ER O.rn O.TC.cm hr (by decide)) (pv 3) (pe_rims (mg := mg) O.MR O.TC hr (by decide) (by rfl) (pa_cons (pe_callTy call_tupB (by rfl) N.tuple (by decide +kernel) (pa_cons (pe_slice sl_list (pv 2) po_none (po_some (pe_un un_neg pe_int))) pa_nil)) pa_nil)) (nomark _)) (pw_or (pt_cmpR (op_eqRX O.EX O.OX hr (by decide)) (pv 3) (pe_fld (pv 3) rfl) (nomark _)) (pw_or1 (pt_cmpR (op_eqRX O.EX O.OX hr (by decide)) (pv 3) (pe_callTy (MStr.call_strO O.str hr (by decide)) (by rfl) XT.str (by decide +kernel) (pa_cons (pv 3) pa_nil)) (nomark _)))))))) (pss_one (ps_ret pe_bl)) pss_nil)
      (pss_cons (ps_set (i := 9) scMR.nd rfl (Or.inl rfl) (pe_op op_cat (pe_slice sl_list (pv 1) (po_some pe_int) po_none) (pe_slice sl_list (pv 1) po_none (po_some pe_int))))
      (pss_cons (ps_if (PW.pt (pw_or (pt_cmpR op_ne (pe_cmpR (op_eqR O.ER hr (by decide)) (pe_rims (mg := mg) O.MR O.TC hr (by decide) (by rfl) (pa_cons (pe_lc (own := [("_law_word", 8)]) (g := gName 8) (tt := tYes) rfl scMR.nd (pi_list (pv 9)) (blkOk_by (N := nMR) (sc := defScope sMR) (by decide +kernel)) (fun _ _ _ _ _ => pg_name (i := 8) scMR.nd rfl (Or.inl rfl)) (fun _ _ _ _ _ => pts_nil) (fun _ _ _ _ _ => pe_wordK (K := K) rfl O.MW O.T hr (by decide) (by rfl) (pa_cons (pv 8) pa_nil))) pa_nil)) (pv 3) (nomark _)) (pe_cmpR (op_eqD hr.units) (pv 9) (pv 1) (nomark _)) (nomark _)) (pw_or1 (pt_cmpR (op_eqR O.ER hr (by decide)) (pe_rims (mg := mg) O.MR O.TC hr (by decide) (by rfl) (pa_cons (pe_lst (pa_cons (pe_wordK (K := K) rfl O.MW O.T hr (by decide) (by rfl) (pa_cons (pe_lst (pa_cons pe_int (pa_cons (pe_un un_neg pe_int) pa_nil))) pa_nil)) pa_nil)) pa_nil)) (pe_rims (mg := mg) O.MR O.TC hr (by decide) (by rfl) (pa_cons (pe_lst (pa_cons (pe_wordK (K := K) rfl O.MW O.T hr (by decide) (by rfl) (pa_cons (pe_lst (pa_cons (pe_un un_neg pe_int) (pa_cons pe_int pa_nil))) pa_nil)) pa_nil)) pa_nil)) (nomark _))))) (pss_one (ps_ret pe_bl)) pss_nil)
      (pss_cons (ps_set (i := 10) scMR.nd rfl (Or.inr rfl) (pe_cal G_pick hr (by decide) (by rfl) (pa_cons (pv 0) (pa_cons (pe_lst (pa_cons (pe_un un_neg pe_int) (pa_cons (pe_fld (pv 3) rfl) (pa_cons pe_non (pa_cons pe_bl (pa_cons pe_str (pa_cons (pe_lst (pa_cons pe_int pa_nil)) (pa_cons (pe_op op_pow pe_int pe_int) (pa_cons (pe_un un_neg (pe_fld (pv 3) rfl)) pa_nil))))))))) pa_nil))))
      (pss_cons (ps_set (i := 11) scMR.nd rfl (Or.inl rfl) (pe_lst (pa_cons (LamX.pe_lamcall (T := TT) (k := 5) (t := fun E => tMeth CR "next" (spNoPl K C CR CNP) [] E (tVar 3) (tCons (tVar 10) tNil)) (by rfl) G.mg G.kp lk hcd bG scHeard (by rfl) (Or.inl rfl) (heard_gives N BW TM UB ET NP Z hg (hr.mono (by decide))) TB rfl hT hu hr (LamX.lamS_by (sc := defScope sMR) (by decide +kernel)) (by rfl) (fun q cl pm cv ctv => by rfl) (fun A outer s H E f c' hr2 => (pe_meth (pv 3) O.TC.cl mNx FNx hr2 bNx .nil (passes_call (takes_of rfl rfl rfl rfl) (fun _ _ _ _ h => h)) (pa_cons (pv 10) pa_nil)))) (pa_cons (LamD.pe_lamcallD (T := TT) (k := 5) (p1 := "_law_other") (v0 := .int 0) (t := fun E => tMeth CR "rim_of" (spNoPl K C CR CNP) [] E (tVar 3) (tCons (tVar 10) tNil)) (by rfl) G.mg G.kp lk hcd bG scHeard (by rfl) (Or.inl rfl) (heard_gives N BW TM UB ET NP Z hg (hr.mono (by decide))) TB rfl hT hu hr (LamD.lamS1_by (sc := defScope sMR) (by decide +kernel)) (show ("_law_other" : Str) ∉ nMR by decide) (by rfl) pe_int (fun q cl pm cv ctv u t => ⟨_, rfl, rfl⟩) (fun A outer s H E f c' hr2 => (pe_meth (pv 3) O.TC.cl mRi FRi hr2 bRi .nil (passes_call (takes_of rfl rfl rfl rfl) (fun _ _ _ _ h => h)) (pa_cons (pv 10) pa_nil)))) pa_nil))))
      (pss_one (ps_ret (pe_cmpR (op_eqD hr.units) (pv 11) (pe_op op_rep (pe_lst (pa_cons (pe_tup (pa_cons pe_str (pa_cons (pe_callB (RA.call_reprA hg (units40 hr)) (by rfl) N.repr (by decide +kernel) (pa_cons (pv 10) pa_nil)) pa_nil))) pa_nil)) pe_int) (nomark _))))))))))))))))), ?_⟩
    obtain ⟨T, TC, MW, MR, MK, ER, EX, OX, rn, nxt, rim, str, rd⟩ := id O
    obtain ⟨l1, l4, hne, l24, hl, hb⟩ := id ok
    have lu := hu'.length
    have even := bal_even hl hb
    -- the words
    refine as_lc ?_
    refine ⟨_, rfl, p, rfl, ⟨_, SqL.of hp⟩, ?_⟩
    refine lcM (walk_list (K := K) (a := p) (xs := us)) ws (fun _ H v ns => ∃ q, v = V.ref q ∧ WordAt K C H q ns) (fun _ _ _ _ _ ⟨q, e, h⟩ s => ⟨q, e, h.same s⟩) ?_ (by omega) lu (fun H s => SqL.of (s _ _ hp)) ?_ (fun x σ1 H A B k h => gName_mono k h) ?_
    · rintro D2 H5 ws5 o v ns hD5 ⟨q, e, h⟩
      exact ⟨q, e, h.keptL hD5 Kept.upd⟩
    · intro i x u hx hu2 D2 H5 hD2 _ s5 Qy ky
      obtain ⟨u', hu3, q, rfl, hq⟩ := hu'.at hx
      obtain rfl : u' = u := Option.some.inj (hu3.symm.trans hu2)
      have mem := List.mem_of_getElem? hu2
      have hl24 := word_le mem
      refine ⟨rfl, _, rfl, fun xw dxw nx ndx _ => make_at nx ndx (.inl (SqL.of (s5 _ _ hq))) (by omega) (hl.word mem) fun H6 s6 W6 => ?_⟩
      exact ky _ H6 s6 ⟨xw, rfl, W6⟩
    intro P_ H1 vs1 hP s1 g1 r1
    obtain ⟨xs, rfl, W1⟩ := all_word r1
    have lx := W1.length
    refine at_set ?_
    try dsimp only
    -- the rims
    refine ⟨_, rfl, rfl, rfl, fun x dx nx ndx _ => ?_⟩
    refine rims_at nx ndx (.inl (SqL.of g1)) W1 ok fun H2 s2 R2 => ?_
    refine at_set ?_
    try dsimp only
    have g2 := s2 _ _ g1
    refine ⟨_, rfl, .inl ⟨rfl, _, SqL.of g2⟩, P_, _, _, rfl, rfl, g2, Evl.sz_lt (by rw [List.length_map]; omega), ?_⟩
    have R3 : RimsAt K C CR (L2.upd H2 P_ (.lst (xs.map V.ref ++ [.str "spoilt"]))) x xs ws := R2.keptL g2 Kept.upd
    have W3 : Wds K C (L2.upd H2 P_ (.lst (xs.map V.ref ++ [.str "spoilt"]))) xs ws := (W1.same s2).keptL g2 Kept.upd
    have g3 : (L2.upd H2 P_ (.lst (xs.map V.ref ++ [.str "spoilt"]))) P_ = some (.lst (xs.map V.ref ++ [.str "spoilt"])) := upd_same
    have s3 : Same H (L2.upd H2 P_ (.lst (xs.map V.ref ++ [.str "spoilt"]))) := same_put (s1.trans s2) hP
    generalize L2.upd H2 P_ (.lst (xs.map V.ref ++ [.str "spoilt"])) = H3 at R3 W3 g3 s3 ⊢
    clear R2 g2 s2 W1 g1 s1 nx ndx hP
    have hp3 := s3 _ _ hp
    have hu3 := hu'.same s3
    refine ⟨Nat.zero_le _, fun L hL => ?_⟩
    have s4 := same_upd (o := .lst []) hL
    have g4 : (L2.upd H3 L (.lst [])) L = some (.lst []) := upd_same
    obtain ⟨H4, e4⟩ : ∃ H4, H4 = L2.upd H3 L (.lst []) := ⟨_, rfl⟩
    rw [← e4] at s4 g4 ⊢
    refine ⟨Nat.zero_le _, fun Nx hNx => ?_⟩
    have s5 := same_upd (o := .lst []) hNx
    have g5 : (L2.upd H4 Nx (.lst [])) Nx = some (.lst []) := upd_same
    obtain ⟨H5, e5⟩ : ∃ H5, H5 = L2.upd H4 Nx (.lst []) := ⟨_, rfl⟩
    rw [← e5] at s5 g5 ⊢
    refine ⟨Nat.zero_le _, fun Nm hNm => ⟨_, _, _, rfl, ?_⟩⟩
    have s6 := same_upd (o := .lst []) hNm
    have g6 : (L2.upd H5 Nm (.lst [])) Nm = some (.lst []) := upd_same
    obtain ⟨H6, e6⟩ : ∃ H6, H6 = L2.upd H5 Nm (.lst []) := ⟨_, rfl⟩
    rw [← e6] at s6 g6 ⊢
    have s36 := (s4.trans s5).trans s6
    have hp6 := s36 _ _ hp3
    have hu6 := hu3.same s36
    refine ⟨_, rfl, p, _, rfl, SqL.of hp6, ?_⟩
    refine for_it (walk_enum (K := K) (a := p) (xs := us)) (fun i σ H' => ∃ (v7 v8 : Option V) (L Nx Nm : Addr), σ = [some (.ref a), some (.ref p), some (.ref P_), some (.ref x), some (.ref L), some (.ref Nx), some (.ref Nm), v7, v8, none, none, none, none] ∧ Same H3 H' ∧ H' L = some (.lst (iv (ws.take i).flatten)) ∧ H' Nx = some (.lst (iv (nxF 0 (ws.take i)))) ∧ H' Nm = some (.lst (iv (hmF 0 (ws.take i)))))
      ⟨none, none, L, Nx, Nm, rfl, s36, s6 _ _ (s5 _ _ g4), s6 _ _ g5, g6⟩ (fun i σ H' _ ⟨_, _, _, _, _, _, s, _⟩ => SqL.of (s _ _ hp3)) ?_ ?_
    · rintro i y σ H7 H8 hi ⟨v7, v8, L, Nx, Nm, rfl, sm, hL, hN, hM⟩ ⟨T0, xi, yi, rfl, hT0, rfl, hx, hy⟩
      obtain rfl := Option.some.inj hx
      obtain ⟨u, hu2, q, rfl, hq3⟩ := hu3.at hy
      have mem := List.mem_of_getElem? hu2
      have hw := word_le mem
      have hft := flat_take hu2
      have sT := same_upd (o := .tup [.int (i : Int), V.ref q]) hT0
      refine ⟨T0, _, rfl, SqT.of upd_same, rfl, _, _, rfl, _, _, rfl, rfl, ?_⟩
      have hL8 := sT _ _ hL
      have hN8 := sT _ _ hN
      have hM8 := sT _ _ hM
      have hq8 := sT _ _ (sm _ _ hq3)
      generalize L2.upd H7 T0 (.tup [.int (i : Int), V.ref q]) = H8 at sT hL8 hN8 hM8 hq8 ⊢
      refine ⟨_, rfl, _, rfl, L, _, rfl, .inl (SqL.of hL8), _, _, rfl, rfl, _, rfl, L, _, rfl, .inl (SqL.of hL8), _, rfl, q, _, rfl, .inl (SqL.of hq8), _, _, rfl, rfl, ?_⟩
      obtain ⟨m, em⟩ : ∃ m, m = (ws.take i).flatten.length := ⟨_, rfl⟩
      have elm : ((iv (ws.take i).flatten).length : Int) = (m : Int) := by rw [List.length_map, em]
      have elu : ((iv u).length : Int) = (u.length : Int) := by rw [List.length_map]
      have upos := List.length_pos_iff.mpr (hne u mem)
      have eR : rgV (((iv (ws.take i).flatten).length : Int) + 1) (((iv (ws.take i).flatten).length : Int) + ((iv u).length : Int)) = iv ((List.range (u.length - 1)).map fun (t : Nat) => ((m + 1 + t : Nat) : Int)) := by
        rw [elm, elu]
        have := rgV_I (m + 1) (m + u.length)
        rw [show ((m + 1 : Nat) : Int) = (m : Int) + 1 by omega, show ((m + u.length : Nat) : Int) = (m : Int) + (u.length : Int) by omega] at this
        rw [this]
        unfold rgI
        rw [show m + u.length - (m + 1) = u.length - 1 by omega]
      have nxl : (nxF 0 (ws.take i)).length = m := by rw [nxF_len, em]
      have hml : (hmF 0 (ws.take i)).length = m := by rw [hmF_len, em]
      rw [← em] at hft
      refine ⟨_, _, rfl, rfl, RgOk.of_le (by rw [elm]; omega) (by rw [elm, elu]; omega) (by rw [elm]; omega) (by rw [elm, elu]; omega), fun r1 hr1 => ?_⟩
      have s9 := same_upd (o := .lst (rgV (((iv (ws.take i).flatten).length : Int) + 1) (((iv (ws.take i).flatten).length : Int) + ((iv u).length : Int)))) hr1
      refine cat_n (s9 _ _ hN8) upd_same (by rw [eR, List.length_map, nxl, List.length_map, List.length_map, List.length_range]; omega) fun r2 H10 hr2 s10 g10 => ?_
      rw [eR] at g10
      have s8A := s9.trans s10
      have hLA := s8A _ _ hL8
      refine ⟨_, rfl, L, _, rfl, .inl (SqL.of hLA), by show 1 ≤ sizeLine; decide, fun r3 hr3 => ?_⟩
      have sB := same_upd (o := .lst [.int ((iv (ws.take i).flatten).length : Int)]) hr3
      refine cat_n (sB _ _ g10) upd_same (by rw [List.length_append, List.length_map, nxl, List.length_map, List.length_map, List.length_range]; show _ + 1 ≤ _; omega) fun r4 H12 hr4 s12 g12 => ?_
      rw [elm] at g12
      have s8C := (s8A.trans sB).trans s12
      have hLC := s8C _ _ hL8
      have hMC := s8C _ _ hM8
      have hqC := s8C _ _ hq8
      refine ⟨_, rfl, _, rfl, ?_⟩
      refine cat_n hLC hqC (by rw [List.length_map, List.length_map, ← em]; omega) fun r5 H13 hr5 s13 g13 => ?_
      refine ⟨_, rfl, _, rfl, by show 1 ≤ sizeLine; decide, fun r6 hr6 => ?_⟩
      have s14 := same_upd (o := .lst [.int (i : Int)]) hr6
      have s8D := s8C.trans (s13.trans s14)
      refine ⟨_, rfl, q, _, rfl, .inl (SqL.of (s8D _ _ hq8)), ?_⟩
      rw [elu]
      refine rep_one upd_same (by omega) fun r7 H15 hr7 s15 g15 => ?_
      have s8E := s8D.trans s15
      refine cat_n (s8E _ _ hM8) g15 (by rw [List.length_map, hml, List.length_replicate]; omega) fun r8 H16 hr8 s16 g16 => ?_
      refine ⟨_, _, rfl, some (.int (i : Int)), some (.ref q), r5, r4, r8, rfl, ((sm.trans sT).trans s8E).trans s16, ?_, ?_, ?_⟩
      · rw [fl_step hu2]
        have := ((s14.trans s15).trans s16) _ _ g13
        rw [this]
        unfold iv
        rw [List.map_append]
      · rw [nx_step hu2 (hne u mem), ← em]
        have := ((s13.trans s14).trans (s15.trans s16)) _ _ g12
        rw [this]
        unfold iv
        rw [List.map_append, List.map_append]
        rfl
      · rw [hm_step hu2, g16]
        unfold iv
        rw [List.map_append, List.map_replicate]
    · rintro σ H7 ⟨v7, v8, L, Nx, Nm, rfl, sm, hL, hN, hM⟩
      rw [lu, List.take_length] at hL hN hM
      have hp7 := sm _ _ hp3
      have hu7 := hu3.same sm
      have R7 := R3.same sm
      have W7 := W3.same sm
      have g7 := sm _ _ g3
      have s7 := s3.trans sm
      clear hp3 hu3 R3 W3 g3 sm s36 s4 s5 s6 hp6 hu6 g4 g5 g6 e4 e5 e6
      obtain ⟨dx, tw, tl, th, tn, r1, r2, r3, r4, r5, r6⟩ := id R7
      refine ⟨_, rfl, x, CR, dx, _, _, rfl, r1, TC.cl, TC.n1, rf_words, _, _, _, _, true, rfl, .ty _, SqT.tyx r2.sq, kit_ty (by decide +kernel), _, rfl, ?_⟩
      refine iteF ?_
      refine ts_op_lc2 ?_
      refine ⟨_, rfl, x, CR, dx, _, _, rfl, r1, TC.cl, TC.n1, rf_words, tw, rfl, ⟨_, r2.sq⟩, ?_⟩
      refine lcM (walk_tup (K := K) (a := tw) (xs := xs.map V.ref)) ws (fun _ H v w => ∃ q, v = V.ref q ∧ SqB K H q (iv w)) (fun _ _ _ _ _ ⟨q, e, h⟩ s => ⟨q, e, SqB.same s h⟩) (fun _ _ _ _ _ _ hD ⟨q, e, h⟩ => ⟨q, e, SqB.keptL hD Kept.upd h⟩) (by rw [List.length_map]; omega) (by rw [List.length_map]; exact lx) (fun H s => WR.Same.seqT s r2.sq) ?_ (fun x σ1 H A B k h => gName_mono k h) ?_
      · intro j y u hy hu2 D2 H8 hD2 _ s8 Qy ky
        obtain ⟨q, hq, rfl⟩ : ∃ q, xs[j]? = some q ∧ y = V.ref q := by
          rw [List.getElem?_map] at hy
          cases e : xs[j]? with
          | none => rw [e] at hy; cases hy
          | some q => rw [e] at hy; exact ⟨q, rfl, (Option.some.inj hy).symm⟩
        obtain ⟨u', hu3, Wq⟩ := W7.at hq
        obtain rfl : u' = u := Option.some.inj (hu3.symm.trans hu2)
        obtain ⟨dw, tl', fs, w1, w2, w3⟩ := word_let (Wq.same s8)
        exact ⟨rfl, _, rfl, q, C, dw, fs, _, rfl, w1, T.cl, T.nL, w2, ky _ H8 (Same.refl _) ⟨tl', rfl, w3⟩⟩
      intro D1 H8 v1 hD1 s8 g8 lt1
      have hp8 := s8 _ _ hp7
      refine ⟨_, rfl, p, rfl, ⟨_, SqL.of hp8⟩, ?_⟩
      refine lcM (walk_list (K := K) (a := p) (xs := us)) ws (fun _ H v w => ∃ q, v = V.ref q ∧ SqB K H q (iv w)) (fun _ _ _ _ _ ⟨q, e, h⟩ s => ⟨q, e, SqB.same s h⟩) (fun _ _ _ _ _ _ hD ⟨q, e, h⟩ => ⟨q, e, SqB.keptL hD Kept.upd h⟩) (by omega) lu (fun H s => SqL.of (s _ _ hp8)) ?_ (fun x σ1 H A B k h => gName_mono k h) ?_
      · intro j y u hy hu2 D2 H9 hD2 _ s9 Qy ky
        obtain ⟨u', hu3, q, rfl, hq⟩ := hu7.at hy
        obtain rfl : u' = u := Option.some.inj (hu3.symm.trans hu2)
        have hq9 := s9 _ _ (s8 _ _ hq)
        exact ⟨rfl, _, rfl, q, _, rfl, .inl ⟨SqL.of hq9, fun t HA sA BA => ky _ HA sA ⟨t, rfl, BA⟩⟩⟩
      intro D2 H9 v2 hD2 s9 g9 lt2
      have lt1' : LTs K H9 v1 ws := lt1.imp fun _ _ ⟨q, e, h⟩ => ⟨q, e, SqB.same s9 h⟩
      refine ⟨.list (ltd ws), .list (ltd ws), .lst (SqL.of (s9 _ _ g8)) (dp_lts lt1'), .lst (SqL.of g9) (dp_lts lt2), shaped_ltd _, shaped_ltd _, _, rfl, iteF' (by rw [eqv_ltd]; rfl) ?_⟩
      have s79 := s8.trans s9
      have R9 := R7.same s79
      have hL9 := s79 _ _ hL
      have hN9 := s79 _ _ hN
      have hM9 := s79 _ _ hM
      have hp9 := s79 _ _ hp7
      have hu9 := hu7.same s79
      have W9 := W7.same s79
      have g79 := s79 _ _ g7
      have s09 := s7.trans s79
      clear R7 hL hN hM hp7 hu7 W7 g7 s7 hp8 g8 lt1 lt1' lt2 g9 hD1 hD2 s8 s9 s79 r1 r2 r3 r4 r5 r6
      obtain ⟨dx, tw, tl, th, tn, r1, r2, r3, r4, r5, r6⟩ := id R9
      -- letters, many, bands
      refine ⟨_, rfl, x, CR, dx, _, _, rfl, r1, TC.cl, TC.n2, rf_letters, _, rfl, L, _, rfl, .inl ⟨SqL.of hL9, fun t HA sA BA => ?_⟩⟩
      refine ⟨.tuple (ws.flatten.map .int), .tuple (ws.flatten.map .int), .tup (WR.Same.seqT sA r4.sq) (dpInts _), .tup BA.sq (dpInts _), PySem.W.ke_shaped_ints _, PySem.W.ke_shaped_ints _, _, rfl, iteF' (by rw [eqv_ints, decide_eq_true rfl]; rfl) ?_⟩
      have rA := sA _ _ r1
      have hLA := sA _ _ hL9
      refine ⟨_, rfl, x, CR, dx, _, _, rfl, rA, TC.cl, TC.n3, rf_many, _, rfl, L, _, rfl, .inl (SqL.of hLA), rfl, _, rfl, iteF' (by rw [List.length_map, decide_eq_true rfl]; rfl) ?_⟩
      refine ⟨_, rfl, x, CR, dx, _, _, rfl, rA, TC.cl, TC.n4, rf_bands, _, _, rfl, rfl, .inl ⟨by decide, by decide⟩, _, rfl, L, _, rfl, .inl (SqL.of hLA), rfl, _, rfl, ?_⟩
      refine iteF' (by
        have e2 : (2 : Int) * ((ws.flatten.length / 2 : Nat) : Int) = (ws.flatten.length : Int) := by omega
        show (!decide (V.int ((2 : Int) * ((ws.flatten.length / 2 : Nat) : Int)) = V.int ((iv ws.flatten).length : Int))) = false
        rw [e2, List.length_map, decide_eq_true rfl]
        rfl) ?_
      refine ⟨_, rfl, x, CR, dx, _, _, rfl, rA, TC.cl, TC.n4, rf_bands, _, _, _, _, false, rfl, .ty _, (Typ.int _).ty, kit_ty (by decide +kernel), _, rfl, iteF ?_⟩
      have RA := R9.same sA
      have hNA := sA _ _ hN9
      have hMA := sA _ _ hM9
      refine nx_or_op_lc ?_
      refine ⟨_, rfl, x, CR, dx, _, _, rfl, rA, TC.cl, TC.n3, rf_many, _, rfl, by omega, by omega, ?_⟩
      refine lcF (walk_range (lo := 0) (n := ((ws.flatten.length : Nat) : Int).toNat)) (fun i H x H' ⟨e, _⟩ => by rw [e]; exact Same.refl _) (fun i => (nxF 0 ws)[i]?) (fun _ _ v b => v = V.int b) (fun _ _ _ _ _ h _ => h) (fun _ _ _ _ _ _ _ h => h) (by omega) (fun _ _ => trivial) ?_ ?_
      · rintro i y H2 H3 hi s2 ⟨rfl, rfl⟩ D hD _ Qy Qn ky kn
        have hi : i < ws.flatten.length := by omega
        have RA2 := RA.same s2
        obtain ⟨dx2, _, _, _, _, q1, _⟩ := id RA2
        exact ⟨rfl, yes_te ⟨_, rfl, x, dx2, _, rfl, q1, rf_no (by decide +kernel), _, rfl, rfl, x, i, xs, ws, (by show [V.ref x, V.int (0 + (i : Int))] = _; rw [Int.zero_add]), RA2, hi, fun z hz => ky z _ _ hz (Same.refl _) rfl⟩⟩
      intro D HB vB hD sB gB rB
      have eB := all_intz rB
      rw [Int.toNat_natCast, show ws.flatten.length = (nxF 0 ws).length from (nxF_len ws 0).symm, fm_get] at eB
      subst eB
      refine ⟨_, rfl, .list ((nxF 0 ws).map .int), .list ((nxF 0 ws).map .int), .lst (SqL.of gB) (dpInts _), .lst (SqL.of (sB _ _ hNA)) (dpInts _), PySem.W.ke_shaped_ints _, PySem.W.ke_shaped_ints _, _, rfl, iteF' (by rw [eqv_il, decide_eq_true rfl]; rfl) ?_⟩
      have hMB := sB _ _ hMA
      have sB1 := sB
      have rA' := rA
      have RA' := RA
      have rA := sB _ _ rA
      have RA := RA.same sB
      refine ts_op_lc ?_
      refine ⟨_, rfl, x, CR, dx, _, _, rfl, rA, TC.cl, TC.n3, rf_many, _, rfl, by omega, by omega, ?_⟩
      refine lcF (walk_range (lo := 0) (n := ((ws.flatten.length : Nat) : Int).toNat)) (fun i H x H' ⟨e, _⟩ => by rw [e]; exact Same.refl _) (fun i => (hmF 0 ws)[i]?) (fun _ _ v b => v = V.int b) (fun _ _ _ _ _ h _ => h) (fun _ _ _ _ _ _ _ h => h) (by omega) (fun _ _ => trivial) ?_ ?_
      · rintro i y H2 H3 hi s2 ⟨rfl, rfl⟩ D hD _ Qy Qn ky kn
        have hi : i < ws.flatten.length := by omega
        have RA2 := RA.same s2
        obtain ⟨dx2, _, _, _, _, q1, _⟩ := id RA2
        exact ⟨rfl, yes_te ⟨_, rfl, x, dx2, _, rfl, q1, rf_no (by decide +kernel), _, rfl, rfl, x, i, xs, ws, (by show [V.ref x, V.int (0 + (i : Int))] = _; rw [Int.zero_add]), RA2, hi, fun z hz => ky z _ _ hz (Same.refl _) rfl⟩⟩
      intro D HB vB hD sB gB rB
      have eB := all_intz rB
      rw [Int.toNat_natCast, show ws.flatten.length = (hmF 0 ws).length from (hmF_len ws 0).symm, fm_get] at eB
      subst eB
      refine ⟨_, rfl, .list ((hmF 0 ws).map .int), .list ((hmF 0 ws).map .int), .lst (SqL.of gB) (dpInts _), .lst (SqL.of (sB _ _ hMB)) (dpInts _), PySem.W.ke_shaped_ints _, PySem.W.ke_shaped_ints _, _, rfl, iteF' (by rw [eqv_il, decide_eq_true rfl]; rfl) ?_⟩
      have s9B := (sA.trans sB1).trans sB
      have RB := R9.same s9B
      have hpB := s9B _ _ hp9
      have huB := hu9.same s9B
      have WB_ := W9.same s9B
      have gPB := s9B _ _ g79
      have s0B := s09.trans s9B
      have rB := s9B _ _ r1
      have twB := SqB.same s9B r2
      -- short
      refine ⟨_, rfl, x, CR, dx, _, _, rfl, rB, TC.cl, TC.n5, rf_is_short, _, _, _, _, true, rfl, .ty _, (Typ.bl _).ty, kit_ty (by decide +kernel), _, rfl, iteF ?_⟩
      refine ⟨_, rfl, x, CR, dx, _, _, rfl, rB, TC.cl, TC.n5, rf_is_short, ?_⟩
      refine op_lc ?_
      refine ⟨_, rfl, p, rfl, ⟨_, SqL.of hpB⟩, ?_⟩
      refine lcF (walk_list (K := K) (a := p) (xs := us)) (fun i H x H' ⟨e, _⟩ => by rw [e]; exact Same.refl _) (outS ws) (fun D H v w => ∃ q, v = V.ref q ∧ q ≠ D ∧ H q = some (.lst (iv w))) (fun _ _ _ _ _ ⟨q, e, n, h⟩ s => ⟨q, e, n, s _ _ h⟩) (fun _ _ _ _ _ _ _ ⟨q, e, n, h⟩ => ⟨q, e, n, by rw [upd_ne n]; exact h⟩) (by omega) (fun H s => SqL.of (s _ _ hpB)) ?_ ?_
      · rintro j y H2 H3 hj s2 ⟨rfl, hy⟩ D hD _ Qy Qn ky kn
        obtain ⟨u, hu2, q, rfl, hq⟩ := huB.at hy
        have mem := List.mem_of_getElem? hu2
        have hq2 := s2 _ _ hq
        have qD : q ≠ D := fun e => by rw [e, hD] at hq; cases hq
        have eo : outS ws j = if Fr.rnd u = u then none else some u := by
          unfold outS
          rw [hu2]
          rfl
        have hw := word_le mem
        refine ⟨rfl, _, rfl, q, u, rfl, hq2, by omega, hl.word mem, fun H4 s4 => ⟨_, rfl, ?_⟩⟩
        by_cases hr : Fr.rnd u = u
        · refine iteF' (by rw [decide_eq_true hr]; rfl) (kn (by rw [eo, if_pos hr]) _ s4)
        · refine iteT' (by rw [decide_eq_false hr]; rfl) ⟨_, rfl, ky u _ _ (by rw [eo, if_neg hr]) s4 ⟨q, rfl, qD, s4 _ _ hq2⟩⟩
      intro D HC vC hD sC gC rC
      refine ⟨Nat.zero_le _, fun l0 hl0 => ?_⟩
      have sD := same_upd (o := .lst []) hl0
      have lsC : LLs (L2.upd HC l0 (.lst [])) vC ((List.range us.length).filterMap (outS ws)) := rC.imp fun _ _ ⟨q, e, _, h⟩ => ⟨q, e, sD _ _ h⟩
      rw [lu] at lsC
      have eo := outS_nil ws
      refine ⟨.list (lld ((List.range ws.length).filterMap (outS ws))), .list [], .lst (SqL.of (sD _ _ gC)) (dp_lls lsC), .lst (SqL.of upd_same) .nil, shaped_lld _, rfl, rfl, _, rfl, ?_⟩
      refine iteF' (by
        have e2 := eqv_lld ((List.range ws.length).filterMap (outS ws)) []
        have e2 : PyData.eqv (.list (lld ((List.range ws.length).filterMap (outS ws)))) (.list []) = _ := e2
        rw [e2, eo, decide_eq_true rfl]
        rfl) ?_
      have sBE := sC.trans sD
      have RE := RB.same sBE
      have hpE := sBE _ _ hpB
      have huE := huB.same sBE
      have WE_ := WB_.same sBE
      have gPE := sBE _ _ gPB
      have s0E := s0B.trans sBE
      have rE := sBE _ _ rB
      have twE := SqB.same sBE twB
      generalize L2.upd HC l0 (.lst []) = HE at sBE RE hpE huE WE_ gPE s0E rE twE ⊢
      clear lsC rC gC sC RB hpB huB WB_ gPB s0B rB twB sBE
      refine ⟨_, rfl, x, dx, _, rfl, rE, x, xs, ws, rfl, RE, ok, fun HF sF => ⟨_, rfl, ?_⟩⟩
      refine ⟨_, rfl, p, us, ws, rfl, sF _ _ hpE, huE.same sF, ok, fun HG sG => ?_⟩
      refine ⟨rfl, _, rfl, iteF' (by rw [decide_eq_true rfl]; rfl) ?_⟩
      have sEG := sF.trans sG
      obtain ⟨t1, t2, t3, t4⟩ := told_read ok
      refine ⟨rfl, _, rfl, p, us, ws, rfl, sEG _ _ hpE, huE.same sEG, ok, fun HI sI => ⟨rfl, ?_⟩⟩
      refine ⟨_, rfl, .inr ⟨txtR ws, rfl, t4, fun i hi => ?_, fun _ q2 HJ ys sJ RJ => ?_⟩⟩
      · rw [t1, t2] at hi
        cases hi
      rw [t1, t3] at RJ
      have sEJ := (sEG.trans sI).trans sJ
      refine ⟨_, rfl, q2, x, ys, xs, ws, ws, rfl, rfl, RJ, RE.same sEJ, _, rfl, iteF' (by rw [decide_eq_true rfl]; rfl) ?_⟩
      refine ⟨_, rfl, _, rfl, _, rfl, _, rfl, P_, _, rfl, SqL.of (sEJ _ _ gPE), fun l1 hl1 => ?_⟩
      have sK := same_upd (o := .lst (xs.map V.ref)) hl1
      have gK : (L2.upd HJ l1 (.lst (xs.map V.ref))) l1 = some (.lst (xs.map V.ref)) := upd_same
      rw [cut_last]
      have sEK := sEJ.trans sK
      obtain ⟨HK, eK⟩ : ∃ HK, HK = L2.upd HJ l1 (.lst (xs.map V.ref)) := ⟨_, rfl⟩
      rw [← eK] at sK gK sEK ⊢
      refine ⟨l1, _, rfl, .inl ⟨SqL.of gK, fun t5 HL sL BL => ?_⟩⟩
      have sEL := sEK.trans sL
      refine fun x2 dx2 nx2 ndx2 _ => ?_
      refine rims_at nx2 ndx2 (.inr BL) (WE_.same sEL) ok fun HM sM RM => ?_
      have sEM := sEL.trans sM
      refine ⟨x, x2, xs, xs, ws, ws, rfl, rfl, RE.same sEM, RM, _, rfl, iteF' (by rw [decide_eq_true rfl]; rfl) ?_⟩
      have rM := sEM _ _ rE
      have twM := SqB.same sEM twE
      have RM2 := RE.same sEM
      refine ⟨_, rfl, _, rfl, x, CR, dx, _, _, rfl, rM, TC.cl, TC.n1, rf_words, x, xs, ws, "tuple", rfl, RM2, .inr ⟨rfl, tw, _, rfl, twM.sq⟩, _, rfl, iteF ?_⟩
      refine ⟨_, rfl, _, rfl, x, dx, _, rfl, rM, x, xs, ws, rfl, RM2, ok, fun HN sN => ⟨_, rfl, ?_⟩⟩
      refine ⟨x, xs, ws, "str", rfl, RM2.same sN, .inl ⟨rfl, _, rfl⟩, _, rfl, iteF ?_⟩
      have sEN := sEM.trans sN
      have RN := RE.same sEN
      have hpN := sEN _ _ hpE
      have huN := huE.same sEN
      have WN := WE_.same sEN
      have s0N := s0E.trans sEN
      have rN := sEN _ _ rE
      clear sEN RM2 twM rM RM sEM nx2 ndx2 sM sEL sL BL eK sEK gK sK hl1 sEJ RJ sJ sI sEG sG sF RE hpE huE WE_ gPE s0E rE twE
      -- turned
      refine ⟨_, rfl, _, rfl, p, _, rfl, SqL.of hpN, fun l2 hl2 => ?_⟩
      have sO := same_upd (o := .lst (cutV us (some 1) none)) hl2
      refine ⟨_, rfl, _, rfl, p, _, rfl, SqL.of (sO _ _ hpN), fun l3 hl3 => ?_⟩
      have sP := same_upd (o := .lst (cutV us none (some 1))) hl3
      refine cat_n (sP _ _ upd_same) upd_same (by rw [cut_tail, cut_head, List.length_drop, List.length_take]; omega) fun l4' HQ hl4' sQ gQ => ?_
      rw [cut_tail, cut_head] at gQ
      have sNQ := (sO.trans sP).trans sQ
      have huQ := huN.same sNQ
      have htQ : LLs HQ (us.drop 1 ++ us.take 1) (ws.drop 1 ++ ws.take 1) := (all2_drop huQ 1).app (all2_take huQ 1)
      have okt := rot_ok ok
      obtain ⟨wt, ewt⟩ : ∃ wt, wt = ws.drop 1 ++ ws.take 1 := ⟨_, rfl⟩
      obtain ⟨ut, eut⟩ : ∃ ut, ut = us.drop 1 ++ us.take 1 := ⟨_, rfl⟩
      rw [← ewt] at htQ okt
      rw [← eut] at htQ gQ
      have hpQ := sNQ _ _ hpN
      have RQ := RN.same sNQ
      have s0Q := s0N.trans sNQ
      have rQ := sNQ _ _ rN
      clear sNQ sQ sP sO RN hpN huN s0N rN WN
      refine nx_or_op ?_
      refine op_mk_lc ?_
      have lt := htQ.length
      obtain ⟨m1, m4, mne, m24, ml, mb⟩ := id okt
      refine ⟨_, rfl, l4', rfl, ⟨_, SqL.of gQ⟩, ?_⟩
      refine lcM (walk_list (K := K) (a := l4') (xs := ut)) wt (fun _ H v ns => ∃ q, v = V.ref q ∧ WordAt K C H q ns) (fun _ _ _ _ _ ⟨q, e, h⟩ s => ⟨q, e, h.same s⟩) ?_ (by omega) lt (fun H s => SqL.of (s _ _ gQ)) ?_ (fun x σ1 H A B k h => gName_mono k h) ?_
      · rintro D2 H5 ws5 o v ns hD5 ⟨q, e, h⟩
        exact ⟨q, e, h.keptL hD5 Kept.upd⟩
      · intro j y u hy hu2 D2 H5 hD2 _ s5 Qy ky
        obtain ⟨u', hu3, q, rfl, hq⟩ := htQ.at hy
        obtain rfl : u' = u := Option.some.inj (hu3.symm.trans hu2)
        have mem := List.mem_of_getElem? hu2
        have hw := word_le mem
        refine ⟨rfl, _, rfl, fun xw dxw nx ndx _ => make_at nx ndx (.inl (SqL.of (s5 _ _ hq))) (by omega) (ml.word mem) fun H6 s6 W6 => ?_⟩
        exact ky _ H6 s6 ⟨xw, rfl, W6⟩
      intro D4 HR vR hDR sR gR rR
      obtain ⟨xt, ext, WR_⟩ := all_word rR
      rw [ext] at gR
      refine fun x5 dx5 nx5 ndx5 _ => ?_
      refine rims_at nx5 ndx5 (.inl (SqL.of gR)) WR_ okt fun HS sS RS_ => ?_
      have sQS := sR.trans sS
      refine ⟨_, rfl, x5, x, xt, xs, wt, ws, rfl, rfl, RS_, RQ.same sQS, ?_⟩
      refine ⟨_, rfl, _, rfl, .list (lld wt), .list (lld ws), .lst (SqL.of (sQS _ _ gQ)) (dp_lls (htQ.same sQS)), .lst (SqL.of (sQS _ _ hpQ)) (dp_lls (huQ.same sQS)), shaped_lld _, shaped_lld _, rfl, _, rfl, ?_⟩
      rw [eqv_lld]
      refine iteF' (by rw [decide_eq_true rfl]; rfl) ?_
      refine ts_op ?_
      refine mks_rims (mksA_word (mks_word (mks_ints (mksA_int mks_c (mksA_int (mks_neg mks_c) mksA_nil)) (by decide)) (by decide) ltsAB) mksA_wnil) rimAB HS (Same.refl _) _ fun v1 HT sT ⟨q1, y1, e1, RT⟩ => ?_
      refine mks_rims (mksA_word (mks_word (mks_ints (mksA_int (mks_neg mks_c) (mksA_int mks_c mksA_nil)) (by decide)) (by decide) ltsBA) mksA_wnil) rimBA HT (Same.refl _) _ fun v2 HU sU ⟨q3, y2, e2, RU⟩ => ?_
      refine ⟨q1, q3, y1, y2, _, _, e1, e2, RT.same sU, RU, _, rfl, iteF' (by decide) ?_⟩
      have sQU := (sQS.trans sT).trans sU
      have hpU := sQU _ _ hpQ
      have huU := huQ.same sQU
      have RU_ := RQ.same sQU
      have s0U := s0Q.trans sQU
      have rU_ := sQU _ _ rQ
      clear sQU RT RU sT sU sQS RS_ sS sR gR rR WR_ nx5 ndx5 htQ gQ hpQ huQ RQ s0Q rQ
      have hHU := hH.same s0U
      have tU := tT.ext s0U
      -- a place that is none
      refine ⟨_, rfl, _, rfl, _, rfl, x, CR, dx, _, _, rfl, rU_, TC.cl, TC.n3, rf_many, by show 1 ≤ sizeLine; decide, fun l6 hl6 => ?_⟩
      have sV := same_upd (o := .lst [.int 0]) hl6
      have gV : (L2.upd HU l6 (.lst [.int 0])) l6 = some (.lst [.int 0]) := upd_same
      obtain ⟨HV, eV⟩ : ∃ HV, HV = L2.upd HU l6 (.lst [.int 0]) := ⟨_, rfl⟩
      rw [← eV] at sV gV ⊢
      have rV := sV _ _ rU_
      refine ⟨_, _, rfl, rfl, ⟨by decide, by decide, by decide⟩, _, rfl, x, CR, dx, _, _, rfl, rV, TC.cl, TC.n3, rf_many, _, rfl, by show 8 ≤ sizeLine; decide, fun O2 hO2 => ?_⟩
      obtain ⟨us8, e8⟩ : ∃ us8 : List V, us8 = [.int (-1), .int (ws.flatten.length : Int), .non, .bl true, .str "0", .ref l6, .int (10 ^ (20 : Int).toNat), .int (-(ws.flatten.length : Int))] := ⟨_, rfl⟩
      have sW := same_upd (o := .lst us8) hO2
      have gW : (L2.upd HV O2 (.lst us8)) O2 = some (.lst us8) := upd_same
      have hHV := hHU.same sV
      have O2a := hHV.ne hO2
      have l6a := hHU.ne hl6
      obtain ⟨HW, eW⟩ : ∃ HW, HW = L2.upd HV O2 (.lst us8) := ⟨_, rfl⟩
      have eW2 := eW
      rw [e8] at eW2
      rw [← eW2]
      rw [← eW] at sW gW
      have hHW := hHV.same sW
      have sUW := sV.trans sW
      have RW := RU_.same sUW
      have tW := tU.ext sUW
      have gVW := sW _ _ gV
      have s0W := s0U.trans sUW
      refine ⟨a, c, O2, us8, n, rfl, hHW, by omega, O2a, gW, by rw [e8]; show 0 < 8; decide, by rw [e8]; show 8 ≤ 1000; decide, fun nv hnv HX dX => ?_⟩
      have hHX := dX.1
      have RX := RW.keptL hHW.lst.choose_spec dX.2
      have tX := dX.tabs hHW tW
      have gX := dX.2 _ _ l6a gVW
      have k0X : Kx a H HX := (Kx.same s0W).trans (Kx.kept dX.2)
      have npl : ∃ (nd : PyData) (nt : String), Plc HX nv nd nt ∧ plB nv ws.flatten.length = false := by
        rw [e8] at hnv
        simp only [List.mem_cons, List.mem_nil_iff, or_false] at hnv
        rcases hnv with rfl | rfl | rfl | rfl | rfl | rfl | rfl | rfl
        · exact ⟨_, _, .int _ (shw_neg 1 (by decide)), rfl⟩
        · refine ⟨_, _, .int _ (shw_nat _ (by omega)), ?_⟩
          show (decide ((0 : Int) ≤ (ws.flatten.length : Int)) && decide ((ws.flatten.length : Int) ≤ (ws.flatten.length : Int) - 1)) = false
          rw [decide_eq_false (show ¬ (ws.flatten.length : Int) ≤ (ws.flatten.length : Int) - 1 by omega), Bool.and_false]
        · exact ⟨_, _, .non, rfl⟩
        · exact ⟨_, _, .bl _, rfl⟩
        · exact ⟨_, _, .str _ (by decide +kernel), rfl⟩
        · exact ⟨_, _, .one gX, rfl⟩
        · refine ⟨_, _, .int _ (by decide +kernel), ?_⟩
          show (decide ((0 : Int) ≤ 10 ^ (20 : Int).toNat) && decide ((10 : Int) ^ (20 : Int).toNat ≤ (ws.flatten.length : Int) - 1)) = false
          rw [decide_eq_false (show ¬ (10 : Int) ^ (20 : Int).toNat ≤ (ws.flatten.length : Int) - 1 by
            rw [show (10 : Int) ^ (20 : Int).toNat = 100000000000000000000 by decide +kernel]
            omega), Bool.and_false]
        · refine ⟨_, _, .int _ (shw_neg _ (by omega)), ?_⟩
          show (decide ((0 : Int) ≤ -(ws.flatten.length : Int)) && _) = false
          have l0 : 0 < ws.flatten.length := by
            obtain ⟨w0, hw0⟩ : ∃ w0, w0 ∈ ws := List.exists_mem_of_length_pos ok.1
            have := List.length_pos_iff.mpr (hne w0 hw0)
            have := word_le hw0
            omega
          rw [decide_eq_false (show ¬ (0 : Int) ≤ -(ws.flatten.length : Int) by omega), Bool.false_and]
      obtain ⟨nd, nt, pl, pn⟩ := npl
      clear hnv gX dX RW gVW hO2 O2a gW eW eW2 sW e8
      try dsimp only
      refine at_set ?_
      try dsimp only
      obtain ⟨dx, tw, tl, th, tn, r1, _⟩ := id RX
      refine ⟨tX, fun H20 x20 t20 R_ _ => ?_⟩
      have R20 := RimsAt.extN x20 RX
      have pl20 := pl.ext x20
      refine ⟨_, rfl, x, dx, _, rfl, x20 _ _ r1 (fun ps z => by cases z), rf_no (by decide +kernel), _, rfl, ?_⟩
      refine ⟨x, nv, nt, xs, ws, rfl, R20, pl20.typ, pn, ef_place pl20 (LamX.ExtN.refl _) t20 fun H21 u1 x21 t21 gu1 => ?_⟩
      refine ⟨t21, fun H22 x22 t22 R2_ _ => ?_⟩
      have x02 := x21.trans x22
      have R22 := RimsAt.extN x02 R20
      have pl22 := pl20.ext x02
      refine ⟨_, rfl, x, dx, _, rfl, x02 _ _ (x20 _ _ r1 (fun ps z => by cases z)) (fun ps z => by cases z), rf_no (by decide +kernel), _, rfl, ?_⟩
      refine ⟨x, nv, nt, xs, ws, rfl, R22, pl22.typ, pn, ef_place pl22 (LamX.ExtN.refl _) t22 fun H23 u2 x23 t23 gu2 => ?_⟩
      refine ⟨by show 2 ≤ sizeLine; decide, fun h5 hh5 => ?_⟩
      have sY := same_upd (o := .lst [.ref u1, .ref u2]) hh5
      have gY : (L2.upd H23 h5 (.lst [.ref u1, .ref u2])) h5 = some (.lst [.ref u1, .ref u2]) := upd_same
      have gu1Y := sY _ _ ((x22.trans x23) _ _ gu1 (fun ps z => by cases z))
      have gu2Y := sY _ _ gu2
      have plY := (pl22.ext x23).ext (extOf sY)
      have k0Y : Kx a H (L2.upd H23 h5 (.lst [.ref u1, .ref u2])) := ((k0X.trans (Kx.ext x20)).trans ((Kx.ext x02).trans (Kx.ext x23))).trans (Kx.same sY)
      have hHY := (((hHX.ext x20).ext x02).ext x23).same sY
      have tY := t23.ext sY
      obtain ⟨HY, eY⟩ : ∃ HY, HY = L2.upd H23 h5 (.lst [.ref u1, .ref u2]) := ⟨_, rfl⟩
      rw [← eY] at sY gY gu1Y gu2Y plY k0Y hHY tY ⊢
      refine at_set ?_
      try dsimp only
      have sh := plY.shs
      refine ⟨_, rfl, _, rfl, nv, nd, rfl, plY.dp, plY.shw, by show 2 ≤ sizeLine; decide, fun v3 hv3 => ⟨by show 1 ≤ sizeLine; decide, fun v4 hv4 => ?_⟩⟩
      have sZ := same_upd (o := .tup [.str "place", .str nd.shown]) hv3
      have gZ : (L2.upd HY v3 (.tup [.str "place", .str nd.shown])) v3 = some (.tup [.str "place", .str nd.shown]) := upd_same
      obtain ⟨HZ, eZ⟩ : ∃ HZ, HZ = L2.upd HY v3 (.tup [.str "place", .str nd.shown]) := ⟨_, rfl⟩
      rw [← eZ] at sZ gZ hv4 ⊢
      have sA1 := same_upd (o := .lst [.ref v3]) hv4
      refine ⟨v4, 2, [.ref v3], rfl, rfl, upd_same, by decide, by decide, by show 1 * 2 ≤ sizeLine; decide, fun v5 hv5 => ?_⟩
      have er2 : (List.replicate (Int.toNat 2) [V.ref v3]).flatten = [.ref v3, .ref v3] := rfl
      rw [er2]
      have sB1 := same_upd (o := .lst [.ref v3, .ref v3]) hv5
      have sYB := (sZ.trans sA1).trans sB1
      have gZB := (sA1.trans sB1) _ _ gZ
      have ds : SeqAt.shaped (.list (dps [("place", nd.shown), ("place", nd.shown)])) = true := shaped_dps fun d hd => by
        simp only [List.mem_cons, List.mem_nil_iff, or_false] at hd
        rcases hd with rfl | rfl
        · exact ⟨place_lay, sh.2⟩
        · exact ⟨place_lay, sh.2⟩
      refine ⟨.list (dps [("place", nd.shown), ("place", nd.shown)]), .list (dps [("place", nd.shown), ("place", nd.shown)]), .lst (SqL.of (sYB _ _ gY)) (twoS_dp (.cons ⟨u1, rfl, sYB _ _ gu1Y⟩ (.cons ⟨u2, rfl, sYB _ _ gu2Y⟩ .nil))), .lst (SqL.of upd_same) (twoS_dp (.cons ⟨v3, rfl, gZB⟩ (.cons ⟨v3, rfl, gZB⟩ .nil))), ds, ds, ?_⟩
      have e : PyData.eqv (.list (dps [("place", nd.shown), ("place", nd.shown)])) (.list (dps [("place", nd.shown), ("place", nd.shown)])) = true := dps_eqv _
      rw [e]
      exact k _ (k0Y.trans (Kx.same sYB)) (hHY.same sYB) (tY.ext sYB)
end
end W11
set_option Elab.async false
set_option linter.all false
set_option maxRecDepth 100000
set_option maxHeartbeats 1000000
namespace W11
open PySem L2 PySem.Spec PyProof.Rows WR WB WE WS
/-! ### texts that are bent -/
abbrev Pc (z : Str) : Prop := (∀ c ∈ z.cps.toList, c < 128) ∧ z.length ≤ 3
theorem itm_pc {i : Int} (h2 : i.natAbs ≤ 26) : Pc (itm i) := by
  refine ⟨fun c hc => ?_, Nat.le_trans (itm_len i) (by decide)⟩
  unfold itm at hc
  split at hc
  · simp at hc; omega
  · simp at hc; omega
theorem slash_pc : Pc slashS := ⟨fun c hc => by simp at hc; omega, by decide⟩
theorem slw_pc {ws : List (List Int)} (h : Lts ws.flatten) : ∀ z ∈ slw ws, Pc z := by
  have hw : ∀ w : List Int, Lts w → ∀ z ∈ w.map itm, Pc z := fun w hl z hz => by
    obtain ⟨i, hi, rfl⟩ := List.mem_map.mp hz
    exact itm_pc (hl i hi).2
  cases ws with
  | nil => exact fun z hz => (nomatch hz)
  | cons w r =>
    intro z hz
    rcases List.mem_append.mp hz with hz | hz
    · exact hw w (h.word List.mem_cons_self) z hz
    · obtain ⟨l, hl2, hz2⟩ := List.mem_flatten.mp hz
      obtain ⟨u, hu, rfl⟩ := List.mem_map.mp hl2
      rcases List.mem_cons.mp hz2 with rfl | hz2
      · exact slash_pc
      · exact hw u (h.word (List.mem_cons_of_mem _ hu)) z hz2
theorem glue_len {c m : Nat} : ∀ {ps : List (List Nat)}, (∀ p ∈ ps, p.length ≤ m) → (MText.glue c ps).length ≤ (m + 1) * ps.length
  | [], _ => Nat.zero_le _
  | [a], h => by
    have := h a List.mem_cons_self
    show a.length ≤ (m + 1) * 1
    omega
  | a :: b :: r, h => by
    have h1 := h a List.mem_cons_self
    have h2 := glue_len (c := c) (m := m) (ps := b :: r) fun p hp => h p (List.mem_cons_of_mem _ hp)
    show (a ++ c :: MText.glue c (b :: r)).length ≤ _
    rw [List.length_append, List.length_cons, List.length_cons (a := a), Nat.mul_add, Nat.mul_one]
    omega
theorem join_fit {zs : List Str} (h : ∀ z ∈ zs, Pc z) (hl : zs.length ≤ 900) : Fit (Txt.join ⟨#[32]⟩ zs) := by
  refine ⟨fun c hc => ?_, ?_⟩
  · rw [MText.join_glue] at hc
    rcases glue_mem hc with h1 | ⟨p, hp, h1⟩
    · omega
    · obtain ⟨z, hz, rfl⟩ := List.mem_map.mp hp
      exact (h z hz).1 c h1
  · rw [← len_cps, MText.join_glue]
    refine Nat.le_trans (glue_len (m := 3) fun p hp => ?_) ?_
    · obtain ⟨z, hz, rfl⟩ := List.mem_map.mp hp
      rw [len_cps]
      exact (h z hz).2
    · rw [List.length_map]
      omega
theorem sum_le {zs : List Str} (h : ∀ z ∈ zs, Pc z) : (zs.map (·.length)).sum ≤ 3 * zs.length := by
  induction zs with
  | nil => exact Nat.zero_le _
  | cons z r ih =>
    have h1 := (h z List.mem_cons_self).2
    have h2 := ih fun y hy => h y (List.mem_cons_of_mem _ hy)
    rw [List.map_cons, List.sum_cons, List.length_cons]
    omega
/-- a list of texts that bends a right one -/
def Tx (H : Hp) (p : Addr) (m : Nat) : Prop := ∃ zs : List Str, H p = some (.lst (zs.map V.str)) ∧ (∀ z ∈ zs, Pc z) ∧ zs.length ≤ m
theorem Tx.same {H H' : Hp} {p : Addr} {m : Nat} (h : Tx H p m) (s : Same H H') : Tx H' p m := by
  obtain ⟨zs, g, r⟩ := h
  exact ⟨zs, s _ _ g, r⟩
theorem Tx.mono {H : Hp} {p : Addr} {m m' : Nat} (h : Tx H p m) (l : m ≤ m') : Tx H p m' := by
  obtain ⟨zs, g, r1, r2⟩ := h
  exact ⟨zs, g, r1, by omega⟩
theorem tx_cat {H : Hp} {p q : Addr} {m m' : Nat} {Q : VK} (h : Tx H p m) (h' : Tx H q m') (hz : m + m' ≤ 1000) (k : ∀ r H', H r = none → Same H H' → Tx H' r (m + m') → Q (.ref r) H') : rCat (.ref p) (.ref q) H Q := by
  obtain ⟨zs, g, r1, r2⟩ := h
  obtain ⟨ys, g', q1, q2⟩ := h'
  refine cat_n g g' (by rw [List.length_map, List.length_map]; omega) fun r H' hr s gr => k r H' hr s ⟨zs ++ ys, by rw [gr, List.map_append], fun z hz => (List.mem_append.mp hz).elim (r1 z) (q1 z), by rw [List.length_append]; omega⟩
theorem tx_rep {H : Hp} {p : Addr} {m : Nat} {n : Nat} {kk : Int} {Q : VK} (ek : kk = (n : Int)) (h : Tx H p m) (hn : n ≤ 1000) (hz : m * n ≤ 1000) (k : ∀ r H', H r = none → Same H H' → Tx H' r (m * n) → Q (.ref r) H') : rRep (.ref p) (.int kk) H Q := by
  subst ek
  obtain ⟨zs, g, r1, r2⟩ := h
  have l2 : zs.length * n ≤ m * n := Nat.mul_le_mul_right n r2
  refine ⟨p, (n : Int), _, rfl, rfl, g, by omega, by omega, ?_, fun r hr => ?_⟩
  · rw [Int.toNat_natCast, List.length_map]
    exact Nat.le_trans (show zs.length * n ≤ 1000 by omega) (by decide)
  · refine k r _ hr (same_upd hr) ⟨(List.replicate n zs).flatten, ?_, fun z hz => ?_, ?_⟩
    · rw [upd_same, Int.toNat_natCast, List.map_flatten, List.map_replicate]
    · obtain ⟨l, hl, hz2⟩ := List.mem_flatten.mp hz
      rw [List.mem_replicate] at hl
      rw [hl.2] at hz2
      exact r1 z hz2
    · rw [List.length_flatten, List.map_replicate, List.sum_replicate_nat, Nat.mul_comm]
      exact l2
theorem slw_len : ∀ ws : List (List Int), (slw ws).length ≤ ws.flatten.length + ws.length
  | [] => Nat.zero_le _
  | w :: r => by
    have h : ∀ r : List (List Int), ((r.map fun u => slashS :: u.map itm).flatten).length = r.flatten.length + r.length := by
      intro r
      induction r with
      | nil => rfl
      | cons u r ih =>
        rw [List.map_cons, List.flatten_cons, List.length_append, ih, List.flatten_cons, List.length_append, List.length_cons, List.length_cons, List.length_map]
        omega
    show (w.map itm ++ (r.map fun u => slashS :: u.map itm).flatten).length ≤ _
    rw [List.length_append, List.length_map, h, List.flatten_cons, List.length_append, List.length_cons]
    omega
theorem Kx.put {a f : Addr} {H H6 H9 : Hp} {o : HO} (k6 : Kx a H H6) (hf : H6 f = none) (k9 : Kx a H H9) : Kx a H (L2.upd H9 f o) := fun b q e n z => by
  by_cases h : b = f
  · have := k6 b q e n z
    rw [h, hf] at this
    cases this
  · rw [upd_ne h]
    exact k9 b q e n z
theorem text_sh (i : Int) : SeqAt.shaped (.tuple [.str "text", .int 0, .int i]) = true := by
  have h : PyData.canLay0 (.str (Str.ofString "text")) = true := by decide +kernel
  simp [SeqAt.shaped, PyData.canLayAll0, PyData.depth, PyData.depthAll, h]
  show (PyData.canLay0 (.str (Str.ofString "text")) && (PyData.canLay0 (.int 0) && (PyData.canLay0 (.int i) && true))) = true
  rw [h]
  rfl
theorem HandAt.put2 {H : Hp} {a c l : Addr} {n : Nat} {o : HO} (h : HandAt H a c n) (h1 : l ≠ a) (h2 : l ≠ c) : HandAt (L2.upd H l o) a c n := by
  obtain ⟨ns, i, r, g1, g2, g3⟩ := h
  exact ⟨ns, i, r, by rw [upd_ne h1.symm]; exact g1, by rw [upd_ne h2.symm]; exact g2, g3⟩
theorem text_eq (i : Int) : PyData.eqv (.tuple [.str "text", .int 0, .int i]) (.tuple [.str "text", .int 0, .int i]) = true := by
  show (((Str.ofString "text") == (Str.ofString "text")) && (((0 : Int) == 0) && ((i == i) && true))) = true
  simp
theorem seq_if {t : TT} {A B Cc : TS} {D : Ends} {σ : L2.St} {H : Hp} (h : ∀ N : L2.St → Hp → Prop, N = Cc D → t σ H fun b H1 => if b = true then A { D with nx := N } σ H1 else B { D with nx := N } σ H1) : tSeq (tIfS t A B) Cc D σ H := h _ rfl
theorem nx_if {t : TT} {A B Cc : TS} {D : Ends} {σ : L2.St} {H : Hp} {rt : VK} {b1 b2 : L2.St → Hp → Prop} (h : ∀ N : L2.St → Hp → Prop, N = Cc D → t σ H fun b H1 => if b = true then A { D with nx := N } σ H1 else B { D with nx := N } σ H1) : tNext { nx := tSeq (tIfS t A B) Cc D, rt := rt, bk := b1, ct := b2 } σ H := h _ rfl
theorem NotS.ext {H H' : Hp} {x : V} (h : NotS H x) (s : LamX.ExtN H H') : NotS H' x := by
  obtain ⟨t, h, zz⟩ := h
  refine ⟨t, ?_, zz⟩
  clear zz
  cases h with
  | int i => exact .int i
  | bl b => exact .bl b
  | str z => exact .str z
  | non => exact .non
  | lst e => exact .lst (s _ _ e fun ps q => by cases q)
  | tup e => exact .tup (s _ _ e fun ps q => by cases q)
  | dct e => exact .dct (s _ _ e fun ps q => by cases q)
theorem tc_rep {kk : Int} {x : V} {σ : L2.St} {H : Hp} {Q : VK} (h : rRep x (.int kk) H Q) : tC (.int kk) σ H (fun y H2 => rRep x y H2 Q) := h
theorem tx_of {H : Hp} {p : Addr} {zs : List Str} {m : Nat} (g : H p = some (.lst (zs.map V.str))) (h : ∀ z ∈ zs, Pc z) (l : zs.length ≤ m) : Tx H p m := ⟨zs, g, h, l⟩
theorem tx_set {H : Hp} {p : Addr} {zs : List Str} {m j : Nat} {z : Str} (h : ∀ z ∈ zs, Pc z) (l : zs.length ≤ m) (hz : Pc z) : Tx (L2.upd H p (.lst ((zs.map V.str).set j (.str z)))) p m := by
  refine ⟨zs.set j z, by rw [upd_same, List.map_set], fun y hy => ?_, by rw [List.length_set]; exact l⟩
  rcases List.mem_or_eq_of_mem_set hy with hy | rfl
  · exact h y hy
  · exact hz
theorem tx_ins {H : Hp} {p : Addr} {zs : List Str} {m j : Nat} {z : Str} (h : ∀ z ∈ zs, Pc z) (l : zs.length ≤ m) (hz : Pc z) : Tx (L2.upd H p (.lst ((zs.map V.str).take j ++ [.str z] ++ (zs.map V.str).drop j))) p (m + 1) := by
  refine ⟨zs.take j ++ [z] ++ zs.drop j, by rw [upd_same, List.map_append, List.map_append, List.map_take, List.map_drop]; rfl, fun y hy => ?_, ?_⟩
  · rcases List.mem_append.mp hy with hy | hy
    · rcases List.mem_append.mp hy with hy | hy
      · exact h y (List.mem_of_mem_take hy)
      · rw [List.mem_singleton.mp hy]
        exact hz
    · exact h y (List.mem_of_mem_drop hy)
  · rw [List.length_append, List.length_append, List.length_take, List.length_drop]
    show _ + 1 + _ ≤ _
    omega
theorem d4_ok : ∀ z ∈ (["/", "d", "/", "d'"] : List Str), Pc z := by
  unfold Pc
  decide +kernel
theorem erase_map (f : Str → V) : ∀ (zs : List Str) (j : Nat), (zs.map f).eraseIdx j = (zs.eraseIdx j).map f
  | [], _ => rfl
  | _ :: _, 0 => rfl
  | z :: r, j + 1 => by
    show f z :: (r.map f).eraseIdx j = f z :: (r.eraseIdx j).map f
    rw [erase_map f r j]
theorem tx_one {H : Hp} {p : Addr} (g : H p = some (.lst [.str "/"])) : Tx H p 1 := ⟨["/"], g, fun z hz => by rw [List.mem_singleton.mp hz]; exact d4_ok _ List.mem_cons_self, Nat.le_refl _⟩
theorem tx_pop {H : Hp} {p : Addr} {zs : List Str} {m j : Nat} (h : ∀ z ∈ zs, Pc z) (l : zs.length ≤ m) : Tx (L2.upd H p (.lst ((zs.map V.str).eraseIdx j))) p m := by
  refine ⟨zs.eraseIdx j, by rw [upd_same, erase_map], fun y hy => h y (List.mem_of_mem_eraseIdx hy), Nat.le_trans (List.length_eraseIdx_le zs j) l⟩
theorem tx_rev {H : Hp} {p : Addr} {zs : List Str} {m : Nat} (g : H p = some (.lst ((zs.map V.str).reverse))) (h : ∀ z ∈ zs, Pc z) (l : zs.length ≤ m) : Tx H p m :=
  ⟨zs.reverse, by rw [g, List.map_reverse], fun y hy => h y (List.mem_reverse.mp hy), by rw [List.length_reverse]; exact l⟩
def B13 : List Str := ["", "/", "a", "z'", "A", "aa", "a''", "'", "-", "1", "a'b", "//", "b'"]
def B6 : List Str := ["", "/", "c", "c'", "x y", "/ /"]
theorem b13_ok : ∀ z ∈ B13, Pc z := by
  unfold Pc
  decide +kernel
theorem b6_ok : ∀ z ∈ B6, Pc z := by
  unfold Pc
  decide +kernel
/-- what a law's stop tells, as a value -/
def dueV : Option Nat → V
  | some i => .int (i : Int)
  | none => .non
theorem dueV_eq (o : Option Nat) : o.elim V.non (fun i => .int (i : Int)) = dueV o := by
  cases o <;> rfl
def spTX (T : List (Addr × Str)) : Sp := fun vs H Q _ => ∃ (a c p : Addr) (us : List V) (ws : List (List Int)) (n : Nat), vs = [.ref a, .ref p] ∧ HandAt H a c n ∧ n ≤ 6000 ∧ H p = some (.lst us) ∧ LLs H us ws ∧ RimOk ws ∧ LamX.Tabs T H ∧
  ∀ H', Kx a H H' → HandAt H' a c (n + 20) → LamX.Tabs T H' → Q (.bl true) H'
abbrev sTX : Stmt := top 57
abbrev nTX : List Str := ["_law_pen_here", "_law_words", "_law_turn", "_law_items", "_law_way", "_law_at", "_law_text_here", "_law_found", "_law_due", "_law_heard_here", "_law_none"]
theorem scTX : FnScope nTX ["_law_pen_here", "_law_words"] (defScope sTX) := ⟨rfl, rfl, rfl, by decide +kernel, rfl, by decide +kernel, by decide +kernel⟩
abbrev qTX : Str := ("_law_texts_right" : Str) ++ ".<locals>." ++ "<lambda>"
def tSX (C : Addr) (sq : Sp) (E : XK) (ta : TE) (t : TA) : TE := fun σ H Q => ta σ H fun x H1 => x = .ref C ∧ t σ H1 fun vs H2 => sq vs H2 Q E
structure SMx (P : Program) (w : World) (K : PySem.W.Frag) (mg : Str → Option Value) (base : Heap) (C : Addr) (m : Str) (k : Nat) (ps : List Str) (sq : Sp) : Prop where
  ex : ∃ (mc : Value) (p g : Addr) (fd : FuncData), MStat.SMet K C mc m p g ∧ FnOk P w K mg base (L2.CX P w) k g fd ps sq ∧ Binds K fd ps []
theorem pe_sx {X : Cx} {k j : Nat} {C : Addr} {sq : Sp} {E : XK} {ps : List Str} {o e : Expr} {es : List Expr} {m : Str} {pos apos : Pos} {ta : TE} {t : TA} {pl : Sem Bool}
    (S : SMx X.prog X.w X.K X.mg X.base C m k ps sq) (he : PE X o ta) (hr : Room j X.A) (hkj : k ≤ j) (hx : Passes (L2.CX X.prog X.w) X E) (ha : PA X (e :: es) t)
    (hst : starEach (e :: es) X.env = (false, eval e X.env) :: starEach es X.env := by rfl) (hpl : (backTo pos (starEach es X.env)).any (·.1) = false := by rfl)
    (ht : eval (.Call (.Attribute o m apos) (e :: es) [] pos) X.env = (do
      let ov ← eval o X.env
      standAt apos.atName
      let (f, first) ← holding [ov] (getMethod ov m pl)
      callWith pos f first (backTo pos (starEach (e :: es) X.env)) (backToKw pos (keywordEach [] X.env))) := by rfl) :
    PE X (.Call (.Attribute o m apos) (e :: es) [] pos) (tSX C sq E ta t) := by
  obtain ⟨mc, p, g, fd, c, F, hb⟩ := S.ex
  refine ⟨fun pins s σ H Q I h => ?_⟩
  refine PySem.W.methodCall_KW (pl := pl) (thn (he.run pins s σ H _ I h) fun u s1 ⟨x, H1, I1, rx, ex, q⟩ => ?_) ht
  subst ex
  obtain rfl : u = Value.ref C := rx
  refine MStat.getsm_ok I1 c fun s2 I2 => ?_
  refine PySem.W.callWith_K (first := []) (h₀ := X.base) I2.ok.mod.kin c.kp (thn (ha.run pos pins s2 σ H1 _ I2 q) fun us s3 ⟨vs, H2, I3, rv, q2⟩ => ⟨I3.kIn, ?_⟩) hst hpl
  exact run_fn (us := us) (vs := vs) (dvs := []) (ds := []) F (hr.mono hkj) hb .nil hx I3 rv (by simpa using q2)
section
variable {P : Program} {w : World} {K : PySem.W.Frag} {mg : Str → Option Value} {base : Heap} {C CR CBW CTM CUB CT CNP CH : Addr}
set_option maxHeartbeats 4000000 in
theorem ok_TX {f cd P1 g : Addr} {fd : FuncData} {TT : List (Addr × Str)} (F : FunC K "_law_texts_right" sTX f cd fd) (N : TN mg) (XT : TX mg) (O : RimO P w K mg base C CR CT) (BW : ErrC P w K mg base CBW "BadWord" ["self", "part"] (spI1 "part" CBW)) (TM : ErrC P w K mg base CTM "TooMany" ["self", "what", "most"] (spM2 CTM)) (UB : ErrC P w K mg base CUB "Unbalanced" ["self", "kind"] (spI1 "kind" CUB))
    (ET : ErrT P w K mg base CT "BadText" ["self", "line", "item"] (spI2 CT)) (NP : ErrC P w K mg base CNP "NoPlace" ["self", "value"] (spI1 "value" CNP)) (Z : Five K mg CBW CTM CUB CT CNP CH) (G : HeardK K mg g) (TB : LamX.TabB base mg cd P1) (hT : (P1, qTX) ∈ TT) (hu : ∀ p ∈ TT, p.1 = P1 → p.2 = qTX)
    (SR : SMx P w K mg base CR "read" 6 ["text"] (spReadR K C CR CT))
    (G_pick : Cal P w K mg base "_law_pick" 2 ["_law_pen_here", "_law_some"] spPick) (G_draw : Cal P w K mg base "_law_draw" 1 ["_law_pen_here", "_law_many"] spTake) (G_text : Cal P w K mg base "_law_text" 2 ["_law_words"] spText) (G_stop : Cal P w K mg base "_law_stop" 2 ["_law_items"] (spStop K)) :
    RG.FnG P w K mg base 9 f fd ["_law_pen_here", "_law_words"] (spTX TT) := by
  refine F.okG scTX (fun vs H Q E h => ?_) (fun A outer s H vs Q E hg hr h => ?_)
  · obtain ⟨a, c, p, us, ws, n, rfl, _⟩ := h
    rfl
  · obtain ⟨a, c, p, us, ws, n, rfl, hH, hn, hp, hu', ok, tT, k⟩ := h
    obtain ⟨oc, od, kV, doc, pm, cdv, ct, an, osl, lk, hcd⟩ := G.ex
    have bG : L2.Binds K (PySem.W.fnOf "_law_heard" "_law_heard" (defArgs sHeard) (defBody sHeard) (defScope sHeard) .none kV doc pm an cdv ct) ["_law_ask"] [] := (fun_mk (st := sHeard) lk hcd G.kp).binds (ps := ["_law_ask"]) fun _ _ _ _ _ _ us hl => match us, hl with | [_], _ => rfl
    refine ⟨_, pss_cons (ps_for PassesOwn.never rfl (pi_range1 (by rfl) N.range (pa_cons pe_int pa_nil)) (pg_name (i := 2) scTX.nd rfl (Or.inl rfl))
      (pss_cons (ps_par (i := 3) (j := 4) (by rfl) scTX.nd rfl rfl (by decide) rfl rfl (pa_cons (pe_split (pe_cal G_text hr (by decide) (by rfl) (pa_cons (pv 1) pa_nil)) pe_str) (pa_cons (pe_cal G_draw hr (by decide) (by rfl) (pa_cons (pv 0) (pa_cons pe_int pa_nil))) pa_nil)) (by rfl))
      (pss_cons (ps_set (i := 5) scTX.nd rfl (Or.inl rfl) (pe_cal G_draw hr (by decide) (by rfl) (pa_cons (pv 0) (pa_cons (pe_callB call_len_seq (by rfl) N.len PySem.boot_len (pa_cons (pv 3) pa_nil)) pa_nil))))
      (pss_cons (ps_if (pt_cmpR op_lt (pv 4) pe_int (nomark _)) (pss_one (ps_asg (pe_cal G_pick hr (by decide) (by rfl) (pa_cons (pv 0) (pa_cons (pe_lst (pa_cons pe_str (pa_cons pe_str (pa_cons pe_str (pa_cons pe_str (pa_cons pe_str (pa_cons pe_str (pa_cons pe_str (pa_cons pe_str (pa_cons pe_str (pa_cons pe_str (pa_cons pe_str (pa_cons pe_str (pa_cons pe_str pa_nil)))))))))))))) pa_nil))) (pg_sub (pv 3) (pv 5) set_list))) (pss_one (ps_if (pt_cmpR op_eq (pv 4) pe_int (nomark _)) (pss_one (ps_expr (pe_bm PySem.F.plainAttrs_list PySem.F.slot_list_insert PySem.F.type_list_insert mt_insert (pv 3) (pa_cons (pv 5) (pa_cons (pe_cal G_pick hr (by decide) (by rfl) (pa_cons (pv 0) (pa_cons (pe_lst (pa_cons pe_str (pa_cons pe_str (pa_cons pe_str (pa_cons pe_str (pa_cons pe_str (pa_cons pe_str pa_nil))))))) pa_nil))) pa_nil))))) (pss_one (ps_if (pt_cmpR op_eq (pv 4) pe_int (nomark _)) (pss_one (ps_expr (pe_bm PySem.F.plainAttrs_list PySem.F.slot_list_pop PySem.F.type_list_pop mt_popAt (pv 3) (pa_cons (pv 5) pa_nil)))) (pss_one (ps_if (pt_cmpR op_eq (pv 4) pe_int (nomark _)) (pss_one (ps_set (i := 3) scTX.nd rfl (Or.inl rfl) (pe_cal G_pick hr (by decide) (by rfl) (pa_cons (pv 0) (pa_cons (pe_lst (pa_cons (pe_op op_cat (pv 3) (pe_lst (pa_cons pe_str pa_nil))) (pa_cons (pe_op op_cat (pe_lst (pa_cons pe_str pa_nil)) (pv 3)) (pa_cons (pe_op op_cat (pv 3) (pv 3)) (pa_cons (pe_op op_rep (pv 3) pe_int) (pa_cons (pe_op op_cat (pe_op op_cat (pv 3) (pe_lst (pa_cons pe_str pa_nil))) (pv 3)) (pa_cons (pe_revL (pv 3)) (pa_cons (pe_op op_cat (pv 3) (pe_op op_rep (pe_lst (pa_cons pe_str (pa_cons pe_str (pa_cons pe_str (pa_cons pe_str pa_nil))))) pe_int)) pa_nil)))))))) pa_nil))))) pss_nil)))))))
      (pss_cons (ps_asg (pe_tup (pa_cons (pe_join pe_str (pv 3)) (pa_cons (pe_lst pa_nil) pa_nil))) (pg_tup (n := 2) rfl (pgs_cons (pg_name (i := 6) scTX.nd rfl (Or.inr rfl)) (pgs_cons (pg_name (i := 7) scTX.nd rfl (Or.inr rfl)) pgs_nil))))
      (pss_cons (ps_set (i := 8) scTX.nd rfl (Or.inl rfl) (pe_cal G_stop hr (by decide) (by rfl) (pa_cons (pe_split (pv 6) pe_str) pa_nil)))
      (pss_cons (ps_set (i := 9) scTX.nd rfl (Or.inl rfl) (LamX.pe_lamcall (T := TT) (k := 6) (t := fun E => tBM K "list" rAppend (tVar 7) (tCons (tSX CR (spReadR K C CR CT) E (tC (.ref CR)) (tCons (tVar 6) tNil)) tNil)) (by rfl) G.mg G.kp lk hcd bG scHeard (by rfl) (Or.inl rfl) (heard_gives N BW TM UB ET NP Z hg (hr.mono (by decide))) TB rfl hT hu hr (LamX.lamS_by (sc := defScope sTX) (by decide +kernel)) (by rfl) (fun q cl pm cv ctv => by rfl) (fun A outer s H E f c' hr2 => (pe_bmK (K := K) rfl PySem.F.plainAttrs_list PySem.F.slot_list_append PySem.F.type_list_append mt_append (pv 7) (pa_cons (pe_sx SR (pe_glob (v := .ref CR) (by rfl) O.TC.mgR rfl) hr2 (by decide) (passes_call (takes_of rfl rfl rfl rfl) (fun _ _ _ _ h => h)) (pa_cons (pv 6) pa_nil)) pa_nil)))))
      (pss_one (ps_if (PW.pt (pw_or (pt_cmpR (op_neD hr.units) (pv 9) (pe_ifExp (pt_cmpR op_isN (pv 8) pe_non (nomark _)) pe_non (pe_tup (pa_cons pe_str (pa_cons pe_int (pa_cons (pv 8) pa_nil))))) (nomark _)) (pw_or1 (PW.pt (pw_and (pt_cmpR op_isN (pv 8) pe_non (nomark _)) (pw_and1 (pt_cmpR op_ne (pe_callTy (MStr.call_strO O.str hr (by decide)) (by rfl) XT.str (by decide +kernel) (pa_cons (pe_ix ix_list (pv 7) pe_int (fun _ _ => rfl)) pa_nil)) (pv 6) (nomark _)))))))) (pss_one (ps_ret pe_bl)) pss_nil)))))))))
      (pss_cons (ps_set (i := 10) scTX.nd rfl (Or.inr rfl) (pe_cal G_pick hr (by decide) (by rfl) (pa_cons (pv 0) (pa_cons (pe_lst (pa_cons pe_non (pa_cons pe_int (pa_cons (pe_lst (pa_cons pe_str (pa_cons pe_str pa_nil))) (pa_cons pe_bl (pa_cons (pv 1) (pa_cons (pe_tup (pa_cons pe_str pa_nil)) pa_nil))))))) pa_nil))))
      (pss_one (ps_ret (pe_cmpR (op_eqD hr.units) (LamX.pe_lamcall (T := TT) (k := 6) (t := fun E => tSX CR (spReadR K C CR CT) E (tC (.ref CR)) (tCons (tVar 10) tNil)) (by rfl) G.mg G.kp lk hcd bG scHeard (by rfl) (Or.inl rfl) (heard_gives N BW TM UB ET NP Z hg (hr.mono (by decide))) TB rfl hT hu hr (LamX.lamS_by (sc := defScope sTX) (by decide +kernel)) (by rfl) (fun q cl pm cv ctv => by rfl) (fun A outer s H E f c' hr2 => (pe_sx SR (pe_glob (v := .ref CR) (by rfl) O.TC.mgR rfl) hr2 (by decide) (passes_call (takes_of rfl rfl rfl rfl) (fun _ _ _ _ h => h)) (pa_cons (pv 10) pa_nil)))) (pe_tup (pa_cons pe_str (pa_cons pe_int (pa_cons pe_int pa_nil)))) (nomark _))))), ?_⟩
    obtain ⟨T, TC, MW, MR, MK, ER, EX, OX, rn, nxt, rim, str, rd⟩ := id O
    obtain ⟨l1, l4, hne, l24, hl, hb⟩ := id ok
    have hpa := hH.ne_refs hp hu'.refs
    refine ⟨6, rfl, by decide, by decide, for_range (lo := 0) (n := (6 : Int).toNat) (fun i σ H' => (∃ v2 v3 v4 v5 v6 v7 v8 v9 : Option V, σ = [some (.ref a), some (.ref p), v2, v3, v4, v5, v6, v7, v8, v9, none]) ∧ Kx a H H' ∧ HandAt H' a c (n + 3 * i) ∧ LamX.Tabs TT H') ⟨⟨none, none, none, none, none, none, none, none, rfl⟩, Kx.refl a H, hH, tT⟩ ?_ ?_⟩
    · rintro i σ H1 hi ⟨⟨v2, v3, v4, v5, v6, v7, v8, v9, rfl⟩, x1, h1, t1⟩
      have hi6 : i < 6 := hi
      obtain ⟨hp1, hu1⟩ := x1.refs hH hp hu'
      refine ⟨_, rfl, p, us, ws, rfl, hp1, hu1, ok, fun H2 s2 => ?_⟩
      obtain ⟨e1, e2, e3, e4⟩ := told_read ok
      have hsz : (txtR ws).length + 2 ≤ sizeLine := Nat.le_trans (show (txtR ws).length + 2 ≤ 4002 by have := e4.2; omega) (by decide)
      refine ⟨⟨_, rfl⟩, _, _, rfl, rfl, (by decide +kernel), hsz, fun L hL => ?_⟩
      rw [space_eq]
      have s3 := same_upd (o := .lst ((sp (txtR ws)).map V.str)) hL
      have g3 : (L2.upd H2 L (.lst ((sp (txtR ws)).map V.str))) L = some (.lst ((sp (txtR ws)).map V.str)) := upd_same
      have La := (h1.same s2).ne hL
      have Lc := (h1.same s2).neC hL
      obtain ⟨H3, e5⟩ : ∃ H3, H3 = L2.upd H2 L (.lst ((sp (txtR ws)).map V.str)) := ⟨_, rfl⟩
      have e6 : L2.upd H2 L (.lst ((Txt.split (txtR ws) ⟨#[32]⟩).map V.str)) = H3 := e5.symm
      rw [e6]
      rw [← e5] at s3 g3
      rw [e1] at g3
      have h3 := (h1.same s2).same s3
      have t3 := (t1.ext s2).ext s3
      have x3 := x1.trans (Kx.same (s2.trans s3))
      have zl := slw_len ws
      have z0 := slw_ne l1 hne
      have zp := slw_pc hl
      obtain ⟨zs, ez⟩ : ∃ zs, zs = slw ws := ⟨_, rfl⟩
      rw [← ez] at g3 zl z0 zp
      have z1 := List.length_pos_iff.mpr z0
      refine ⟨_, rfl, a, c, 6, n + 3 * i, rfl, h3, by omega, by decide, by decide, fun H4 way w0 w6 h4 k4 => ⟨_, _, rfl, ?_⟩⟩
      have g4 := k4 _ _ La g3
      have t4 := tabs_kept h3 k4 t3
      have x4 := x3.trans (Kx.kept k4)
      refine ⟨_, rfl, _, rfl, L, _, rfl, .inl (SqL.of g4), a, c, _, n + 3 * i + 1, rfl, h4, by omega, by rw [List.length_map]; omega, by rw [List.length_map]; exact Nat.lt_of_le_of_lt (show _ ≤ 100 by omega) (by decide), fun H5 at_ a0 a1 h5 k5 => ?_⟩
      rw [List.length_map] at a1
      have g5 := k5 _ _ La g4
      have t5 := tabs_kept h4 k5 t4
      have x5 := x4.trans (Kx.kept k5)
      have h5 : HandAt H5 a c (n + 3 * i + 2) := h5
      have x2 := x1.trans (Kx.same s2)
      clear k5 k4 g4 t4 x4 h4 x3 t3 h3 g3 s3 s2 e6 e5
      try dsimp only
      refine at_set ?_
      try dsimp only
      refine seq_if fun N_ eN => ?_
      have cont : ∀ (L' : Addr) (H' : Hp), Kx a H H' → HandAt H' a c (n + 3 * i + 3) → LamX.Tabs TT H' → Tx H' L' 200 → N_ [some (.ref a), some (.ref p), some (.int (0 + (i : Int))), some (.ref L'), some (.int way), some (.int at_), v6, v7, v8, v9, none] H' := by
        intro L' H6 x6 h6 t6 tx
        rw [eN]
        obtain ⟨ys, g6, yp, yl⟩ := tx
        have yfit := join_fit yp (by omega)
        have ysum := sum_le yp
        obtain ⟨z, ezj⟩ : ∃ z, z = Txt.join ⟨#[32]⟩ ys := ⟨_, rfl⟩
        rw [← ezj] at yfit
        refine ⟨⟨_, rfl⟩, _, rfl, _, L', ys, rfl, rfl, .inl (SqL.of g6), by show _ + ys.length * 1 ≤ _; omega, Nat.zero_le _, fun fo hfo => ?_⟩
        rw [← ezj]
        have s7 := same_upd (o := .lst []) hfo
        have gf : (L2.upd H6 fo (.lst [])) fo = some (.lst []) := upd_same
        obtain ⟨H7, e7⟩ : ∃ H7, H7 = L2.upd H6 fo (.lst []) := ⟨_, rfl⟩
        rw [← e7] at s7 gf ⊢
        refine ⟨by show 2 ≤ sizeLine; decide, fun tq htq => ?_⟩
        refine ⟨tq, _, rfl, SqT.of upd_same, rfl, _, _, rfl, _, _, rfl, rfl, ?_⟩
        have s8 := same_upd (o := .tup [.str z, .ref fo]) htq
        have gf8 := s8 _ _ gf
        obtain ⟨H8, e8⟩ : ∃ H8, H8 = L2.upd H7 tq (.tup [.str z, .ref fo]) := ⟨_, rfl⟩
        rw [← e8] at s8 gf8 ⊢
        have foa := h6.ne hfo
        have foc := h6.neC hfo
        have h8 := (h6.same s7).same s8
        have t8 := (t6.ext s7).ext s8
        have x8 := x6.trans (Kx.same (s7.trans s8))
        -- what is due
        have zsz : z.length + 2 ≤ sizeLine := Nat.le_trans (show z.length + 2 ≤ 4002 by have := yfit.2; omega) (by decide)
        refine ⟨_, rfl, ⟨_, rfl⟩, _, _, rfl, rfl, (by decide +kernel), zsz, fun l2 hl2 => ?_⟩
        have s9 := same_upd (o := .lst ((sp z).map V.str)) hl2
        refine ⟨l2, sp z, rfl, SqL.of upd_same, sp_ne z, fun y hy => sp_fit yfit hy, sp_len yfit, fun H10 s10 => ?_⟩
        rw [dueV_eq]
        have s8A := s9.trans s10
        have gfA := s8A _ _ gf8
        have hA := h8.same s8A
        have tA := t8.ext s8A
        have xA := x8.trans (Kx.same s8A)
        have pA := rimsPl (sp z)
        refine ⟨tA, fun H11 x11 t11 R_ hR => ?_⟩
        have gfB := x11 _ _ gfA (fun ps q => by cases q)
        have hB := hA.ext x11
        have xB := xA.trans (Kx.ext x11)
        try dsimp only
        have bk := rims_back (z := z)
        cases eP : rimsPl (sp z) with
        | some j =>
          refine ⟨_, rfl, .inl ⟨rfl, _, SqL.of gfB⟩, rfl, _, rfl, _, rfl, .inr ⟨z, rfl, yfit, fun j2 hj => ?_, fun hn => ?_⟩⟩
          · rw [eP] at hj
            obtain rfl := Option.some.inj hj
            refine ef_text (LamX.ExtN.refl _) t11 fun H12 u1 x12 t12 g12 => ?_
            refine ⟨_, rfl, _, rfl, rfl, _, rfl, iteF' (decide_eq_false fun q => by cases q) ?_⟩
            refine ⟨_, rfl, by show 3 ≤ sizeLine; decide, fun t3 ht3 => ?_⟩
            have s13 := same_upd (o := .tup [.str "text", .int 0, .int (j : Int)]) ht3
            refine ⟨.tuple [.str "text", .int 0, .int (j : Int)], .tuple [.str "text", .int 0, .int (j : Int)], .tup (SqT.of (s13 _ _ g12)) (.cons (.str _) (.cons (.int 0) (.cons (.int _) .nil))), .tup (SqT.of upd_same) (.cons (.str _) (.cons (.int 0) (.cons (.int _) .nil))), text_sh _, text_sh _, _, rfl, iteF' (by rw [text_eq]; rfl) ?_⟩
            refine ⟨_, rfl, rfl, _, rfl, iteF' (decide_eq_false fun q => by cases q) (iteF ?_)⟩
            exact ⟨⟨_, _, _, _, _, _, _, _, rfl⟩, (xB.trans (Kx.ext x12)).trans (Kx.same s13), ((hB.ext x12).same s13).mono (by omega), t12.ext s13⟩
          · rw [eP] at hn
            cases hn
        | none =>
          refine ⟨_, rfl, .inl ⟨rfl, _, SqL.of gfB⟩, rfl, _, rfl, _, rfl, .inr ⟨z, rfl, yfit, fun j2 hj => ?_, fun hn q H12 xs2 s12 R12 => ?_⟩⟩
          · rw [eP] at hj
            cases hj
          · obtain ⟨b1, b2, b3⟩ := bk eP
            have gfC := s12 _ _ gfB
            refine ⟨fo, _, _, rfl, rfl, gfC, by show 0 < sizeLine; decide, hR _ _ fun H13 s13 => ?_⟩
            have RD := (R12.keptL gfC (Kept.upd (o := .lst ([] ++ [.ref q])))).same s13
            have gfD := s13 _ _ (upd_same (H := H12) (a := fo) (o := .lst ([] ++ [.ref q])))
            have xD := (Kx.put (o := .lst ([] ++ [.ref q])) (x6.trans (Kx.same (Same.refl _))) hfo (xB.trans (Kx.same s12))).trans (Kx.same s13)
            have hD := (((hB.same s12).put2 (o := .lst ([] ++ [.ref q])) foa foc)).same s13
            have tD := (tabs_put (ys := [] ++ [V.ref q]) gfC (t11.ext s12)).ext (fun b o e => s13 b o e)
            obtain ⟨dq, _, _, _, _, rq, _⟩ := id RD
            rw [eP]
            refine ⟨_, rfl, _, rfl, rfl, _, rfl, iteT' rfl ?_⟩
            refine ⟨.none, .none, .non, .non, rfl, rfl, _, rfl, iteF' rfl ?_⟩
            refine ⟨_, rfl, rfl, _, rfl, iteT' rfl ?_⟩
            refine ⟨_, rfl, fo, _, _, _, rfl, rfl, SqL.of gfD, atI_nat (j := 0) rfl, q, dq, _, rfl, rq, q, xs2, _, rfl, RD, b2, fun H14 s14 => ⟨_, rfl, _, rfl, rfl, _, rfl, ?_⟩⟩
            rw [b1]
            refine iteF' (by rw [decide_eq_true rfl]; rfl) ?_
            exact ⟨⟨_, _, _, _, _, _, _, _, rfl⟩, xD.trans (Kx.same s14), (hD.same s14).mono (by omega), tD.ext s14⟩
      obtain ⟨j, rfl⟩ : ∃ j : Nat, at_ = (j : Int) := ⟨at_.toNat, by omega⟩
      have hj : j < zs.length := by omega
      have atz : (zs.map V.str)[j]? = some (.str zs[j]) := by rw [List.getElem?_map, List.getElem?_eq_getElem hj]; rfl
      refine ⟨_, rfl, _, _, rfl, rfl, _, rfl, ?_⟩
      by_cases w2 : way < 2
      · refine iteT' (decide_eq_true w2) ?_
        refine ⟨_, rfl, by show 13 ≤ sizeLine; decide, fun O0 hO0 => ?_⟩
        have sO := same_upd (o := .lst (B13.map V.str)) hO0
        have Oa := h5.ne hO0
        have gL := sO _ _ g5
        refine ⟨a, c, O0, B13.map V.str, n + 3 * i + 2, rfl, h5.same sO, by omega, Oa, upd_same, by show 0 < 13; decide, by show 13 ≤ 1000; decide, fun v hv H7 d7 => ?_⟩
        obtain ⟨z, hz, rfl⟩ := List.mem_map.mp hv
        have g7 := d7.2 _ _ La gL
        refine ⟨_, rfl, _, rfl, L, _, _, j, rfl, rfl, g7, Evl.ixN_nat (by rw [List.length_map]; exact hj), ?_⟩
        have x7 := (x5.trans (Kx.same sO)).trans (Kx.kept d7.2)
        exact cont L _ (Kx.put x2 hL x7) (d7.1.put2 La Lc) (tabs_put g7 (d7.tabs (h5.same sO) (t5.ext sO))) ((tx_set zp (m := 28) (by omega) (b13_ok z hz)).mono (by decide))
      refine iteF' (decide_eq_false w2) ?_
      refine ⟨_, rfl, rfl, _, rfl, ?_⟩
      by_cases w3 : way = 2
      · refine iteT' (decide_eq_true (by rw [w3])) ?_
        refine ⟨_, rfl, .inl ⟨rfl, _, SqL.of g5⟩, _, rfl, _, rfl, by show 6 ≤ sizeLine; decide, fun O0 hO0 => ?_⟩
        have sO := same_upd (o := .lst (B6.map V.str)) hO0
        have Oa := h5.ne hO0
        have gL := sO _ _ g5
        refine ⟨a, c, O0, B6.map V.str, n + 3 * i + 2, rfl, h5.same sO, by omega, Oa, upd_same, by show 0 < 6; decide, by show 6 ≤ 1000; decide, fun v hv H7 d7 => ?_⟩
        obtain ⟨z, hz, rfl⟩ := List.mem_map.mp hv
        have g7 := d7.2 _ _ La gL
        refine ⟨L, _, _, _, rfl, rfl, g7, Evl.sz_lt (by rw [List.length_map]; omega), by omega, by omega, ?_⟩
        rw [Int.toNat_natCast]
        have x7 := (x5.trans (Kx.same sO)).trans (Kx.kept d7.2)
        exact cont L _ (Kx.put x2 hL x7) (d7.1.put2 La Lc) (tabs_put g7 (d7.tabs (h5.same sO) (t5.ext sO))) ((tx_ins zp (m := 28) (by omega) (b6_ok z hz)).mono (by decide))
      refine iteF' (decide_eq_false fun q => w3 (by injection q)) ?_
      refine ⟨_, rfl, rfl, _, rfl, ?_⟩
      by_cases w4 : way = 3
      · refine iteT' (decide_eq_true (by rw [w4])) ?_
        refine ⟨_, rfl, .inl ⟨rfl, _, SqL.of g5⟩, _, rfl, L, _, _, j, _, rfl, rfl, g5, by omega, by omega, by rw [PySem.seqIndex_of (by omega) (by rw [List.length_map]; omega), Int.toNat_natCast], atz, ?_⟩
        exact cont L _ (Kx.put x2 hL x5) ((h5.mono (by omega)).put2 La Lc) (tabs_put g5 t5) ((tx_pop zp (m := 28) (by omega)).mono (by decide))
      refine iteF' (decide_eq_false fun q => w4 (by injection q)) ?_
      refine ⟨_, rfl, rfl, _, rfl, ?_⟩
      by_cases w5 : way = 4
      · refine iteT' (decide_eq_true (by rw [w5])) ?_
        have tx5 : Tx H5 L 28 := tx_of g5 zp (by omega)
        refine ⟨_, rfl, _, rfl, ?_⟩
        refine ⟨by show 1 ≤ sizeLine; decide, fun q1 hq1 => ?_⟩
        have sq1 := same_upd (o := .lst [.str "/"]) hq1
        have gq1 : L2.upd H5 q1 (.lst [.str "/"]) q1 = some (.lst [.str "/"]) := upd_same
        obtain ⟨Kq1, eq1⟩ : ∃ K, K = L2.upd H5 q1 (.lst [.str "/"]) := ⟨_, rfl⟩
        rw [← eq1] at sq1 gq1 ⊢
        refine tx_cat (tx5.same (sq1)) (tx_one gq1) (by decide) fun r1 Kr1 hr1 sr1 xr1 => ?_
        have nr1 := (h5.same (sq1)).ne hr1
        refine ⟨by show 1 ≤ sizeLine; decide, fun q2 hq2 => ?_⟩
        have sq2 := same_upd (o := .lst [.str "/"]) hq2
        have gq2 : L2.upd Kr1 q2 (.lst [.str "/"]) q2 = some (.lst [.str "/"]) := upd_same
        obtain ⟨Kq2, eq2⟩ : ∃ K, K = L2.upd Kr1 q2 (.lst [.str "/"]) := ⟨_, rfl⟩
        rw [← eq2] at sq2 gq2 ⊢
        refine ⟨_, rfl, ?_⟩
        refine tx_cat (tx_one gq2) (tx5.same (((sq1).trans sr1).trans sq2)) (by decide) fun r2 Kr2 hr2 sr2 xr2 => ?_
        have nr2 := (h5.same (((sq1).trans sr1).trans sq2)).ne hr2
        refine ⟨_, rfl, _, rfl, ?_⟩
        refine tx_cat (tx5.same ((((sq1).trans sr1).trans sq2).trans sr2)) (tx5.same ((((sq1).trans sr1).trans sq2).trans sr2)) (by decide) fun r3 Kr3 hr3 sr3 xr3 => ?_
        have nr3 := (h5.same ((((sq1).trans sr1).trans sq2).trans sr2)).ne hr3
        refine ⟨_, rfl, ?_⟩
        refine tc_rep ?_
        refine tx_rep (n := 5) (kk := 5) rfl (tx5.same (((((sq1).trans sr1).trans sq2).trans sr2).trans sr3)) (by decide) (by decide) fun r4 Kr4 hr4 sr4 xr4 => ?_
        have nr4 := (h5.same (((((sq1).trans sr1).trans sq2).trans sr2).trans sr3)).ne hr4
        refine ⟨_, rfl, ?_⟩
        refine ⟨by show 1 ≤ sizeLine; decide, fun q5 hq5 => ?_⟩
        have sq5 := same_upd (o := .lst [.str "/"]) hq5
        have gq5 : L2.upd Kr4 q5 (.lst [.str "/"]) q5 = some (.lst [.str "/"]) := upd_same
        obtain ⟨Kq5, eq5⟩ : ∃ K, K = L2.upd Kr4 q5 (.lst [.str "/"]) := ⟨_, rfl⟩
        rw [← eq5] at sq5 gq5 ⊢
        refine tx_cat (tx5.same (((((((sq1).trans sr1).trans sq2).trans sr2).trans sr3).trans sr4).trans sq5)) (tx_one gq5) (by decide) fun r5a Kr5a hr5a sr5a xr5a => ?_
        have nr5a := (h5.same (((((((sq1).trans sr1).trans sq2).trans sr2).trans sr3).trans sr4).trans sq5)).ne hr5a
        refine ⟨_, rfl, ?_⟩
        refine tx_cat xr5a (tx5.same ((((((((sq1).trans sr1).trans sq2).trans sr2).trans sr3).trans sr4).trans sq5).trans sr5a)) (by decide) fun r5 Kr5 hr5 sr5 xr5 => ?_
        have nr5 := (h5.same ((((((((sq1).trans sr1).trans sq2).trans sr2).trans sr3).trans sr4).trans sq5).trans sr5a)).ne hr5
        refine ⟨_, rfl, L, _, rfl, SqL.of ((((((((((sq1).trans sr1).trans sq2).trans sr2).trans sr3).trans sr4).trans sq5).trans sr5a).trans sr5) _ _ g5), fun r6 hr6 => ?_⟩
        have nr6 := (h5.same (((((((((sq1).trans sr1).trans sq2).trans sr2).trans sr3).trans sr4).trans sq5).trans sr5a).trans sr5)).ne hr6
        have sr6 := same_upd (o := .lst (zs.map V.str).reverse) hr6
        have xr6 : Tx (L2.upd Kr5 r6 (.lst (zs.map V.str).reverse)) r6 28 := tx_rev upd_same zp (by omega)
        obtain ⟨Kr6, er6⟩ : ∃ K, K = L2.upd Kr5 r6 (.lst (zs.map V.str).reverse) := ⟨_, rfl⟩
        rw [← er6] at sr6 xr6 ⊢
        refine ⟨_, rfl, by show 4 ≤ sizeLine; decide, fun q7 hq7 => ?_⟩
        have sq7 := same_upd (o := .lst ((["/", "d", "/", "d'"] : List Str).map V.str)) hq7
        have xq7 : Tx (L2.upd Kr6 q7 (.lst ((["/", "d", "/", "d'"] : List Str).map V.str))) q7 4 := tx_of upd_same d4_ok (by decide)
        obtain ⟨Kq7, eq7⟩ : ∃ K, K = L2.upd Kr6 q7 (.lst ((["/", "d", "/", "d'"] : List Str).map V.str)) := ⟨_, rfl⟩
        have eq7' : L2.upd Kr6 q7 (.lst [.str "/", .str "d", .str "/", .str "d'"]) = Kq7 := eq7.symm
        rw [eq7']
        rw [← eq7] at sq7 xq7
        refine tc_rep ?_
        refine tx_rep (n := 2) (kk := 2) rfl xq7 (by decide) (by decide) fun r7a Kr7a hr7a sr7a xr7a => ?_
        refine tx_cat (tx5.same ((((((((((((sq1).trans sr1).trans sq2).trans sr2).trans sr3).trans sr4).trans sq5).trans sr5a).trans sr5).trans sr6).trans sq7).trans sr7a)) xr7a (by decide) fun r7 Kr7 hr7 sr7 xr7 => ?_
        have nr7 := (h5.same ((((((((((((sq1).trans sr1).trans sq2).trans sr2).trans sr3).trans sr4).trans sq5).trans sr5a).trans sr5).trans sr6).trans sq7).trans sr7a)).ne hr7
        refine ⟨by show 7 ≤ sizeLine; decide, fun O0 hO0 => ?_⟩
        have sO := same_upd (o := .lst [.ref r1, .ref r2, .ref r3, .ref r4, .ref r5, .ref r6, .ref r7]) hO0
        have Oa := (h5.same (((((((((((((sq1).trans sr1).trans sq2).trans sr2).trans sr3).trans sr4).trans sq5).trans sr5a).trans sr5).trans sr6).trans sq7).trans sr7a).trans sr7)).ne hO0
        have s5O := ((((((((((((((sq1).trans sr1).trans sq2).trans sr2).trans sr3).trans sr4).trans sq5).trans sr5a).trans sr5).trans sr6).trans sq7).trans sr7a).trans sr7).trans sO)
        refine ⟨a, c, O0, _, n + 3 * i + 2, rfl, h5.same s5O, by omega, Oa, upd_same, by show 0 < 7; decide, by show 7 ≤ 1000; decide, fun v hv H7 d7 => ?_⟩
        have x7 := (x5.trans (Kx.same s5O)).trans (Kx.kept d7.2)
        have t7 := d7.tabs (h5.same s5O) (t5.ext s5O)
        have kt : ∀ {q : Addr} {m : Nat}, q ≠ a → Tx (L2.upd Kr7 O0 (.lst [.ref r1, .ref r2, .ref r3, .ref r4, .ref r5, .ref r6, .ref r7])) q m → Tx H7 q m := fun hq ⟨zs, g, r⟩ => ⟨zs, d7.2 _ _ hq g, r⟩
        simp only [List.mem_cons, List.mem_nil_iff, or_false] at hv
        rcases hv with rfl | rfl | rfl | rfl | rfl | rfl | rfl
        · exact cont _ _ x7 d7.1 t7 ((kt nr1 (xr1.same ((((((((((((sq2).trans sr2).trans sr3).trans sr4).trans sq5).trans sr5a).trans sr5).trans sr6).trans sq7).trans sr7a).trans sr7).trans sO))).mono (by decide))
        · exact cont _ _ x7 d7.1 t7 ((kt nr2 (xr2.same ((((((((((sr3).trans sr4).trans sq5).trans sr5a).trans sr5).trans sr6).trans sq7).trans sr7a).trans sr7).trans sO))).mono (by decide))
        · exact cont _ _ x7 d7.1 t7 ((kt nr3 (xr3.same (((((((((sr4).trans sq5).trans sr5a).trans sr5).trans sr6).trans sq7).trans sr7a).trans sr7).trans sO))).mono (by decide))
        · exact cont _ _ x7 d7.1 t7 ((kt nr4 (xr4.same ((((((((sq5).trans sr5a).trans sr5).trans sr6).trans sq7).trans sr7a).trans sr7).trans sO))).mono (by decide))
        · exact cont _ _ x7 d7.1 t7 ((kt nr5 (xr5.same (((((sr6).trans sq7).trans sr7a).trans sr7).trans sO))).mono (by decide))
        · exact cont _ _ x7 d7.1 t7 ((kt nr6 (xr6.same ((((sq7).trans sr7a).trans sr7).trans sO))).mono (by decide))
        · exact cont _ _ x7 d7.1 t7 ((kt nr7 (xr7.same (sO))).mono (by decide))
      refine iteF' (decide_eq_false fun q => w5 (by injection q)) ?_
      exact cont L _ x5 (h5.mono (by omega)) t5 ((tx_of g5 zp (m := 28) (by omega)).mono (by decide))
    · rintro σ H1 ⟨⟨v2, v3, v4, v5, v6, v7, v8, v9, rfl⟩, x1, h1, t1⟩
      obtain ⟨hp1, hu1⟩ := x1.refs hH hp hu'
      refine ⟨_, rfl, by show 2 ≤ sizeLine; decide, fun q1 hq1 => ⟨_, rfl, by show 1 ≤ sizeLine; decide, fun q2 hq2 => ⟨by show 6 ≤ sizeLine; decide, fun O0 hO0 => ?_⟩⟩⟩
      have sq1 := same_upd (o := .lst [.str "a", .str "a'"]) hq1
      have gq1 : L2.upd H1 q1 (.lst [.str "a", .str "a'"]) q1 = some (.lst [.str "a", .str "a'"]) := upd_same
      obtain ⟨K1, eq1⟩ : ∃ K, K = L2.upd H1 q1 (.lst [.str "a", .str "a'"]) := ⟨_, rfl⟩
      rw [← eq1] at sq1 gq1 hq2 hO0 ⊢
      have sq2 := same_upd (o := .tup [.str "a a'"]) hq2
      have gq2 : L2.upd K1 q2 (.tup [.str "a a'"]) q2 = some (.tup [.str "a a'"]) := upd_same
      obtain ⟨K2, eq2⟩ : ∃ K, K = L2.upd K1 q2 (.tup [.str "a a'"]) := ⟨_, rfl⟩
      rw [← eq2] at sq2 gq2 hO0 ⊢
      have sO := same_upd (o := .lst [.non, .int 5, .ref q1, .bl true, .ref p, .ref q2]) hO0
      have h0 := (h1.same sq1).same sq2
      have Oa := h0.ne hO0
      have n1 := h1.ne hq1
      have n2 := (h1.same sq1).ne hq2
      have np := h1.ne_refs hp1 hu1.refs
      refine ⟨a, c, O0, _, n + 18, rfl, h0.same sO, by omega, Oa, upd_same, by show 0 < 6; decide, by show 6 ≤ 1000; decide, fun v hv H7 d7 => ?_⟩
      have sA := (sq1.trans sq2).trans sO
      have x7 := (x1.trans (Kx.same sA)).trans (Kx.kept d7.2)
      have t7 := d7.tabs (h0.same sO) (t1.ext sA)
      have g1 := d7.2 _ _ n1 ((sq2.trans sO) _ _ gq1)
      have g2 := d7.2 _ _ n2 (sO _ _ gq2)
      have gp := d7.2 _ _ np (sA _ _ hp1)
      have nots : NotS H7 v := by
        simp only [List.mem_cons, List.mem_nil_iff, or_false] at hv
        rcases hv with rfl | rfl | rfl | rfl | rfl | rfl
        · exact ⟨_, .non, rfl⟩
        · exact ⟨_, .int _, rfl⟩
        · exact ⟨_, .lst g1, rfl⟩
        · exact ⟨_, .bl _, rfl⟩
        · exact ⟨_, .lst gp, rfl⟩
        · exact ⟨_, .tup g2, rfl⟩
      refine ⟨t7, fun H8 x8 t8 R_ hR => ?_⟩
      refine ⟨rfl, _, rfl, _, rfl, .inl ⟨nots.ext x8, ?_⟩⟩
      refine ef_text (LamX.ExtN.refl _) t8 fun H9 u x9 t9 g9 => ?_
      refine ⟨by show 3 ≤ sizeLine; decide, fun t3 ht3 => ?_⟩
      have s13 := same_upd (o := .tup [.str "text", .int 0, .int 0]) ht3
      refine ⟨.tuple [.str "text", .int 0, .int 0], .tuple [.str "text", .int 0, .int 0], .tup (SqT.of (s13 _ _ g9)) (.cons (.str _) (.cons (.int 0) (.cons (.int _) .nil))), .tup (SqT.of upd_same) (.cons (.str _) (.cons (.int 0) (.cons (.int _) .nil))), text_sh _, text_sh _, ?_⟩
      rw [text_eq]
      exact k _ (((x7.trans (Kx.ext x8)).trans (Kx.ext x9)).trans (Kx.same s13)) ((((d7.1.ext x8).ext x9).same s13).mono (by omega)) (t9.ext s13)

end
end W11
set_option Elab.async false
set_option linter.all false
set_option maxRecDepth 100000
set_option maxHeartbeats 1000000
namespace W11
open PySem L2 PySem.Spec PyProof.Rows WR WB WE WS
/-! ### rims refused: what is heard -/
def spOr (s1 s2 : Sp) : Sp := fun vs H Q E => s1 vs H Q E ∨ s2 vs H Q E
theorem fn_or {P : Program} {w : World} {K : PySem.W.Frag} {mg : Str → Option Value} {base : Heap} {k : Nat} {f : Addr} {fd : FuncData} {ps : List Str} {s1 s2 : Sp} (F1 : FnOk P w K mg base CX0 k f fd ps s1) (F2 : FnOk P w K mg base (L2.CX P w) k f fd ps s2) : FnOk P w K mg base (L2.CX P w) k f fd ps (spOr s1 s2) := by
  refine ⟨fun vs H Q E h => h.elim (F1.len vs H Q E) (F2.len vs H Q E), fun A outer s H args us vs Q E hr e0 hb r h => ?_⟩
  rcases h with h | h
  · refine codeAny_mono (F1.run A outer s H args us vs Q E hr e0 hb r h) fun r s' q => ?_
    match r, q with
    | .ok (.ret u), q => exact q
    | .error e, q => exact (show False from q).elim
  · exact F2.run A outer s H args us vs Q E hr e0 hb r h
structure MkRX (P : Program) (w : World) (K : PySem.W.Frag) (mg : Str → Option Value) (base : Heap) (C CR CBW CTM CUB : Addr) : Prop where
  ex : ∃ (f : Addr) (fd : FuncData), Mk K CR f ∧ FnOk P w K mg base (L2.CX P w) 5 f fd ["self", "words"] (spOr (spInitR K C CR) (spInitRX K C CR CBW CTM CUB)) ∧ Binds K fd ["self", "words"] []
  g : mg "Rims" = some (.ref CR)
theorem pe_rimsX {X : Cx} {C CR CBW CTM CUB : Addr} {p pos : Pos} {e : Expr} {es : List Expr} {t : TA} {j : Nat} {K : PySem.W.Frag} {E : XK} (hK : X.K = K) (M : MkRX X.prog X.w K X.mg X.base C CR CBW CTM CUB) (hr : Room j X.A) (hkj : 6 ≤ j) (hx : Passes (L2.CX X.prog X.w) X E) (hg : Gl X "Rims") (ha : PA X (e :: es) t)
    (he : starEach (e :: es) X.env = (false, eval e X.env) :: starEach es X.env := by rfl) (hpl : (backTo pos (starEach es X.env)).any (·.1) = false := by rfl) :
    PE X (.Call (.Name "Rims" p) (e :: es) [] pos) (tMake CR (spOr (spInitR K C CR) (spInitRX K C CR CBW CTM CUB)) [] E t) := by
  subst hK
  obtain ⟨f, fd, M1, F, hb⟩ := M.ex
  exact pe_make M1 F (hr.mono hkj) hg M.g hb .nil hx ha (by decide) he hpl
abbrev sRR : Stmt := top 58
abbrev nRR : List Str := ["_law_pen_here", "_law_words", "_law_made", "_law_one", "_law_spoilt", "_law_odd", "_law_long", "_law_heard_here", "_law_due", "_law_word"]
theorem scRR : FnScope nRR ["_law_pen_here", "_law_words"] (defScope sRR) := ⟨rfl, rfl, rfl, by decide +kernel, rfl, by decide +kernel, by decide +kernel⟩
abbrev qRR : Str := ("_law_refused_right" : Str) ++ ".<locals>." ++ "<lambda>"
def spRR (T : List (Addr × Str)) : Sp := fun vs H Q _ => ∃ (a c p : Addr) (us : List V) (ws : List (List Int)) (n : Nat), vs = [.ref a, .ref p] ∧ HandAt H a c n ∧ n ≤ 6000 ∧ H p = some (.lst us) ∧ LLs H us ws ∧ RimOk ws ∧ LamX.Tabs T H ∧
  ∀ H', HandAt H' a c (n + 4) → LamX.Tabs T H' → Q (.bl true) H'
/-- a display that makes a tuple that stays as it is -/
def tTupB (K : PySem.W.Frag) (t : TA) : TE := fun σ H Q => t σ H fun xs H1 => xs.length ≤ sizeLine ∧ NewB K H1 Q xs
theorem pe_tupBK {X : Cx} {K : PySem.W.Frag} {es : List Expr} {t : TA} {pos : Pos} {x1} (hK : X.K = K) (h : PA X es t) : PE X (.Tuple es x1 pos) (tTupB K t) := by
  subst hK
  exact pe_tupB h
theorem tupB1 {K : PySem.W.Frag} {ts : TA} {σ : L2.St} {H : Hp} {Q : VK} (h : ts σ H fun xs H1 => xs.length ≤ sizeLine ∧ NewB K H1 Q xs) : tTupB K ts σ H Q := h
/-- what a word is not -/
structure XWd (K : PySem.W.Frag) (C : Addr) : Prop where
  nN : PySem.W.kitOne K (.type "NoneType") (.ref C) = some false
  nI : PySem.W.kitOne K (.type "int") (.ref C) = some false
  nB : PySem.W.kitOne K (.type "bool") (.ref C) = some false
  nS : PySem.W.kitOne K (.type "str") (.ref C) = some false
  nL : PySem.W.kitOne K (.type "list") (.ref C) = some false
  nT : PySem.W.kitOne K (.type "tuple") (.ref C) = some false
section
variable {K : PySem.W.Frag} {C CR CBW CTM CUB CT CNP : Addr} {H H' : Hp}
theorem Typ.ext {x : V} {t : String} (h : Typ H x t) (s : LamX.ExtN H H') : Typ H' x t := by
  cases h with
  | int i => exact .int i
  | bl b => exact .bl b
  | str z => exact .str z
  | non => exact .non
  | lst e => exact .lst (s _ _ e fun ps q => by cases q)
  | tup e => exact .tup (s _ _ e fun ps q => by cases q)
  | dct e => exact .dct (s _ _ e fun ps q => by cases q)
theorem FilB.ext {x : V} {b : Bool} (h : FilB K C H x b) (s : LamX.ExtN H H') : FilB K C H' x b := by
  rcases h with ⟨⟨t, h1, h2⟩, e⟩ | ⟨p, ns, e, h, e2⟩
  · exact .inl ⟨⟨t, h1.ext s, h2⟩, e⟩
  · exact .inr ⟨p, ns, e, WordAt.extN s h, e2⟩
theorem FilB.keptL {l : Addr} {vs : List V} {x : V} {b : Bool} (hl : H l = some (.lst vs)) (d : Kept l H H') (h : FilB K C H x b) (hx : x ≠ .ref l) : FilB K C H' x b := by
  rcases h with ⟨⟨t, h1, h2⟩, e⟩ | ⟨p, ns, e, h, e2⟩
  · refine .inl ⟨⟨t, ?_, h2⟩, e⟩
    clear h2
    cases h1 with
    | int i => exact .int i
    | bl b => exact .bl b
    | str z => exact .str z
    | non => exact .non
    | lst e => exact .lst (d _ _ (fun z => hx (by rw [z])) e)
    | tup e => exact .tup (d _ _ (fun z => hx (by rw [z])) e)
    | dct e => exact .dct (d _ _ (fun z => hx (by rw [z])) e)
  · exact .inr ⟨p, ns, e, h.keptL hl d, e2⟩
theorem LstB.ext {x : V} {b : Bool} (h : LstB K C H x b) (s : LamX.ExtN H H') : LstB K C H' x b := by
  rcases h with ⟨t, h1, e⟩ | ⟨p, ns, e, h, e2⟩
  · exact .inl ⟨t, h1.ext s, e⟩
  · exact .inr ⟨p, ns, e, WordAt.extN s h, e2⟩
theorem Trk.ext {a : Addr} {us : List V} (h : Trk H a us) (s : LamX.ExtN H H') : Trk H' a us :=
  h.imp (fun e => s _ _ e fun ps q => by cases q) (fun e => s _ _ e fun ps q => by cases q)
/-- no list of one to four words that have letters -/
def NoRm (K : PySem.W.Frag) (C : Addr) (H : Hp) (x : V) : Prop := ∃ b, LstB K C H x b ∧ (b = false ∨ ∃ a us, x = .ref a ∧ Trk H a us ∧ b = true ∧ us.length ≤ 1000 ∧
  (¬ (1 ≤ us.length ∧ us.length ≤ 4) ∨ ((1 ≤ us.length ∧ us.length ≤ 4) ∧ ∃ fb : V → Bool, (∀ v ∈ us, FilB K C H v (fb v)) ∧ us.all fb = false)))
theorem NoRm.ext {x : V} (h : NoRm K C H x) (s : LamX.ExtN H H') : NoRm K C H' x := by
  obtain ⟨b, h1, h⟩ := h
  refine ⟨b, h1.ext s, h.imp id ?_⟩
  rintro ⟨a, us, e, t, eb, l, h⟩
  refine ⟨a, us, e, t.ext s, eb, l, h.imp id ?_⟩
  rintro ⟨l2, fb, hf, ha⟩
  exact ⟨l2, fb, fun v hv => (hf v hv).ext s, ha⟩
theorem NoRm.typ {x : V} {t : String} (h : Typ H x t) (e : (t == "list" || t == "tuple") = false) : NoRm K C H x := ⟨false, .inl ⟨t, h, e.symm⟩, .inl rfl⟩
theorem NoRm.word {p : Addr} {ns : List Int} (h : WordAt K C H p ns) : NoRm K C H (.ref p) := ⟨false, .inr ⟨p, ns, rfl, h, rfl⟩, .inl rfl⟩
theorem NoRm.len {p : Addr} {us : List V} (h : Trk H p us) (l : us.length ≤ 1000) (n : ¬ (1 ≤ us.length ∧ us.length ≤ 4)) : NoRm K C H (.ref p) :=
  ⟨true, h.elim (fun g => .inl ⟨"list", .lst g, rfl⟩) (fun g => .inl ⟨"tuple", .tup g, rfl⟩), .inr ⟨p, us, rfl, h, rfl, l, .inl n⟩⟩
theorem NoRm.one {p : Addr} {us : List V} {w : V} (h : Trk H p us) (l : 1 ≤ us.length ∧ us.length ≤ 4) (hw : w ∈ us) (fw : FilB K C H w false) (fo : ∀ v ∈ us, v ≠ w → FilB K C H v true) : NoRm K C H (.ref p) := by
  refine ⟨true, h.elim (fun g => .inl ⟨"list", .lst g, rfl⟩) (fun g => .inl ⟨"tuple", .tup g, rfl⟩), .inr ⟨p, us, rfl, h, rfl, by omega, .inr ⟨l, ?_⟩⟩⟩
  refine ⟨fun v => @ite Bool (v = w) (Classical.propDecidable _) false true, fun v hv => ?_, ?_⟩
  · dsimp only
    rcases Classical.em (v = w) with e | e
    · rw [if_pos e, e]
      exact fw
    · rw [if_neg e]
      exact fo v hv e
  · rw [List.all_eq_false]
    exact ⟨w, hw, by rw [if_pos rfl]; decide⟩
theorem bare_same {H1 : Hp} {x dx : Addr} (nx : H1 x = none) (ndx : H1 dx = none) : Same H1 (L2.upd (L2.upd H1 dx (.own x)) x (.ins CR dx [])) := fun b o e => by
  rw [upd_ne (ne_of_none e nx), upd_ne (ne_of_none e ndx)]
  exact e
theorem rx_word {H1 : Hp} {x dx : Addr} {v : V} {Q : VK} {E : XK} (nx : H1 x = none) (ndx : H1 dx = none) (h : NoRm K C H1 v) (kb : ∀ H2, Same H1 H2 → Bad "part" CBW E H2 (.str "words")) :
    spOr (spInitR K C CR) (spInitRX K C CR CBW CTM CUB) [.ref x, v] (L2.upd (L2.upd H1 dx (.own x)) x (.ins CR dx [])) Q E := by
  have s0 := bare_same (CR := CR) nx ndx
  obtain ⟨b, hb, h⟩ := h
  refine .inr ⟨H1, x, dx, v, b, rfl, s0, nx, upd_same, hb, ?_⟩
  rcases h with rfl | ⟨a, us, rfl, t, rfl, l, h⟩
  · exact .inl ⟨rfl, kb _ s0⟩
  · refine .inr ⟨a, us, rfl, t, rfl, l, h.imp (fun h => ⟨h, kb _ s0⟩) ?_⟩
    rintro ⟨l2, fb, hf, ha⟩
    exact ⟨l2, .inl ⟨fb, hf, ha, kb _ s0⟩⟩
theorem rx_ws {H1 : Hp} {x dx l : Addr} {xs : List Addr} {ws : List (List Int)} {Q : VK} {E : XK} (nx : H1 x = none) (ndx : H1 dx = none) (tr : Trk H1 l (xs.map V.ref)) (hW : Wds K C H1 xs ws) (l1 : 1 ≤ ws.length) (l4 : ws.length ≤ 4) (hne : ∀ w ∈ ws, w ≠ []) (l60 : ws.flatten.length ≤ 60) (lts : Lts ws.flatten)
    (h : (24 < ws.flatten.length ∧ ∀ H2, Same H1 H2 → BadM CTM E H2 (.str "letters") 24) ∨ (ws.flatten.length ≤ 24 ∧ ∃ k m r, Fr.bal ws.flatten = (k, m) :: r ∧ ∀ H2, Same H1 H2 → Bad "kind" CUB E H2 (.int k))) :
    spOr (spInitR K C CR) (spInitRX K C CR CBW CTM CUB) [.ref x, .ref l] (L2.upd (L2.upd H1 dx (.own x)) x (.ins CR dx [])) Q E := by
  have s0 := bare_same (CR := CR) nx ndx
  have lx := hW.length
  refine .inr ⟨H1, x, dx, .ref l, true, rfl, s0, nx, upd_same, tr.elim (fun g => .inl ⟨"list", .lst g, rfl⟩) (fun g => .inl ⟨"tuple", .tup g, rfl⟩), .inr ⟨l, _, rfl, tr, rfl, by rw [List.length_map]; omega, .inr ⟨by rw [List.length_map]; omega, .inr ⟨xs, ws, rfl, hW, hne, l60, lts, ?_⟩⟩⟩⟩
  rcases h with ⟨h, kb⟩ | ⟨h, k, m, r, e, kb⟩
  · exact .inl ⟨h, kb _ s0⟩
  · exact .inr ⟨h, k, m, r, e, kb _ s0⟩
/-- a word made of a list of numbers -/
theorem mkw {t : TE} {σ : L2.St} {Q : VK} {ns : List Int} (hlen : ns.length ≤ 500) (hl : Lts ns) (ht : ∀ R : VK, (∀ l H1, H l = none → Same H H1 → H1 l = some (.lst (iv ns)) → R (.ref l) H1) → t σ H R) (k : ∀ q H', Same H H' → WordAt K C H' q ns → Q (.ref q) H') : tMake C (spInit K C) [] E0 (tCons t tNil) σ H Q :=
  ht _ fun l H1 hl1 s1 g x dx nx ndx _ => make_at nx ndx (.inl (SqL.of g)) hlen hl fun H2 s2 W => k x H2 (s1.trans s2) W
/-! what was heard, in a row -/
def TwoP (H : Hp) (v : V) (d : PyData) : Prop := (v = .non ∧ d = .none) ∨ (∃ t s z, v = V.ref t ∧ H t = some (.tup [.str s, .str z]) ∧ d = .tuple [.str s, .str z]) ∨ (∃ t s i, v = V.ref t ∧ H t = some (.tup [.str s, .int i]) ∧ d = .tuple [.str s, .int i])
theorem TwoP.ext {v : V} {d : PyData} (h : TwoP H v d) (s : LamX.ExtN H H') : TwoP H' v d := by
  rcases h with h | ⟨t, z, y, e, g, ed⟩ | ⟨t, z, i, e, g, ed⟩
  · exact .inl h
  · exact .inr (.inl ⟨t, z, y, e, s _ _ g (fun ps q => by cases q), ed⟩)
  · exact .inr (.inr ⟨t, z, i, e, s _ _ g (fun ps q => by cases q), ed⟩)
theorem TwoP.put {v : V} {d : PyData} {l : Addr} {us : List V} {o : HO} (h : TwoP H v d) (hl : H l = some (.lst us)) : TwoP (L2.upd H l o) v d := by
  rcases h with h | ⟨t, z, y, e, g, ed⟩ | ⟨t, z, i, e, g, ed⟩
  · exact .inl h
  · exact .inr (.inl ⟨t, z, y, e, by rw [upd_ne (fun z => by rw [z, hl] at g; cases g)]; exact g, ed⟩)
  · exact .inr (.inr ⟨t, z, i, e, by rw [upd_ne (fun z => by rw [z, hl] at g; cases g)]; exact g, ed⟩)
theorem TwoP.dp {v : V} {d : PyData} (h : TwoP H v d) : Dp K H v d := by
  rcases h with ⟨rfl, rfl⟩ | ⟨t, z, y, rfl, g, rfl⟩ | ⟨t, z, i, rfl, g, rfl⟩
  · exact .non
  · exact .tup (SqT.of g) (.cons (.str _) (.cons (.str _) .nil))
  · exact .tup (SqT.of g) (.cons (.str _) (.cons (.int _) .nil))
theorem twoP_dp : ∀ {vs : List V} {ds : List PyData}, All2 (TwoP H) vs ds → DpAll K H vs ds := by
  intro vs ds h
  induction h with
  | nil => exact .nil
  | cons h1 _ ih => exact .cons h1.dp ih
def HL (H : Hp) (L : Addr) (ds : List PyData) : Prop := ∃ us, H L = some (.lst us) ∧ All2 (TwoP H) us ds
theorem HL.ext {L : Addr} {ds : List PyData} (h : HL H L ds) (s : LamX.ExtN H H') : HL H' L ds := by
  obtain ⟨us, g, r⟩ := h
  exact ⟨us, s _ _ g (fun ps q => by cases q), r.imp fun _ _ h => h.ext s⟩
theorem HL.dp {L : Addr} {ds : List PyData} (h : HL H L ds) : Dp K H (.ref L) (.list ds) := by
  obtain ⟨us, g, r⟩ := h
  exact .lst (SqL.of g) (twoP_dp r)
structure RI (K : PySem.W.Frag) (C : Addr) (T : List (Addr × Str)) (a c lw L : Addr) (n : Nat) (nl : List Int) (ds : List PyData) (H : Hp) : Prop where
  hand : HandAt H a c n
  tab : LamX.Tabs T H
  long : WordAt K C H lw nl
  here : HL H L ds
  na : L ≠ a
  nc : L ≠ c
theorem RI.ext {T : List (Addr × Str)} {a c lw L : Addr} {n : Nat} {nl : List Int} {ds : List PyData} (r : RI K C T a c lw L n nl ds H) (s : LamX.ExtN H H') (t : LamX.Tabs T H') : RI K C T a c lw L n nl ds H' :=
  ⟨HandAt.ext r.hand s, t, WordAt.extN s r.long, r.here.ext s, r.na, r.nc⟩
theorem RI.app {T : List (Addr × Str)} {a c lw L : Addr} {n : Nat} {nl : List Int} {ds : List PyData} {v : V} {d : PyData} {Q : VK} (r : RI K C T a c lw L n nl ds H) (hv : TwoP H v d) (l : ds.length ≤ 20) (k : ∀ H', RI K C T a c lw L n nl (ds ++ [d]) H' → Q .non H') : rAppend (.ref L) [v] H Q := by
  obtain ⟨us, g, q⟩ := r.here
  have lu := q.length
  refine ⟨L, us, v, rfl, rfl, g, Nat.lt_of_le_of_lt (show us.length ≤ 20 by omega) (by decide), k _ ⟨r.hand.put2 r.na r.nc, tabs_put g r.tab, r.long.keptL g Kept.upd, ⟨_, upd_same, ?_⟩, r.na, r.nc⟩⟩
  exact All2.app (q.imp fun _ _ h => h.put g) (.cons (hv.put g) .nil)
theorem lam_step {T : List (Addr × Str)} {a c lw L : Addr} {n : Nat} {nl : List Int} {ds : List PyData} {d : PyData} {σ : L2.St} {t : XK → TE} {D : Ends} (e7 : σ[7]? = some (some (.ref L))) (r : RI K C T a c lw L n nl ds H) (l : ds.length ≤ 20)
    (body : ∀ H8, RI K C T a c lw L n nl ds H8 → ∀ Qc R_ : VK, (∀ v H', (∀ H2, Same H' H2 → Qc .non H2) → R_ v H') → (∀ v H2, LamX.ExtN H8 H2 → LamX.Tabs T H2 → TwoP H2 v d → Qc v H2) → t (EF K CBW CTM CUB CT CNP Qc) σ H8 R_)
    (k : ∀ H', RI K C T a c lw L n nl (ds ++ [d]) H' → D.nx σ H') : tDrop (tBM K "list" rAppend (tVar 7) (tCons (LamX.tLam T (THeard K CBW CTM CUB CT CNP) t) tNil)) D σ H := by
  obtain ⟨us, g, q⟩ := r.here
  refine ⟨_, e7, .inl ⟨rfl, _, SqL.of g⟩, r.tab, fun H8 x8 t8 R_ hR => body H8 (r.ext x8 t8) _ R_ hR fun v H2 x2 t2 hv => ?_⟩
  exact ((r.ext x8 t8).ext x2 t2).app (Q := fun _ H4 => D.nx σ H4) hv l k
end
theorem as_tuplc {wi : TI} {g : TG} {tt : TT} {te : TE} {gg : TG} {vs : List Nat} {t : TA} {D : Ends} {σ : L2.St} {H : Hp}
    (h : wi σ H fun J H1 => tLc (fun _ H R => R J H) g tt te vs σ H1 fun z H4 => t σ H4 fun zs H5 => (z :: zs).length ≤ sizeLine ∧ ∀ p, H5 p = none → gg (.ref p) σ (L2.upd H5 p (.tup (z :: zs))) D.nx) : tAsg (tTup (tCons (tLc wi g tt te vs) t)) gg D σ H := h
theorem cons_lst {ts t : TA} {σ : L2.St} {H : Hp} {Q : List V → Hp → Prop} (h : ts σ H fun xs H1 => xs.length ≤ sizeLine ∧ ∀ p, H1 p = none → t σ (L2.upd H1 p (.lst xs)) fun zs H2 => Q (.ref p :: zs) H2) : tCons (tLst ts) t σ H Q := h
theorem cons1 {te : TE} {t : TA} {σ : L2.St} {H : Hp} {Q : List V → Hp → Prop} (h : te σ H fun x H1 => t σ H1 fun zs H2 => Q (x :: zs) H2) : tCons te t σ H Q := h
theorem cons_op {r : R2} {ta tb : TE} {t : TA} {σ : L2.St} {H : Hp} {Q : List V → Hp → Prop} (h : ta σ H fun x H1 => tb σ H1 fun y H2 => r x y H2 fun z H3 => t σ H3 fun zs H4 => Q (z :: zs) H4) : tCons (tOp r ta tb) t σ H Q := h
theorem lst1 {ts : TA} {σ : L2.St} {H : Hp} {Q : VK} (h : ts σ H fun xs H1 => xs.length ≤ sizeLine ∧ ∀ p, H1 p = none → Q (.ref p) (L2.upd H1 p (.lst xs))) : tLst ts σ H Q := h
theorem tup1 {ts : TA} {σ : L2.St} {H : Hp} {Q : VK} (h : ts σ H fun xs H1 => xs.length ≤ sizeLine ∧ ∀ p, H1 p = none → Q (.ref p) (L2.upd H1 p (.tup xs))) : tTup ts σ H Q := h
theorem mk1r {Cc : Addr} {sp : Sp} {E : XK} {te : TE} {σ : L2.St} {H : Hp} {Q : VK} (h : te σ H fun x H1 => ∀ q dx, H1 q = none → H1 dx = none → dx ≠ q → sp (.ref q :: ([x] ++ [])) (L2.upd (L2.upd H1 dx (.own q)) q (.ins Cc dx [])) (fun v H2 => v = .non ∧ Q (.ref q) H2) E) : tMake Cc sp [] E (tCons te tNil) σ H Q := h
theorem seq_asg {te : TE} {g : TG} {Cc : TS} {D : Ends} {σ : L2.St} {H : Hp} (h : te σ H fun x H1 => g x σ H1 fun σ' H' => Cc D σ' H') : tSeq (tAsg te g) Cc D σ H := h
def lng (o : Nat) : List Int := (List.replicate 12 [1 + (o : Int), -(1 + (o : Int))]).flatten
def WsOk (ws : List (List Int)) : Prop := (∀ w ∈ ws, w ≠ []) ∧ ws.flatten.length ≤ 60 ∧ Lts ws.flatten ∧ 1 ≤ ws.length ∧ ws.length ≤ 4
theorem rxf_0 : ∀ o : Nat, o < 25 → Lts (lng o) := by
  unfold Lts
  decide +kernel
theorem rxf_1 : ∀ o : Nat, o < 25 → WsOk ([(lng o), [1]] : List (List Int)) := by
  unfold WsOk Lts
  decide +kernel
theorem rxf_2 : ∀ o : Nat, o < 25 → WsOk ([(lng o), [1, (-1)]] : List (List Int)) := by
  unfold WsOk Lts
  decide +kernel
theorem rxf_3 : ∀ o : Nat, o < 25 → RimOk ([(lng o)] : List (List Int)) := by
  unfold RimOk Lts
  decide +kernel
theorem rxf_4 : ∀ o : Nat, o < 25 → WsOk ([[26, (1 + (o : Int))], [(-26), ((1 + (o : Int)) + 1), (-(1 + (o : Int)))], [26, (-26)]] : List (List Int)) := by
  unfold WsOk Lts
  decide +kernel
theorem rxf_5 : ∀ o : Nat, o < 25 → Fr.bal (([[26, (1 + (o : Int))], [(-26), ((1 + (o : Int)) + 1), (-(1 + (o : Int)))], [26, (-26)]] : List (List Int)).flatten) = [((1 + (o : Int)) + 1, 1)] := by
  decide +kernel
theorem rxf_6 : ∀ o : Nat, o < 25 → WsOk ([[(-(1 + (o : Int)) - 1), ((1 + (o : Int)) + 1), (-(1 + (o : Int)) - 1)], [(-(1 + (o : Int)))]] : List (List Int)) := by
  unfold WsOk Lts
  decide +kernel
theorem rxf_7 : ∀ o : Nat, o < 25 → Fr.bal (([[(-(1 + (o : Int)) - 1), ((1 + (o : Int)) + 1), (-(1 + (o : Int)) - 1)], [(-(1 + (o : Int)))]] : List (List Int)).flatten) = [((1 + (o : Int)), -1), ((1 + (o : Int)) + 1, -1)] := by
  decide +kernel
theorem rxf_8 : ∀ o : Nat, o < 25 → RimOk ([[(1 + (o : Int))], [(-(1 + (o : Int)))], [26], [(-26)]] : List (List Int)) := by
  unfold RimOk Lts
  decide +kernel
theorem rxf_9 : ∀ o : Nat, o < 25 → Lts [26, (1 + (o : Int))] := by
  unfold Lts
  decide +kernel
theorem rxf_10 : ∀ o : Nat, o < 25 → Lts [(-26), ((1 + (o : Int)) + 1), (-(1 + (o : Int)))] := by
  unfold Lts
  decide +kernel
theorem rxf_11 : ∀ o : Nat, o < 25 → Lts [(-(1 + (o : Int)) - 1), ((1 + (o : Int)) + 1), (-(1 + (o : Int)) - 1)] := by
  unfold Lts
  decide +kernel
theorem rxf_12 : ∀ o : Nat, o < 25 → Lts [(-(1 + (o : Int)))] := by
  unfold Lts
  decide +kernel
theorem rxf_13 : ∀ o : Nat, o < 25 → Lts [(1 + (o : Int))] := by
  unfold Lts
  decide +kernel
section
variable {K : PySem.W.Frag} {C CR CBW CTM CUB : Addr}
theorem rx_many {H1 : Hp} {x dx l : Addr} {xs : List Addr} {ws : List (List Int)} {Q : VK} {E : XK} (nx : H1 x = none) (ndx : H1 dx = none) (tr : Trk H1 l (xs.map V.ref)) (hW : Wds K C H1 xs ws) (w : WsOk ws) (h : 24 < ws.flatten.length) (kb : ∀ H2, Same H1 H2 → BadM CTM E H2 (.str "letters") 24) :
    spOr (spInitR K C CR) (spInitRX K C CR CBW CTM CUB) [.ref x, .ref l] (L2.upd (L2.upd H1 dx (.own x)) x (.ins CR dx [])) Q E := rx_ws nx ndx tr hW w.2.2.2.1 w.2.2.2.2 w.1 w.2.1 w.2.2.1 (.inl ⟨h, kb⟩)
theorem rx_odd {H1 : Hp} {x dx l : Addr} {xs : List Addr} {ws : List (List Int)} {Q : VK} {E : XK} {k m : Int} {r : List (Int × Int)} (nx : H1 x = none) (ndx : H1 dx = none) (tr : Trk H1 l (xs.map V.ref)) (hW : Wds K C H1 xs ws) (w : WsOk ws) (h : ws.flatten.length ≤ 24) (e : Fr.bal ws.flatten = (k, m) :: r) (kb : ∀ H2, Same H1 H2 → Bad "kind" CUB E H2 (.int k)) :
    spOr (spInitR K C CR) (spInitRX K C CR CBW CTM CUB) [.ref x, .ref l] (L2.upd (L2.upd H1 dx (.own x)) x (.ins CR dx [])) Q E := rx_ws nx ndx tr hW w.2.2.2.1 w.2.2.2.2 w.1 w.2.1 w.2.2.1 (.inr ⟨h, k, m, r, e, kb⟩)
end
def dueL (o : Nat) : List PyData := [.tuple [.str "word", .str "words"], .tuple [.str "letters", .int 24], .tuple [.str "letters", .int 24], .none, .tuple [.str "odd", .int ((1 + (o : Int)) + 1)], .tuple [.str "odd", .int (1 + (o : Int))], .tuple [.str "word", .str "words"], .none]
theorem due_sh (o : Nat) : SeqAt.shaped (.list (dueL o)) = true := by
  have h1 : PyData.canLay0 (.tuple [.str "word", .str "words"]) = true := by decide +kernel
  have h2 : PyData.canLay0 (.tuple [.str "letters", .int 24]) = true := by decide +kernel
  have h3 : ∀ i : Int, PyData.canLay0 (.tuple [.str "odd", .int i]) = true := fun i => by
    show (PyData.canLay0 (.str (Str.ofString "odd")) && (PyData.canLay0 (.int i) && true)) = true
    rw [show PyData.canLay0 (.str (Str.ofString "odd")) = true by decide +kernel]
    rfl
  refine Bool.and_eq_true_iff.mpr ⟨?_, rfl⟩
  show (PyData.canLay0 (.tuple [.str "word", .str "words"]) && (PyData.canLay0 (.tuple [.str "letters", .int 24]) && (PyData.canLay0 (.tuple [.str "letters", .int 24]) && (true && (PyData.canLay0 (.tuple [.str "odd", .int (1 + (o : Int) + 1)]) && (PyData.canLay0 (.tuple [.str "odd", .int (1 + (o : Int))]) && (PyData.canLay0 (.tuple [.str "word", .str "words"]) && (true && true)))))))) = true
  rw [h1, h2, h3, h3]
  rfl
theorem due_eq (o : Nat) : PyData.eqv (.list (dueL o)) (.list (dueL o)) = true := by
  have h1 : PyData.eqv (.tuple [.str "word", .str "words"]) (.tuple [.str "word", .str "words"]) = true := by decide +kernel
  have h2 : PyData.eqv (.tuple [.str "letters", .int 24]) (.tuple [.str "letters", .int 24]) = true := by decide +kernel
  have h3 : ∀ i : Int, PyData.eqv (.tuple [.str "odd", .int i]) (.tuple [.str "odd", .int i]) = true := fun i => by
    show (((Str.ofString "odd") == (Str.ofString "odd")) && ((i == i) && true)) = true
    simp
  show (PyData.eqv (.tuple [.str "word", .str "words"]) (.tuple [.str "word", .str "words"]) && (PyData.eqv (.tuple [.str "letters", .int 24]) (.tuple [.str "letters", .int 24]) && (PyData.eqv (.tuple [.str "letters", .int 24]) (.tuple [.str "letters", .int 24]) && (true && (PyData.eqv (.tuple [.str "odd", .int (1 + (o : Int) + 1)]) (.tuple [.str "odd", .int (1 + (o : Int) + 1)]) && (PyData.eqv (.tuple [.str "odd", .int (1 + (o : Int))]) (.tuple [.str "odd", .int (1 + (o : Int))]) && (PyData.eqv (.tuple [.str "word", .str "words"]) (.tuple [.str "word", .str "words"]) && (true && true)))))))) = true
  rw [h1, h2, h3, h3]
  rfl
section
variable {P : Program} {w : World} {K : PySem.W.Frag} {mg : Str → Option Value} {base : Heap} {C CR CBW CTM CUB CT CNP CH : Addr}
set_option maxHeartbeats 4000000 in
theorem ok_RR {f cd P1 g : Addr} {fd : FuncData} {TT : List (Addr × Str)} (F : FunC K "_law_refused_right" sRR f cd fd) (N : TN mg) (O : RimO P w K mg base C CR CT) (XW : XWd K C) (MX : MkRX P w K mg base C CR CBW CTM CUB) (BW : ErrC P w K mg base CBW "BadWord" ["self", "part"] (spI1 "part" CBW)) (TM : ErrC P w K mg base CTM "TooMany" ["self", "what", "most"] (spM2 CTM)) (UB : ErrC P w K mg base CUB "Unbalanced" ["self", "kind"] (spI1 "kind" CUB))
    (ET : ErrT P w K mg base CT "BadText" ["self", "line", "item"] (spI2 CT)) (NP : ErrC P w K mg base CNP "NoPlace" ["self", "value"] (spI1 "value" CNP)) (Z : Five K mg CBW CTM CUB CT CNP CH) (G : HeardK K mg g) (TB : LamX.TabB base mg cd P1) (hT : (P1, qRR) ∈ TT) (hu : ∀ p ∈ TT, p.1 = P1 → p.2 = qRR)
    (G_pick : Cal P w K mg base "_law_pick" 2 ["_law_pen_here", "_law_some"] spPick) (G_draw : Cal P w K mg base "_law_draw" 1 ["_law_pen_here", "_law_many"] spTake) :
    RG.FnG P w K mg base 9 f fd ["_law_pen_here", "_law_words"] (spRR TT) := by
  refine F.okG scRR (fun vs H Q E h => ?_) (fun A outer s H vs Q E hg hr h => ?_)
  · obtain ⟨a, c, p, us, ws, n, rfl, _⟩ := h
    rfl
  · obtain ⟨a, c, p, us, ws, n, rfl, hH, hn, hp, hu', ok, tT, k⟩ := h
    obtain ⟨oc, od, kV, doc, pm, cdv, ct, an, osl, lk, hcd⟩ := G.ex
    have bG : L2.Binds K (PySem.W.fnOf "_law_heard" "_law_heard" (defArgs sHeard) (defBody sHeard) (defScope sHeard) .none kV doc pm an cdv ct) ["_law_ask"] [] := (fun_mk (st := sHeard) lk hcd G.kp).binds (ps := ["_law_ask"]) fun _ _ _ _ _ _ us hl => match us, hl with | [_], _ => rfl
    refine ⟨_, pss_cons (ps_asg (pe_tup (pa_cons (pe_lc (own := [("_law_word", 9)]) (g := gName 9) (tt := tYes) rfl scRR.nd (pi_list (pv 1)) (blkOk_by (N := nRR) (sc := defScope sRR) (by decide +kernel)) (fun _ _ _ _ _ => pg_name (i := 9) scRR.nd rfl (Or.inl rfl)) (fun _ _ _ _ _ => pts_nil) (fun _ _ _ _ _ => pe_wordK (K := K) rfl O.MW O.T hr (by decide) (by rfl) (pa_cons (pv 9) pa_nil))) (pa_cons (pe_op op_add pe_int (pe_cal G_draw hr (by decide) (by rfl) (pa_cons (pv 0) (pa_cons pe_int pa_nil)))) pa_nil))) (pg_tup (n := 2) rfl (pgs_cons (pg_name (i := 2) scRR.nd rfl (Or.inl rfl)) (pgs_cons (pg_name (i := 3) scRR.nd rfl (Or.inr rfl)) pgs_nil))))
      (pss_cons (ps_set (i := 4) scRR.nd rfl (Or.inl rfl) (pe_callTy (call_listK (K := K) rfl) (by rfl) N.list (by decide +kernel) (pa_cons (pv 2) pa_nil)))
      (pss_cons (ps_asg (pe_cal G_pick hr (by decide) (by rfl) (pa_cons (pv 0) (pa_cons (pe_lst (pa_cons pe_non (pa_cons pe_int (pa_cons pe_str (pa_cons (pe_tup (pa_cons pe_int (pa_cons (pe_un un_neg pe_int) pa_nil))) (pa_cons (pe_lst (pa_cons pe_int (pa_cons (pe_un un_neg pe_int) pa_nil))) (pa_cons (pe_wordK (K := K) rfl O.MW O.T hr (by decide) (by rfl) (pa_cons (pe_lst pa_nil) pa_nil)) (pa_cons pe_bl pa_nil)))))))) pa_nil))) (pg_sub (pv 4) (pe_cal G_draw hr (by decide) (by rfl) (pa_cons (pv 0) (pa_cons (pe_callB call_len_seq (by rfl) N.len PySem.boot_len (pa_cons (pv 4) pa_nil)) pa_nil))) set_list))
      (pss_cons (ps_set (i := 5) scRR.nd rfl (Or.inr rfl) (pe_cal G_pick hr (by decide) (by rfl) (pa_cons (pv 0) (pa_cons (pe_lst (pa_cons pe_non (pa_cons pe_int (pa_cons pe_str (pa_cons (pe_lst pa_nil) (pa_cons (pe_tup pa_nil) (pa_cons (pe_ix ix_list (pv 2) pe_int (fun _ _ => rfl)) (pa_cons (pe_disp (pps_cons pe_int (pe_ix ix_list (pv 2) pe_int (fun _ _ => rfl)) pps_nil) (by rfl) (by rfl) (fun h => by cases h) (by decide)) (pa_cons (pe_lst (pa_cons (pe_wordK (K := K) rfl O.MW O.T hr (by decide) (by rfl) (pa_cons (pe_lst pa_nil) pa_nil)) pa_nil)) (pa_cons (pe_op op_rep (pe_lst (pa_cons (pe_wordK (K := K) rfl O.MW O.T hr (by decide) (by rfl) (pa_cons (pe_lst (pa_cons pe_int (pa_cons (pe_un un_neg pe_int) pa_nil))) pa_nil)) pa_nil)) pe_int) (pa_cons (pv 4) (pa_cons (pv 4) (pa_cons (pv 4) pa_nil))))))))))))) pa_nil))))
      (pss_cons (ps_set (i := 6) scRR.nd rfl (Or.inr rfl) (pe_wordK (K := K) rfl O.MW O.T hr (by decide) (by rfl) (pa_cons (pe_op op_rep (pe_lst (pa_cons (pv 3) (pa_cons (pe_un un_neg (pv 3)) pa_nil))) pe_int) pa_nil)))
      (pss_cons (ps_set (i := 7) scRR.nd rfl (Or.inl rfl) (pe_lst (pa_cons (LamX.pe_lamcall (T := TT) (k := 6) (t := fun E => tMake CR (spOr (spInitR K C CR) (spInitRX K C CR CBW CTM CUB)) [] E (tCons (tVar 5) tNil)) (by rfl) G.mg G.kp lk hcd bG scHeard (by rfl) (Or.inl rfl) (heard_gives N BW TM UB ET NP Z hg (hr.mono (by decide))) TB rfl hT hu hr (LamX.lamS_by (sc := defScope sRR) (by decide +kernel)) (by rfl) (fun q cl pm cv ctv => by rfl) (fun A outer s H E f c' hr2 => (pe_rimsX (K := K) rfl MX hr2 (by decide) (passes_call (takes_of rfl rfl rfl rfl) (fun _ _ _ _ h => h)) (by rfl) (pa_cons (pv 5) pa_nil)))) pa_nil)))
      (pss_cons (ps_expr (pe_bm PySem.F.plainAttrs_list PySem.F.slot_list_append PySem.F.type_list_append mt_append (pv 7) (pa_cons (LamX.pe_lamcall (T := TT) (k := 6) (t := fun E => tMake CR (spOr (spInitR K C CR) (spInitRX K C CR CBW CTM CUB)) [] E (tCons _ tNil)) (by rfl) G.mg G.kp lk hcd bG scHeard (by rfl) (Or.inl rfl) (heard_gives N BW TM UB ET NP Z hg (hr.mono (by decide))) TB rfl hT hu hr (LamX.lamS_by (sc := defScope sRR) (by decide +kernel)) (by rfl) (fun q cl pm cv ctv => by rfl) (fun A outer s H E f c' hr2 => (pe_rimsX (K := K) rfl MX hr2 (by decide) (passes_call (takes_of rfl rfl rfl rfl) (fun _ _ _ _ h => h)) (by rfl) (pa_cons (pe_lst (pa_cons (pv 6) (pa_cons (pe_wordK (K := K) rfl O.MW O.T hr2 (by decide) (by rfl) (pa_cons (pe_lst (pa_cons pe_int pa_nil)) pa_nil)) pa_nil))) pa_nil)))) pa_nil)))
      (pss_cons (ps_expr (pe_bm PySem.F.plainAttrs_list PySem.F.slot_list_append PySem.F.type_list_append mt_append (pv 7) (pa_cons (LamX.pe_lamcall (T := TT) (k := 6) (t := fun E => tMake CR (spOr (spInitR K C CR) (spInitRX K C CR CBW CTM CUB)) [] E (tCons _ tNil)) (by rfl) G.mg G.kp lk hcd bG scHeard (by rfl) (Or.inl rfl) (heard_gives N BW TM UB ET NP Z hg (hr.mono (by decide))) TB rfl hT hu hr (LamX.lamS_by (sc := defScope sRR) (by decide +kernel)) (by rfl) (fun q cl pm cv ctv => by rfl) (fun A outer s H E f c' hr2 => (pe_rimsX (K := K) rfl MX hr2 (by decide) (passes_call (takes_of rfl rfl rfl rfl) (fun _ _ _ _ h => h)) (by rfl) (pa_cons (pe_lst (pa_cons (pv 6) (pa_cons (pe_wordK (K := K) rfl O.MW O.T hr2 (by decide) (by rfl) (pa_cons (pe_lst (pa_cons pe_int (pa_cons (pe_un un_neg pe_int) pa_nil))) pa_nil)) pa_nil))) pa_nil)))) pa_nil)))
      (pss_cons (ps_expr (pe_bm PySem.F.plainAttrs_list PySem.F.slot_list_append PySem.F.type_list_append mt_append (pv 7) (pa_cons (LamX.pe_lamcall (T := TT) (k := 6) (t := fun E => tMake CR (spOr (spInitR K C CR) (spInitRX K C CR CBW CTM CUB)) [] E (tCons _ tNil)) (by rfl) G.mg G.kp lk hcd bG scHeard (by rfl) (Or.inl rfl) (heard_gives N BW TM UB ET NP Z hg (hr.mono (by decide))) TB rfl hT hu hr (LamX.lamS_by (sc := defScope sRR) (by decide +kernel)) (by rfl) (fun q cl pm cv ctv => by rfl) (fun A outer s H E f c' hr2 => (pe_rimsX (K := K) rfl MX hr2 (by decide) (passes_call (takes_of rfl rfl rfl rfl) (fun _ _ _ _ h => h)) (by rfl) (pa_cons (pe_lst (pa_cons (pv 6) pa_nil)) pa_nil)))) pa_nil)))
      (pss_cons (ps_expr (pe_bm PySem.F.plainAttrs_list PySem.F.slot_list_append PySem.F.type_list_append mt_append (pv 7) (pa_cons (LamX.pe_lamcall (T := TT) (k := 6) (t := fun E => tMake CR (spOr (spInitR K C CR) (spInitRX K C CR CBW CTM CUB)) [] E (tCons _ tNil)) (by rfl) G.mg G.kp lk hcd bG scHeard (by rfl) (Or.inl rfl) (heard_gives N BW TM UB ET NP Z hg (hr.mono (by decide))) TB rfl hT hu hr (LamX.lamS_by (sc := defScope sRR) (by decide +kernel)) (by rfl) (fun q cl pm cv ctv => by rfl) (fun A outer s H E f c' hr2 => (pe_rimsX (K := K) rfl MX hr2 (by decide) (passes_call (takes_of rfl rfl rfl rfl) (fun _ _ _ _ h => h)) (by rfl) (pa_cons (pe_lst (pa_cons (pe_wordK (K := K) rfl O.MW O.T hr2 (by decide) (by rfl) (pa_cons (pe_lst (pa_cons pe_int (pa_cons (pv 3) pa_nil))) pa_nil)) (pa_cons (pe_wordK (K := K) rfl O.MW O.T hr2 (by decide) (by rfl) (pa_cons (pe_lst (pa_cons (pe_un un_neg pe_int) (pa_cons (pe_op op_add (pv 3) pe_int) (pa_cons (pe_un un_neg (pv 3)) pa_nil)))) pa_nil)) (pa_cons (pe_wordK (K := K) rfl O.MW O.T hr2 (by decide) (by rfl) (pa_cons (pe_lst (pa_cons pe_int (pa_cons (pe_un un_neg pe_int) pa_nil))) pa_nil)) pa_nil)))) pa_nil)))) pa_nil)))
      (pss_cons (ps_expr (pe_bm PySem.F.plainAttrs_list PySem.F.slot_list_append PySem.F.type_list_append mt_append (pv 7) (pa_cons (LamX.pe_lamcall (T := TT) (k := 6) (t := fun E => tMake CR (spOr (spInitR K C CR) (spInitRX K C CR CBW CTM CUB)) [] E (tCons _ tNil)) (by rfl) G.mg G.kp lk hcd bG scHeard (by rfl) (Or.inl rfl) (heard_gives N BW TM UB ET NP Z hg (hr.mono (by decide))) TB rfl hT hu hr (LamX.lamS_by (sc := defScope sRR) (by decide +kernel)) (by rfl) (fun q cl pm cv ctv => by rfl) (fun A outer s H E f c' hr2 => (pe_rimsX (K := K) rfl MX hr2 (by decide) (passes_call (takes_of rfl rfl rfl rfl) (fun _ _ _ _ h => h)) (by rfl) (pa_cons (pe_lst (pa_cons (pe_wordK (K := K) rfl O.MW O.T hr2 (by decide) (by rfl) (pa_cons (pe_lst (pa_cons (pe_op op_sub (pe_un un_neg (pv 3)) pe_int) (pa_cons (pe_op op_add (pv 3) pe_int) (pa_cons (pe_op op_sub (pe_un un_neg (pv 3)) pe_int) pa_nil)))) pa_nil)) (pa_cons (pe_wordK (K := K) rfl O.MW O.T hr2 (by decide) (by rfl) (pa_cons (pe_lst (pa_cons (pe_un un_neg (pv 3)) pa_nil)) pa_nil)) pa_nil))) pa_nil)))) pa_nil)))
      (pss_cons (ps_expr (pe_bm PySem.F.plainAttrs_list PySem.F.slot_list_append PySem.F.type_list_append mt_append (pv 7) (pa_cons (LamX.pe_lamcall (T := TT) (k := 6) (t := fun E => tMake CR (spOr (spInitR K C CR) (spInitRX K C CR CBW CTM CUB)) [] E (tCons _ tNil)) (by rfl) G.mg G.kp lk hcd bG scHeard (by rfl) (Or.inl rfl) (heard_gives N BW TM UB ET NP Z hg (hr.mono (by decide))) TB rfl hT hu hr (LamX.lamS_by (sc := defScope sRR) (by decide +kernel)) (by rfl) (fun q cl pm cv ctv => by rfl) (fun A outer s H E f c' hr2 => (pe_rimsX (K := K) rfl MX hr2 (by decide) (passes_call (takes_of rfl rfl rfl rfl) (fun _ _ _ _ h => h)) (by rfl) (pa_cons (pe_lst (pa_cons (pe_wordK (K := K) rfl O.MW O.T hr2 (by decide) (by rfl) (pa_cons (pe_lst (pa_cons (pv 3) pa_nil)) pa_nil)) (pa_cons (pe_wordK (K := K) rfl O.MW O.T hr2 (by decide) (by rfl) (pa_cons (pe_lst pa_nil) pa_nil)) (pa_cons (pe_wordK (K := K) rfl O.MW O.T hr2 (by decide) (by rfl) (pa_cons (pe_lst (pa_cons (pv 3) pa_nil)) pa_nil)) pa_nil)))) pa_nil)))) pa_nil)))
      (pss_cons (ps_expr (pe_bm PySem.F.plainAttrs_list PySem.F.slot_list_append PySem.F.type_list_append mt_append (pv 7) (pa_cons (LamX.pe_lamcall (T := TT) (k := 6) (t := fun E => tMake CR (spOr (spInitR K C CR) (spInitRX K C CR CBW CTM CUB)) [] E (tCons _ tNil)) (by rfl) G.mg G.kp lk hcd bG scHeard (by rfl) (Or.inl rfl) (heard_gives N BW TM UB ET NP Z hg (hr.mono (by decide))) TB rfl hT hu hr (LamX.lamS_by (sc := defScope sRR) (by decide +kernel)) (by rfl) (fun q cl pm cv ctv => by rfl) (fun A outer s H E f c' hr2 => (pe_rimsX (K := K) rfl MX hr2 (by decide) (passes_call (takes_of rfl rfl rfl rfl) (fun _ _ _ _ h => h)) (by rfl) (pa_cons (pe_tupBK (K := K) rfl (pa_cons (pe_wordK (K := K) rfl O.MW O.T hr2 (by decide) (by rfl) (pa_cons (pe_lst (pa_cons (pv 3) pa_nil)) pa_nil)) (pa_cons (pe_wordK (K := K) rfl O.MW O.T hr2 (by decide) (by rfl) (pa_cons (pe_lst (pa_cons (pe_un un_neg (pv 3)) pa_nil)) pa_nil)) (pa_cons (pe_wordK (K := K) rfl O.MW O.T hr2 (by decide) (by rfl) (pa_cons (pe_lst (pa_cons pe_int pa_nil)) pa_nil)) (pa_cons (pe_wordK (K := K) rfl O.MW O.T hr2 (by decide) (by rfl) (pa_cons (pe_lst (pa_cons (pe_un un_neg pe_int) pa_nil)) pa_nil)) pa_nil))))) pa_nil)))) pa_nil)))
      (pss_cons (ps_set (i := 8) scRR.nd rfl (Or.inl rfl) (pe_lst (pa_cons (pe_tup (pa_cons pe_str (pa_cons pe_str pa_nil))) (pa_cons (pe_tup (pa_cons pe_str (pa_cons pe_int pa_nil))) (pa_cons (pe_tup (pa_cons pe_str (pa_cons pe_int pa_nil))) (pa_cons pe_non (pa_cons (pe_tup (pa_cons pe_str (pa_cons (pe_op op_add (pv 3) pe_int) pa_nil))) (pa_cons (pe_tup (pa_cons pe_str (pa_cons (pv 3) pa_nil))) (pa_cons (pe_tup (pa_cons pe_str (pa_cons pe_str pa_nil))) (pa_cons pe_non pa_nil))))))))))
      (pss_one (ps_ret (pe_cmpR (op_eqD hr.units) (pv 7) (pv 8) (nomark _))))))))))))))))), ?_⟩
    obtain ⟨T, TC, MW, MR, MK, ER, EX, OX, rn, nxt, rim, str, rd⟩ := id O
    obtain ⟨l1, l4, hne, l24, hl, hb⟩ := id ok
    have lu := hu'.length
    have hpa := hH.ne_refs hp hu'.refs
    -- the words
    refine as_tuplc ?_
    refine ⟨_, rfl, p, rfl, ⟨_, SqL.of hp⟩, ?_⟩
    refine lcM (walk_list (K := K) (a := p) (xs := us)) ws (fun _ H v ns => ∃ q, v = V.ref q ∧ WordAt K C H q ns) (fun _ _ _ _ _ ⟨q, e, h⟩ s => ⟨q, e, h.same s⟩) ?_ (by omega) lu (fun H s => SqL.of (s _ _ hp)) ?_ (fun x σ1 H A B k h => gName_mono k h) ?_
    · rintro D2 H5 ws5 o v ns hD5 ⟨q, e, h⟩
      exact ⟨q, e, h.keptL hD5 Kept.upd⟩
    · intro i x u hx hu2 D2 H5 hD2 _ s5 Qy ky
      obtain ⟨u', hu3, q, rfl, hq⟩ := hu'.at hx
      obtain rfl : u' = u := Option.some.inj (hu3.symm.trans hu2)
      have mem := List.mem_of_getElem? hu2
      have hl24 := word_le mem
      refine ⟨rfl, _, rfl, fun xw dxw nx ndx _ => make_at nx ndx (.inl (SqL.of (s5 _ _ hq))) (by omega) (hl.word mem) fun H6 s6 W6 => ?_⟩
      exact ky _ H6 s6 ⟨xw, rfl, W6⟩
    intro M H1 vs1 hM s1 g1 r1
    obtain ⟨xs, rfl, W1⟩ := all_word r1
    have lx := W1.length
    have h1 := hH.same s1
    have t1 := tT.ext s1
    -- a kind
    refine ⟨_, rfl, a, c, 25, n, rfl, h1, by omega, by decide, by decide, fun H2 o0 z0 z1 h2 k2 => ⟨_, _, rfl, rfl, ?_⟩⟩
    obtain ⟨o, rfl⟩ : ∃ o : Nat, o0 = (o : Int) := ⟨o0.toNat, by omega⟩
    have ho : o < 25 := by omega
    refine ⟨by show 2 ≤ sizeLine; decide, fun t3 ht3 => ?_⟩
    refine ⟨t3, _, rfl, SqT.of upd_same, rfl, _, _, rfl, _, _, rfl, rfl, ?_⟩
    have nM := hH.ne hM
    obtain ⟨la1, hla1⟩ := h1.lst
    have g2 := k2 _ _ nM g1
    have W2 : Wds K C H2 xs ws := W1.imp fun _ _ h => h.keptL hla1 k2
    have t2 := tabs_kept h1 k2 t1
    have s3 := same_upd (o := .tup [.ref M, .int (1 + (o : Int))]) ht3
    obtain ⟨H3, e3⟩ : ∃ H3, H3 = L2.upd H2 t3 (.tup [.ref M, .int (1 + (o : Int))]) := ⟨_, rfl⟩
    rw [← e3] at s3 ⊢
    -- spoilt
    refine ⟨_, rfl, M, _, rfl, .inl (SqL.of (s3 _ _ g2)), fun S hS => ?_⟩
    have s4 := same_upd (o := .lst (xs.map V.ref)) hS
    have gS4 : L2.upd H3 S (.lst (xs.map V.ref)) S = some (.lst (xs.map V.ref)) := upd_same
    obtain ⟨H4, e4⟩ : ∃ H4, H4 = L2.upd H3 S (.lst (xs.map V.ref)) := ⟨_, rfl⟩
    rw [← e4] at s4 gS4 ⊢
    have s24 := s3.trans s4
    have h4 := h2.same s24
    have g4 := s24 _ _ g2
    have W4 : Wds K C H4 xs ws := W2.imp fun _ _ h => h.same s24
    have t4 := t2.ext s24
    have nS : S ≠ a := (h2.same s3).ne hS
    have nSc : S ≠ c := (h2.same s3).neC hS
    have nMS : M ≠ S := fun z => by
      have := s3 _ _ g2
      rw [z, hS] at this
      cases this
    clear e3 e4 hS s3 s4 s24 k2 t2 W2 g2
    try dsimp only
    refine at_set ?_
    try dsimp only
    refine ⟨_, rfl, _, rfl, by show 2 ≤ sizeLine; decide, fun p1 hp1 => ?_⟩
    have a1 := same_upd (o := .tup [.int 1, .int (-1)]) hp1
    have b1 : L2.upd H4 p1 (.tup [.int 1, .int (-1)]) p1 = some (.tup [.int 1, .int (-1)]) := upd_same
    obtain ⟨H5, e5⟩ : ∃ H5, H5 = L2.upd H4 p1 (.tup [.int 1, .int (-1)]) := ⟨_, rfl⟩
    rw [← e5] at a1 b1 ⊢
    refine ⟨_, rfl, by show 2 ≤ sizeLine; decide, fun p2 hp2 => ?_⟩
    have a2 := same_upd (o := .lst [.int 1, .int (-1)]) hp2
    have b2 : L2.upd H5 p2 (.lst [.int 1, .int (-1)]) p2 = some (.lst [.int 1, .int (-1)]) := upd_same
    obtain ⟨H6, e6⟩ : ∃ H6, H6 = L2.upd H5 p2 (.lst [.int 1, .int (-1)]) := ⟨_, rfl⟩
    rw [← e6] at a2 b2 ⊢
    refine mkw (ns := []) (by decide) (fun x hx => by cases hx) (fun R hR => ⟨by show 0 ≤ sizeLine; decide, fun l hl => hR l _ hl (same_upd hl) upd_same⟩) fun q3 H7 a3 b3 => ?_
    refine ⟨by show 7 ≤ sizeLine; decide, fun O1 hO1 => ?_⟩
    have a4 := same_upd (o := .lst [.non, .int 5, .str "a a'", .ref p1, .ref p2, .ref q3, .bl true]) hO1
    have s48 := ((a1.trans a2).trans a3).trans a4
    have s4O := (a1.trans a2).trans a3
    have np1 := h4.ne hp1
    have np2 := (h4.same a1).ne hp2
    refine ⟨a, c, O1, _, n + 1, rfl, h4.same s48, by omega, (h4.same s4O).ne hO1, upd_same, by show 0 < 7; decide, by show 7 ≤ 1000; decide, fun w0 hw0 H9 d9 => ?_⟩
    obtain ⟨la8, hla8⟩ := (h4.same s48).lst
    have W9 : Wds K C H9 xs ws := W4.imp fun _ _ h => (h.same s48).keptL hla8 d9.2
    have g9 := d9.2 _ _ nM (s48 _ _ g4)
    have gS9 := d9.2 _ _ nS (s48 _ _ gS4)
    have t9 := d9.tabs (h4.same s48) (t4.ext s48)
    have f9 : FilB K C H9 w0 false := by
      simp only [List.mem_cons, List.mem_nil_iff, or_false] at hw0
      rcases hw0 with rfl | rfl | rfl | rfl | rfl | rfl | rfl
      · exact .inl ⟨⟨_, .non, XW.nN⟩, rfl⟩
      · exact .inl ⟨⟨_, .int _, XW.nI⟩, rfl⟩
      · exact .inl ⟨⟨_, .str _, XW.nS⟩, rfl⟩
      · exact .inl ⟨⟨_, .tup (d9.2 _ _ np1 (((a2.trans a3).trans a4) _ _ b1)), XW.nT⟩, rfl⟩
      · exact .inl ⟨⟨_, .lst (d9.2 _ _ np2 ((a3.trans a4) _ _ b2)), XW.nL⟩, rfl⟩
      · exact .inr ⟨q3, [], rfl, (b3.same a4).keptL hla8 d9.2, rfl⟩
      · exact .inl ⟨⟨_, .bl _, XW.nB⟩, rfl⟩
    have h9 := d9.1
    have fa : w0 ≠ V.ref a ∧ w0 ≠ V.ref S := by
      have nn : ∀ {q : Addr}, H4 q = none → q ≠ S := fun e z => by
        rw [z, gS4] at e
        cases e
      simp only [List.mem_cons, List.mem_nil_iff, or_false] at hw0
      rcases hw0 with rfl | rfl | rfl | rfl | rfl | rfl | rfl
      · exact ⟨(by intro z; cases z), (by intro z; cases z)⟩
      · exact ⟨(by intro z; cases z), (by intro z; cases z)⟩
      · exact ⟨(by intro z; cases z), (by intro z; cases z)⟩
      · exact ⟨(fun z => np1 (by injection z)), (fun z => nn hp1 (by injection z))⟩
      · exact ⟨(fun z => np2 (by injection z)), fun z => by
          have e : p2 = S := by injection z
          rw [e, a1 _ _ gS4] at hp2
          cases hp2⟩
      · obtain ⟨_, _, _, _, i3, _⟩ := id ((b3.same a4).keptL hla8 d9.2)
        obtain ⟨la9, hla9⟩ := h9.lst
        refine ⟨fun z => ?_, fun z => ?_⟩
        · have e : q3 = a := by injection z
          rw [e, hla9] at i3
          cases i3
        · have e : q3 = S := by injection z
          rw [e, gS9] at i3
          cases i3
      · exact ⟨(by intro z; cases z), (by intro z; cases z)⟩
    clear hw0 a1 b1 e5 a2 b2 e6 a3 b3 a4 s48 s4O np1 np2 hO1 hp1 hp2 hla8 d9 W4 g4 gS4 t4
    refine ⟨_, rfl, _, rfl, _, rfl, S, _, rfl, .inl (SqL.of gS9), a, c, _, n + 1 + 1, rfl, h9, by omega, by rw [List.length_map]; omega, by rw [List.length_map]; exact Nat.lt_of_le_of_lt (show _ ≤ 4 by omega) (by decide), fun H10 j0 j1 j2 h10 k10 => ?_⟩
    rw [List.length_map] at j2
    obtain ⟨j, rfl⟩ : ∃ j : Nat, j0 = (j : Int) := ⟨j0.toNat, by omega⟩
    have hj : j < xs.length := by omega
    obtain ⟨la9, hla9⟩ := h9.lst
    have W10 : Wds K C H10 xs ws := W9.imp fun _ _ h => h.keptL hla9 k10
    have g10 := k10 _ _ nM g9
    have gS10 := k10 _ _ nS gS9
    have t10 := tabs_kept h9 k10 t9
    have f10 : FilB K C H10 w0 false := f9.keptL hla9 k10 fa.1
    refine ⟨S, _, _, j, rfl, rfl, gS10, Evl.ixN_nat (by rw [List.length_map]; exact hj), ?_⟩
    have us_ := W10.length
    obtain ⟨H11, e11⟩ : ∃ H11, H11 = L2.upd H10 S (.lst ((xs.map V.ref).set j w0)) := ⟨_, rfl⟩
    have kS : Kept S H10 H11 := by rw [e11]; exact Kept.upd
    have gS : H11 S = some (.lst ((xs.map V.ref).set j w0)) := by rw [e11]; exact upd_same
    have h11 : HandAt H11 a c (n + 1 + 1 + 1) := by rw [e11]; exact h10.put2 nS nSc
    have t11 : LamX.Tabs TT H11 := by rw [e11]; exact tabs_put gS10 t10
    have g11 := kS _ _ nMS g10
    have W11 : Wds K C H11 xs ws := W10.imp fun _ _ h => h.keptL gS10 kS
    have f11 : FilB K C H11 w0 false := f10.keptL gS10 kS fa.2
    rw [← e11]
    clear e11 kS f10 f9 hla9 la9 W10 g10 gS10 t10 W9 g9 gS9 t9 h9 h10 k10 hla1 la1 h1 t1 g1 W1 r1 hM s1 h2 h4
    -- what is no rims
    have M0 : ∃ q0 u0, xs[0]? = some q0 ∧ WordAt K C H11 q0 u0 := by
      have l0 : 0 < xs.length := by omega
      obtain ⟨u, hu, Wq⟩ := All2.mem W11 (List.getElem_mem l0)
      exact ⟨_, u, List.getElem?_eq_getElem l0, Wq⟩
    obtain ⟨q0, u0, eq0, Wq0⟩ := M0
    have at0 : atI (xs.map V.ref) 0 = some (V.ref q0) := atI_nat (j := 0) (by rw [List.getElem?_map, eq0]; rfl)
    refine ⟨_, rfl, Nat.zero_le _, fun p1 hp1 => ?_⟩
    have a1 := same_upd (o := .lst []) hp1
    have b1 : L2.upd H11 p1 (.lst []) p1 = some (.lst []) := upd_same
    obtain ⟨K1, e1⟩ : ∃ K, K = L2.upd H11 p1 (.lst []) := ⟨_, rfl⟩
    rw [← e1] at a1 b1 ⊢
    refine ⟨Nat.zero_le _, fun p2 hp2 => ?_⟩
    have a2 := same_upd (o := .tup []) hp2
    have b2 : L2.upd K1 p2 (.tup []) p2 = some (.tup []) := upd_same
    obtain ⟨K2, e2⟩ : ∃ K, K = L2.upd K1 p2 (.tup []) := ⟨_, rfl⟩
    rw [← e2] at a2 b2 ⊢
    refine ⟨_, rfl, M, _, _, _, rfl, rfl, SqL.of ((a1.trans a2) _ _ g11), at0, ?_⟩
    intro p3 hp3
    have a3 := same_upd (o := .dK []) hp3
    have b3 : L2.upd K2 p3 (.dK []) p3 = some (.dK []) := upd_same
    obtain ⟨K3, e3⟩ : ∃ K, K = L2.upd K2 p3 (.dK []) := ⟨_, rfl⟩
    rw [← e3] at a3 b3 ⊢
    refine ⟨_, rfl, M, _, _, _, rfl, rfl, SqL.of (((a1.trans a2).trans a3) _ _ g11), at0, ?_⟩
    refine ⟨b3, [(.inl 0, V.ref q0)], rfl, by show 1 ≤ 15; decide, ?_⟩
    obtain ⟨K4, e4⟩ : ∃ K, K = L2.upd K3 p3 (.dK (mergeK [] [(.inl 0, V.ref q0)])) := ⟨_, rfl⟩
    have b4 : K4 p3 = some (.dK (mergeK [] [(.inl 0, V.ref q0)])) := by rw [e4]; exact upd_same
    have a4 : Same K2 K4 := fun b o e => by
      rw [e4, upd_ne (ne_of_none e hp3)]
      exact a3 b o e
    rw [← e4]
    refine cons_lst ?_
    refine cons1 ?_
    refine mkw (ns := []) (by decide) (fun x hx => by cases hx) (fun R hR => ⟨by show 0 ≤ sizeLine; decide, fun l hl => hR l _ hl (same_upd hl) upd_same⟩) fun q5 K5 a5 b5 => ?_
    refine ⟨by show 1 ≤ sizeLine; decide, fun p6 hp6 => ?_⟩
    have a6 := same_upd (o := .lst [.ref q5]) hp6
    have b6 : L2.upd K5 p6 (.lst [.ref q5]) p6 = some (.lst [.ref q5]) := upd_same
    obtain ⟨K6, e6⟩ : ∃ K, K = L2.upd K5 p6 (.lst [.ref q5]) := ⟨_, rfl⟩
    rw [← e6] at a6 b6 ⊢
    refine cons_op ?_
    refine lst1 ?_
    refine cons1 ?_
    refine mkw (ns := [1, -1]) (by decide) (by unfold Lts; decide) (fun R hR => ⟨_, rfl, by show 2 ≤ sizeLine; decide, fun l hl => hR l _ hl (same_upd hl) upd_same⟩) fun q7 K7 a7 b7 => ?_
    refine ⟨by show 1 ≤ sizeLine; decide, fun p8 hp8 => ?_⟩
    have a8 := same_upd (o := .lst [.ref q7]) hp8
    have b8 : L2.upd K7 p8 (.lst [.ref q7]) p8 = some (.lst [.ref q7]) := upd_same
    obtain ⟨K8, e8⟩ : ∃ K, K = L2.upd K7 p8 (.lst [.ref q7]) := ⟨_, rfl⟩
    rw [← e8] at a8 b8 ⊢
    refine ⟨p8, 5, _, rfl, rfl, b8, by decide, by decide, by show 1 * 5 ≤ sizeLine; decide, fun p9 hp9 => ?_⟩
    have er : (List.replicate (Int.toNat 5) [V.ref q7]).flatten = [.ref q7, .ref q7, .ref q7, .ref q7, .ref q7] := rfl
    rw [er]
    have a9 := same_upd (o := .lst [.ref q7, .ref q7, .ref q7, .ref q7, .ref q7]) hp9
    have b9 : L2.upd K8 p9 (.lst [.ref q7, .ref q7, .ref q7, .ref q7, .ref q7]) p9 = some (.lst [.ref q7, .ref q7, .ref q7, .ref q7, .ref q7]) := upd_same
    obtain ⟨K9, e9⟩ : ∃ K, K = L2.upd K8 p9 (.lst [.ref q7, .ref q7, .ref q7, .ref q7, .ref q7]) := ⟨_, rfl⟩
    rw [← e9] at a9 b9 ⊢
    refine ⟨_, rfl, _, rfl, _, rfl, by show 12 ≤ sizeLine; decide, fun O2 hO2 => ?_⟩
    have aO := same_upd (o := .lst [.non, .int 5, .str "a a'", .ref p1, .ref p2, .ref q0, .ref p3, .ref p6, .ref p9, .ref S, .ref S, .ref S]) hO2
    have s9O := aO
    have s8O := a9.trans s9O
    have s7O := a8.trans s8O
    have s6O := a7.trans s7O
    have s5O := a6.trans s6O
    have s4O := a5.trans s5O
    have s2O := a4.trans s4O
    have s1O := a2.trans s2O
    have s0O := a1.trans s1O
    have s09 := ((((((a1.trans a2).trans a4).trans a5).trans a6).trans a7).trans a8).trans a9
    have h12 := h11.same s09
    have hO3 := h11.same s0O
    refine ⟨a, c, O2, _, n + 1 + 1 + 1, rfl, hO3, by omega, h12.ne hO2, upd_same, by show 0 < 12; decide, by show 12 ≤ 1000; decide, fun od hod H12 d12 => ?_⟩
    obtain ⟨laO, hlaO⟩ := hO3.lst
    have gS12 := d12.2 _ _ nS (s0O _ _ gS)
    have W12 : Wds K C H12 xs ws := W11.imp fun _ _ h => (h.same s0O).keptL hlaO d12.2
    have f12 : FilB K C H12 w0 false := (f11.same s0O).keptL hlaO d12.2 fa.1
    have rmS : NoRm K C H12 (.ref S) := by
      refine NoRm.one (w := w0) (.inl gS12) (by rw [List.length_set, List.length_map]; omega) (List.mem_set (by rw [List.length_map]; exact hj) _) f12 fun v hv nv => ?_
      rcases List.mem_or_eq_of_mem_set hv with hv | rfl
      · obtain ⟨q, hq, rfl⟩ := List.mem_map.mp hv
        obtain ⟨u, hu, Wq⟩ := All2.mem W12 hq
        have up : 0 < u.length := List.length_pos_iff.mpr (hne u hu)
        exact .inr ⟨q, u, rfl, Wq, (decide_eq_true (show (0 : Int) < (u.length : Int) by omega)).symm⟩
      · exact absurd rfl nv
    have odd : NoRm K C H12 od := by
      have n1 := h11.ne hp1
      have n2 := (h11.same a1).ne hp2
      have n3 := ((h11.same a1).same a2).ne hp3
      have h5 := ((((h11.same a1).same a2).same a4).same a5)
      have n6 := h5.ne hp6
      have n9 := (((h5.same a6).same a7).same a8).ne hp9
      simp only [List.mem_cons, List.mem_nil_iff, or_false] at hod
      rcases hod with rfl | rfl | rfl | rfl | rfl | rfl | rfl | rfl | rfl | rfl | rfl | rfl
      · exact .typ .non rfl
      · exact .typ (.int _) rfl
      · exact .typ (.str _) rfl
      · exact .len (.inl (d12.2 _ _ n1 (s1O _ _ b1))) (by show 0 ≤ 1000; decide) (by show ¬ (1 ≤ 0 ∧ 0 ≤ 4); decide)
      · exact .len (.inr (d12.2 _ _ n2 (s2O _ _ b2))) (by show 0 ≤ 1000; decide) (by show ¬ (1 ≤ 0 ∧ 0 ≤ 4); decide)
      · exact .word ((Wq0.same s0O).keptL hlaO d12.2)
      · exact .typ (.dct (d12.2 _ _ n3 (s4O _ _ b4))) rfl
      · refine .one (w := .ref q5) (.inl (d12.2 _ _ n6 (s6O _ _ b6))) (by show 1 ≤ 1 ∧ 1 ≤ 4; decide) List.mem_cons_self (.inr ⟨q5, [], rfl, (b5.same s5O).keptL hlaO d12.2, rfl⟩) fun v hv n => absurd (List.mem_singleton.mp hv) n
      · exact .len (.inl (d12.2 _ _ n9 (s9O _ _ b9))) (by show 5 ≤ 1000; decide) (by show ¬ (1 ≤ 5 ∧ 5 ≤ 4); decide)
      · exact rmS
      · exact rmS
      · exact rmS
    have t12 := d12.tabs hO3 (t11.ext s0O)
    have h12 := d12.1
    clear rmS gS12 W12 f12 hlaO laO hO3 hO2 d12 hod s0O s1O s2O s4O s5O s6O s7O s8O s9O s09 aO e1 e2 e3 e4 e6 e8 e9 a1 a2 a3 a4 a5 a6 a7 a8 a9 b1 b2 b3 b4 b5 b6 b7 b8 b9 er hp1 hp2 hp3 hp6 hp8 hp9 Wq0 at0 eq0 t11 h11 W11 g11 gS f11 fa
    try dsimp only
    refine at_set ?_
    try dsimp only
    -- a long word
    refine seq_asg ?_
    refine mkw (ns := lng o) (by show 24 ≤ 500; decide) (rxf_0 o ho) (fun R hR => ⟨_, rfl, _, rfl, _, rfl, by show 2 ≤ sizeLine; decide, fun l hl => ⟨l, 12, _, rfl, rfl, upd_same, by decide, by decide, by show 2 * 12 ≤ sizeLine; decide, fun r hr => hR r _ (by
      by_cases e : r = l
      · rw [e]; exact hl
      · rw [upd_ne e] at hr; exact hr) ((same_upd hl).trans (same_upd hr)) (by rw [upd_same]; rfl)⟩⟩) fun lw H13 s13 W13 => ?_
    -- the first
    try dsimp only
    refine at_set ?_
    try dsimp only
    have h13 := h12.same s13
    have t13 := t12.ext s13
    refine seq_asg ?_
    refine lst1 ?_
    refine cons1 ?_
    refine ⟨t13, fun H14 x14 t14 R_ hR => ?_⟩
    refine mk1r ?_
    refine ⟨_, rfl, fun x dx nx ndx _ => rx_word nx ndx ((odd.ext (extOf s13)).ext x14) fun H15 s15 => ef_word (extOf s15) (t14.ext s15) fun H16 u x16 t16 g16 => ?_⟩
    refine ⟨by show 1 ≤ sizeLine; decide, fun L hL => ?_⟩
    have h16 := HandAt.ext (HandAt.ext h13 x14) x16
    have s17 := same_upd (o := .lst [.ref u]) hL
    have r := (⟨h16.same s17, t16.ext s17, (WordAt.extN x16 (WordAt.extN x14 W13)).same s17, ⟨[.ref u], upd_same, .cons (.inr (.inl ⟨u, _, _, rfl, s17 _ _ g16, rfl⟩)) .nil⟩, h16.ne hL, h16.neC hL⟩ : RI K C TT a c lw L (n + 1 + 1 + 1 + 1) (lng o) [.tuple [.str "word", .str "words"]] (L2.upd H16 L (.lst [.ref u])))
    obtain ⟨H17, e17⟩ : ∃ K, K = L2.upd H16 L (.lst [.ref u]) := ⟨_, rfl⟩
    rw [← e17] at r ⊢
    clear e17 s17 h16 hL g16 t16 x16 t14 x14 t13 h13 odd h12 t12 W13 s13
    try dsimp only
    refine at_set ?_
    try dsimp only
    refine lam_step (d := .tuple [.str "letters", .int 24]) rfl r (by show 1 ≤ 20; decide) (fun H8 r8 Qc R_ hR kc => ?_) (fun H18 r => ?_)
    · refine mk1r ?_
      refine lst1 ?_
      refine ⟨_, rfl, ?_⟩
      refine cons1 ?_
      refine mkw (ns := [1]) (by show 1 ≤ 500; decide) (by unfold Lts; decide) (fun R hR => ⟨by show 1 ≤ sizeLine; decide, fun l hl => hR l _ hl (same_upd hl) upd_same⟩) fun q1 Ha1 sa1 Wa1 => ?_
      refine ⟨by show 2 ≤ sizeLine; decide, fun l hl x dx nx ndx _ => ?_⟩
      have sl := same_upd (o := .lst [.ref lw, .ref q1]) hl
      exact rx_many (xs := [lw, q1]) (ws := [(lng o), [1]]) nx ndx (.inl upd_same) (.cons (r8.long.same ((sa1).trans sl)) (.cons (Wa1.same (sl)) .nil)) (rxf_1 o ho) (by show 24 < 25; decide) fun Hb sb => ef_many (extOf (((sa1).trans sl).trans sb)) (r8.tab.ext (((sa1).trans sl).trans sb)) fun Hc u xc tc gc => kc _ _ xc tc (.inr (.inr ⟨u, _, _, rfl, gc, rfl⟩))
    refine lam_step (d := .tuple [.str "letters", .int 24]) rfl r (by show 2 ≤ 20; decide) (fun H8 r8 Qc R_ hR kc => ?_) (fun H18 r => ?_)
    · refine mk1r ?_
      refine lst1 ?_
      refine ⟨_, rfl, ?_⟩
      refine cons1 ?_
      refine mkw (ns := [1, (-1)]) (by show 2 ≤ 500; decide) (by unfold Lts; decide) (fun R hR => ⟨_, rfl, by show 2 ≤ sizeLine; decide, fun l hl => hR l _ hl (same_upd hl) upd_same⟩) fun q1 Ha1 sa1 Wa1 => ?_
      refine ⟨by show 2 ≤ sizeLine; decide, fun l hl x dx nx ndx _ => ?_⟩
      have sl := same_upd (o := .lst [.ref lw, .ref q1]) hl
      exact rx_many (xs := [lw, q1]) (ws := [(lng o), [1, (-1)]]) nx ndx (.inl upd_same) (.cons (r8.long.same ((sa1).trans sl)) (.cons (Wa1.same (sl)) .nil)) (rxf_2 o ho) (by show 24 < 26; decide) fun Hb sb => ef_many (extOf (((sa1).trans sl).trans sb)) (r8.tab.ext (((sa1).trans sl).trans sb)) fun Hc u xc tc gc => kc _ _ xc tc (.inr (.inr ⟨u, _, _, rfl, gc, rfl⟩))
    refine lam_step (d := .none) rfl r (by show 3 ≤ 20; decide) (fun H8 r8 Qc R_ hR kc => ?_) (fun H18 r => ?_)
    · refine mk1r ?_
      refine lst1 ?_
      refine ⟨_, rfl, ?_⟩
      refine ⟨by show 1 ≤ sizeLine; decide, fun l hl x dx nx ndx _ => ?_⟩
      have sl := same_upd (o := .lst [.ref lw]) hl
      refine .inl (rims_at nx ndx (.inl (SqL.of upd_same)) (.cons (r8.long.same (sl)) .nil) (rxf_3 o ho) fun Hb sb R1 => ?_)
      exact hR _ _ fun Hc sc => kc _ _ (extOf (((sl).trans sb).trans sc)) (r8.tab.ext (((sl).trans sb).trans sc)) (.inl ⟨rfl, rfl⟩)
    refine lam_step (d := .tuple [.str "odd", .int ((1 + (o : Int)) + 1)]) rfl r (by show 4 ≤ 20; decide) (fun H8 r8 Qc R_ hR kc => ?_) (fun H18 r => ?_)
    · refine mk1r ?_
      refine lst1 ?_
      refine cons1 ?_
      refine mkw (ns := [26, (1 + (o : Int))]) (by show 2 ≤ 500; decide) (rxf_9 o ho) (fun R hR => ⟨_, rfl, by show 2 ≤ sizeLine; decide, fun l hl => hR l _ hl (same_upd hl) upd_same⟩) fun q0 Ha0 sa0 Wa0 => ?_
      refine cons1 ?_
      refine mkw (ns := [(-26), ((1 + (o : Int)) + 1), (-(1 + (o : Int)))]) (by show 3 ≤ 500; decide) (rxf_10 o ho) (fun R hR => ⟨_, rfl, _, rfl, _, _, rfl, rfl, _, rfl, _, rfl, by show 3 ≤ sizeLine; decide, fun l hl => hR l _ hl (same_upd hl) upd_same⟩) fun q1 Ha1 sa1 Wa1 => ?_
      refine cons1 ?_
      refine mkw (ns := [26, (-26)]) (by show 2 ≤ 500; decide) (by unfold Lts; decide) (fun R hR => ⟨_, rfl, by show 2 ≤ sizeLine; decide, fun l hl => hR l _ hl (same_upd hl) upd_same⟩) fun q2 Ha2 sa2 Wa2 => ?_
      refine ⟨by show 3 ≤ sizeLine; decide, fun l hl x dx nx ndx _ => ?_⟩
      have sl := same_upd (o := .lst [.ref q0, .ref q1, .ref q2]) hl
      exact rx_odd (xs := [q0, q1, q2]) (ws := [[26, (1 + (o : Int))], [(-26), ((1 + (o : Int)) + 1), (-(1 + (o : Int)))], [26, (-26)]]) nx ndx (.inl upd_same) (.cons (Wa0.same (((sa1).trans sa2).trans sl)) (.cons (Wa1.same ((sa2).trans sl)) (.cons (Wa2.same (sl)) .nil))) (rxf_4 o ho) (by show 7 ≤ 24; decide) (rxf_5 o ho) fun Hb sb => ef_odd (extOf (((((sa0).trans sa1).trans sa2).trans sl).trans sb)) (r8.tab.ext (((((sa0).trans sa1).trans sa2).trans sl).trans sb)) fun Hc u xc tc gc => kc _ _ xc tc (.inr (.inr ⟨u, _, _, rfl, gc, rfl⟩))
    refine lam_step (d := .tuple [.str "odd", .int (1 + (o : Int))]) rfl r (by show 5 ≤ 20; decide) (fun H8 r8 Qc R_ hR kc => ?_) (fun H18 r => ?_)
    · refine mk1r ?_
      refine lst1 ?_
      refine cons1 ?_
      refine mkw (ns := [(-(1 + (o : Int)) - 1), ((1 + (o : Int)) + 1), (-(1 + (o : Int)) - 1)]) (by show 3 ≤ 500; decide) (rxf_11 o ho) (fun R hR => ⟨_, rfl, _, rfl, _, _, rfl, rfl, _, rfl, _, _, rfl, rfl, _, rfl, _, rfl, _, _, rfl, rfl, by show 3 ≤ sizeLine; decide, fun l hl => hR l _ hl (same_upd hl) upd_same⟩) fun q0 Ha0 sa0 Wa0 => ?_
      refine cons1 ?_
      refine mkw (ns := [(-(1 + (o : Int)))]) (by show 1 ≤ 500; decide) (rxf_12 o ho) (fun R hR => ⟨_, rfl, _, rfl, by show 1 ≤ sizeLine; decide, fun l hl => hR l _ hl (same_upd hl) upd_same⟩) fun q1 Ha1 sa1 Wa1 => ?_
      refine ⟨by show 2 ≤ sizeLine; decide, fun l hl x dx nx ndx _ => ?_⟩
      have sl := same_upd (o := .lst [.ref q0, .ref q1]) hl
      exact rx_odd (xs := [q0, q1]) (ws := [[(-(1 + (o : Int)) - 1), ((1 + (o : Int)) + 1), (-(1 + (o : Int)) - 1)], [(-(1 + (o : Int)))]]) nx ndx (.inl upd_same) (.cons (Wa0.same ((sa1).trans sl)) (.cons (Wa1.same (sl)) .nil)) (rxf_6 o ho) (by show 4 ≤ 24; decide) (rxf_7 o ho) fun Hb sb => ef_odd (extOf ((((sa0).trans sa1).trans sl).trans sb)) (r8.tab.ext ((((sa0).trans sa1).trans sl).trans sb)) fun Hc u xc tc gc => kc _ _ xc tc (.inr (.inr ⟨u, _, _, rfl, gc, rfl⟩))
    refine lam_step (d := .tuple [.str "word", .str "words"]) rfl r (by show 6 ≤ 20; decide) (fun H8 r8 Qc R_ hR kc => ?_) (fun H18 r => ?_)
    · refine mk1r ?_
      refine lst1 ?_
      refine cons1 ?_
      refine mkw (ns := [(1 + (o : Int))]) (by show 1 ≤ 500; decide) (rxf_13 o ho) (fun R hR => ⟨_, rfl, by show 1 ≤ sizeLine; decide, fun l hl => hR l _ hl (same_upd hl) upd_same⟩) fun q0 Ha0 sa0 Wa0 => ?_
      refine cons1 ?_
      refine mkw (ns := []) (by show 0 ≤ 500; decide) (fun x hx => by cases hx) (fun R hR => ⟨by show 0 ≤ sizeLine; decide, fun l hl => hR l _ hl (same_upd hl) upd_same⟩) fun q1 Ha1 sa1 Wa1 => ?_
      refine cons1 ?_
      refine mkw (ns := [(1 + (o : Int))]) (by show 1 ≤ 500; decide) (rxf_13 o ho) (fun R hR => ⟨_, rfl, by show 1 ≤ sizeLine; decide, fun l hl => hR l _ hl (same_upd hl) upd_same⟩) fun q2 Ha2 sa2 Wa2 => ?_
      refine ⟨by show 3 ≤ sizeLine; decide, fun l hl x dx nx ndx _ => ?_⟩
      have sl := same_upd (o := .lst [.ref q0, .ref q1, .ref q2]) hl
      have nr : NoRm K C _ (.ref l) := NoRm.one (K := K) (C := C) (H := L2.upd Ha2 l (.lst [.ref q0, .ref q1, .ref q2])) (w := .ref q1) (.inl upd_same) (by show 1 ≤ 3 ∧ 3 ≤ 4; decide) (by simp) (.inr ⟨q1, [], rfl, Wa1.same ((sa2).trans sl), rfl⟩) fun v hv nv => by
        simp only [List.mem_cons, List.mem_nil_iff, or_false] at hv
        rcases hv with rfl | rfl | rfl
        · exact .inr ⟨q0, _, rfl, Wa0.same (((sa1).trans sa2).trans sl), rfl⟩
        · exact absurd rfl nv
        · exact .inr ⟨q2, _, rfl, Wa2.same (sl), rfl⟩
      exact rx_word nx ndx nr fun Hb sb => ef_word (extOf (((((sa0).trans sa1).trans sa2).trans sl).trans sb)) (r8.tab.ext (((((sa0).trans sa1).trans sa2).trans sl).trans sb)) fun Hc u xc tc gc => kc _ _ xc tc (.inr (.inl ⟨u, _, _, rfl, gc, rfl⟩))
    refine lam_step (d := .none) rfl r (by show 7 ≤ 20; decide) (fun H8 r8 Qc R_ hR kc => ?_) (fun H18 r => ?_)
    · refine mk1r ?_
      refine tupB1 ?_
      refine cons1 ?_
      refine mkw (ns := [(1 + (o : Int))]) (by show 1 ≤ 500; decide) (rxf_13 o ho) (fun R hR => ⟨_, rfl, by show 1 ≤ sizeLine; decide, fun l hl => hR l _ hl (same_upd hl) upd_same⟩) fun q0 Ha0 sa0 Wa0 => ?_
      refine cons1 ?_
      refine mkw (ns := [(-(1 + (o : Int)))]) (by show 1 ≤ 500; decide) (rxf_12 o ho) (fun R hR => ⟨_, rfl, _, rfl, by show 1 ≤ sizeLine; decide, fun l hl => hR l _ hl (same_upd hl) upd_same⟩) fun q1 Ha1 sa1 Wa1 => ?_
      refine cons1 ?_
      refine mkw (ns := [26]) (by show 1 ≤ 500; decide) (by unfold Lts; decide) (fun R hR => ⟨by show 1 ≤ sizeLine; decide, fun l hl => hR l _ hl (same_upd hl) upd_same⟩) fun q2 Ha2 sa2 Wa2 => ?_
      refine cons1 ?_
      refine mkw (ns := [(-26)]) (by show 1 ≤ 500; decide) (by unfold Lts; decide) (fun R hR => ⟨_, rfl, by show 1 ≤ sizeLine; decide, fun l hl => hR l _ hl (same_upd hl) upd_same⟩) fun q3 Ha3 sa3 Wa3 => ?_
      refine ⟨by show 4 ≤ sizeLine; decide, fun l Hl sl gl x dx nx ndx _ => ?_⟩
      refine .inl (rims_at (xs := [q0, q1, q2, q3]) nx ndx (.inr gl) (.cons (Wa0.same ((((sa1).trans sa2).trans sa3).trans sl)) (.cons (Wa1.same (((sa2).trans sa3).trans sl)) (.cons (Wa2.same ((sa3).trans sl)) (.cons (Wa3.same (sl)) .nil)))) (rxf_8 o ho) fun Hb sb R1 => ?_)
      exact hR _ _ fun Hc sc => kc _ _ (extOf (((((((sa0).trans sa1).trans sa2).trans sa3).trans sl).trans sb).trans sc)) (r8.tab.ext (((((((sa0).trans sa1).trans sa2).trans sa3).trans sl).trans sb).trans sc)) (.inl ⟨rfl, rfl⟩)
    -- what is due
    try dsimp only
    refine seq_asg ?_
    refine lst1 ?_
    refine ⟨by show 2 ≤ sizeLine; decide, fun v0 hv0 => ?_⟩
    have av0 := same_upd (o := .tup [.str "word", .str "words"]) hv0
    have gv0 : L2.upd H18 v0 (.tup [.str "word", .str "words"]) v0 = some (.tup [.str "word", .str "words"]) := upd_same
    obtain ⟨G0, ev0⟩ : ∃ K, K = L2.upd H18 v0 (.tup [.str "word", .str "words"]) := ⟨_, rfl⟩
    rw [← ev0] at av0 gv0 ⊢
    refine ⟨by show 2 ≤ sizeLine; decide, fun v1 hv1 => ?_⟩
    have av1 := same_upd (o := .tup [.str "letters", .int 24]) hv1
    have gv1 : L2.upd G0 v1 (.tup [.str "letters", .int 24]) v1 = some (.tup [.str "letters", .int 24]) := upd_same
    obtain ⟨G1, ev1⟩ : ∃ K, K = L2.upd G0 v1 (.tup [.str "letters", .int 24]) := ⟨_, rfl⟩
    rw [← ev1] at av1 gv1 ⊢
    refine ⟨by show 2 ≤ sizeLine; decide, fun v2 hv2 => ?_⟩
    have av2 := same_upd (o := .tup [.str "letters", .int 24]) hv2
    have gv2 : L2.upd G1 v2 (.tup [.str "letters", .int 24]) v2 = some (.tup [.str "letters", .int 24]) := upd_same
    obtain ⟨G2, ev2⟩ : ∃ K, K = L2.upd G1 v2 (.tup [.str "letters", .int 24]) := ⟨_, rfl⟩
    rw [← ev2] at av2 gv2 ⊢
    refine ⟨_, rfl, _, _, rfl, rfl, by show 2 ≤ sizeLine; decide, fun v4 hv4 => ?_⟩
    have av4 := same_upd (o := .tup [.str "odd", .int ((1 + (o : Int)) + 1)]) hv4
    have gv4 : L2.upd G2 v4 (.tup [.str "odd", .int ((1 + (o : Int)) + 1)]) v4 = some (.tup [.str "odd", .int ((1 + (o : Int)) + 1)]) := upd_same
    obtain ⟨G4, ev4⟩ : ∃ K, K = L2.upd G2 v4 (.tup [.str "odd", .int ((1 + (o : Int)) + 1)]) := ⟨_, rfl⟩
    rw [← ev4] at av4 gv4 ⊢
    refine ⟨_, rfl, by show 2 ≤ sizeLine; decide, fun v5 hv5 => ?_⟩
    have av5 := same_upd (o := .tup [.str "odd", .int (1 + (o : Int))]) hv5
    have gv5 : L2.upd G4 v5 (.tup [.str "odd", .int (1 + (o : Int))]) v5 = some (.tup [.str "odd", .int (1 + (o : Int))]) := upd_same
    obtain ⟨G5, ev5⟩ : ∃ K, K = L2.upd G4 v5 (.tup [.str "odd", .int (1 + (o : Int))]) := ⟨_, rfl⟩
    rw [← ev5] at av5 gv5 ⊢
    refine ⟨by show 2 ≤ sizeLine; decide, fun v6 hv6 => ?_⟩
    have av6 := same_upd (o := .tup [.str "word", .str "words"]) hv6
    have gv6 : L2.upd G5 v6 (.tup [.str "word", .str "words"]) v6 = some (.tup [.str "word", .str "words"]) := upd_same
    obtain ⟨G6, ev6⟩ : ∃ K, K = L2.upd G5 v6 (.tup [.str "word", .str "words"]) := ⟨_, rfl⟩
    rw [← ev6] at av6 gv6 ⊢
    refine ⟨by show 8 ≤ sizeLine; decide, fun D1 hD1 => ?_⟩
    have aD := same_upd (o := .lst [.ref v0, .ref v1, .ref v2, .non, .ref v4, .ref v5, .ref v6, .non]) hD1
    have qD : HL (L2.upd G6 D1 (.lst [.ref v0, .ref v1, .ref v2, .non, .ref v4, .ref v5, .ref v6, .non])) D1 (dueL o) := ⟨_, upd_same, (.cons (.inr (.inl ⟨v0, _, _, rfl, ((((((av1).trans av2).trans av4).trans av5).trans av6).trans aD) _ _ gv0, rfl⟩)) (.cons (.inr (.inr ⟨v1, _, _, rfl, (((((av2).trans av4).trans av5).trans av6).trans aD) _ _ gv1, rfl⟩)) (.cons (.inr (.inr ⟨v2, _, _, rfl, ((((av4).trans av5).trans av6).trans aD) _ _ gv2, rfl⟩)) (.cons (.inl ⟨rfl, rfl⟩) (.cons (.inr (.inr ⟨v4, _, _, rfl, (((av5).trans av6).trans aD) _ _ gv4, rfl⟩)) (.cons (.inr (.inr ⟨v5, _, _, rfl, ((av6).trans aD) _ _ gv5, rfl⟩)) (.cons (.inr (.inl ⟨v6, _, _, rfl, (aD) _ _ gv6, rfl⟩)) (.cons (.inl ⟨rfl, rfl⟩) .nil))))))))⟩
    have qL := r.here.ext (extOf (((((((av0).trans av1).trans av2).trans av4).trans av5).trans av6).trans aD))
    have fin := k _ (r.hand.same (((((((av0).trans av1).trans av2).trans av4).trans av5).trans av6).trans aD)) (r.tab.ext (((((((av0).trans av1).trans av2).trans av4).trans av5).trans av6).trans aD))
    rw [← due_eq o] at fin
    exact ⟨_, rfl, _, rfl, _, _, HL.dp qL, HL.dp qD, due_sh o, due_sh o, fin⟩
end
end W11
set_option Elab.async false
set_option linter.all false
set_option maxRecDepth 100000
set_option maxHeartbeats 1000000
namespace W11
open PySem L2 PySem.Spec PyProof.Rows WR WB WE WS
/-! ### the law -/
def LitI (ta : TA) (ns : List Int) : Prop := ∀ (σ : L2.St) (H : Hp) (Q : List V → Hp → Prop), Q (iv ns) H → ta σ H Q
def Lits (ta : TA) (cs : List (List Int)) : Prop := ∀ (σ : L2.St) (H : Hp) (Q : List V → Hp → Prop), (∀ us H', Same H H' → LLs H' us cs → Q us H') → ta σ H Q
theorem liti_nil : LitI tNil [] := fun _ _ _ q => q
theorem liti_cons {i : Int} {ns : List Int} {tr : TA} (h : LitI tr ns) : LitI (tCons (tC (.int i)) tr) (i :: ns) := fun σ H Q q => h σ H _ q
theorem lits_nil : Lits tNil [] := fun _ H _ q => q [] H (Same.refl _) .nil
theorem lits_cons {ta tr : TA} {ns : List Int} {cs : List (List Int)} (h1 : LitI ta ns) (hz : ns.length ≤ 1000) (h2 : Lits tr cs) : Lits (tCons (tLst ta) tr) (ns :: cs) := fun σ H Q q => by
  refine h1 σ H _ ⟨by rw [List.length_map]; exact Nat.le_trans hz (by decide), fun l hl => ?_⟩
  have s1 := same_upd (o := .lst (iv ns)) hl
  refine h2 σ _ _ fun us H' s2 hu => q _ _ (s1.trans s2) (.cons ⟨l, rfl, s2 _ _ upd_same⟩ hu)
theorem lst_lits {ta : TA} {cs : List (List Int)} {σ : L2.St} {H : Hp} {Q : VK} (hL : Lits ta cs) (h : ∀ us H', Same H H' → LLs H' us cs → us.length ≤ sizeLine ∧ ∀ l, H' l = none → Q (.ref l) (L2.upd H' l (.lst us))) : tLst ta σ H Q := hL σ H _ h
theorem lls_mem {H : Hp} {us : List V} {ws : List (List Int)} (h : LLs H us ws) {v : V} (hv : v ∈ us) : ∃ q, ∃ w ∈ ws, v = .ref q ∧ H q = some (.lst (iv w)) := by
  obtain ⟨i, hi, e⟩ := List.getElem_of_mem hv
  obtain ⟨w, hw, q, e2, g⟩ := h.at (List.getElem?_eq_getElem hi)
  exact ⟨q, w, List.mem_of_getElem? hw, by rw [← e, e2], g⟩
theorem ar1 {t : TE} {σ : L2.St} {H : Hp} {Q : List V → Hp → Prop} (h : t σ H fun x H2 => Q [x] H2) : tCons t tNil σ H Q := h
def CSs : List (List Int) := [[1, 1], [2, 1], [1], [3], [1, 1, 1, 1], [2, 2, 2], [4, 2], [6, 5, 1], [12], [1, 2, 3, 4]]
theorem CSs_ok : ∀ w ∈ CSs, w = nats (w.map Int.toNat) ∧ (w.map Int.toNat).length ≤ 20 ∧ 1 ≤ (w.map Int.toNat).sum ∧ (w.map Int.toNat).sum ≤ 12 := by decide +kernel
def spLaw (K : PySem.W.Frag) (T : List (Addr × Str)) : Sp := fun vs H Q _ => ∃ (a : Addr) (ns : List Int), vs = [.ref a] ∧ SqL K H a (ns.map V.int) ∧ ns.length ≤ 63 ∧ LamX.Tabs T H ∧ ∀ H', Q (.bl true) H'
abbrev sLaw : Stmt := top 59
abbrev nLaw : List Str := ["_law_script", "_law_pen_here", "_law_turn", "_law_words"]
theorem scLaw : FnScope nLaw ["_law_script"] (defScope sLaw) := ⟨rfl, rfl, rfl, by decide +kernel, rfl, by decide +kernel, by decide +kernel⟩
section
variable {P : Program} {w : World} {K : PySem.W.Frag} {mg : Str → Option Value} {base : Heap}
theorem ok_Law {f : Addr} {fd : FuncData} {TT : List (Addr × Str)} (F : Fun K "law" "law" sLaw f fd) (N : TN mg)
    (G_pen : Cal P w K mg base "_law_pen" 1 ["_law_script"] (spHand K)) (G_pick : Cal P w K mg base "_law_pick" 2 ["_law_pen_here", "_law_some"] spPick) (G_plain : Cal P w K mg base "_law_plain" 4 ["_law_pen_here", "_law_counts"] spPlain)
    (G_MR : RG.CalG P w K mg base "_law_made_right" 8 ["_law_pen_here", "_law_words"] (spMR TT)) (G_TX : RG.CalG P w K mg base "_law_texts_right" 9 ["_law_pen_here", "_law_words"] (spTX TT)) (G_RR : RG.CalG P w K mg base "_law_refused_right" 9 ["_law_pen_here", "_law_words"] (spRR TT)) :
    RG.FnG P w K mg base 10 f fd ["_law_script"] (spLaw K TT) := by
  refine RG.Fun.okG F scLaw (fun vs H Q E h => ?_) (fun cdv A outer s H vs Q E hg hr h => ?_)
  · obtain ⟨a, ns, rfl, _⟩ := h
    rfl
  · obtain ⟨a, ns, rfl, hS, hlen, tT, k⟩ := h
    refine ⟨_, pss_cons (ps_set (i := 1) scLaw.nd rfl (Or.inl rfl) (pe_cal G_pen hr (by decide) (by rfl) (pa_cons (pv 0) pa_nil)))
      (pss_cons (ps_for PassesOwn.never rfl (pi_range1 (by rfl) N.range (pa_cons pe_int pa_nil)) (pg_name (i := 2) scLaw.nd rfl (Or.inl rfl))
      (pss_cons (ps_set (i := 3) scLaw.nd rfl (Or.inl rfl) (pe_cal G_plain hr (by decide) (by rfl) (pa_cons (pv 1) (pa_cons (pe_cal G_pick hr (by decide) (by rfl) (pa_cons (pv 1) (pa_cons (pe_lst (pa_cons (pe_lst (pa_cons pe_int (pa_cons pe_int pa_nil))) (pa_cons (pe_lst (pa_cons pe_int (pa_cons pe_int pa_nil))) (pa_cons (pe_lst (pa_cons pe_int pa_nil)) (pa_cons (pe_lst (pa_cons pe_int pa_nil)) (pa_cons (pe_lst (pa_cons pe_int (pa_cons pe_int (pa_cons pe_int (pa_cons pe_int pa_nil))))) (pa_cons (pe_lst (pa_cons pe_int (pa_cons pe_int (pa_cons pe_int pa_nil)))) (pa_cons (pe_lst (pa_cons pe_int (pa_cons pe_int pa_nil))) (pa_cons (pe_lst (pa_cons pe_int (pa_cons pe_int (pa_cons pe_int pa_nil)))) (pa_cons (pe_lst (pa_cons pe_int pa_nil)) (pa_cons (pe_lst (pa_cons pe_int (pa_cons pe_int (pa_cons pe_int (pa_cons pe_int pa_nil))))) pa_nil))))))))))) pa_nil))) pa_nil))))
      (pss_one (ps_if (PW.pt (pw_or (pt_not (pt_val (RG.pe_calG G_MR hg hr (by decide) (by rfl) (pa_cons (pv 1) (pa_cons (pv 3) pa_nil))))) (pw_or (pt_not (pt_val (RG.pe_calG G_TX hg hr (by decide) (by rfl) (pa_cons (pv 1) (pa_cons (pv 3) pa_nil))))) (pw_or1 (pt_not (pt_val (RG.pe_calG G_RR hg hr (by decide) (by rfl) (pa_cons (pv 1) (pa_cons (pv 3) pa_nil))))))))) (pss_one (ps_ret pe_bl)) pss_nil))))
      (pss_one (ps_ret pe_bl))), ?_⟩
    refine ⟨_, rfl, a, ns, rfl, hS, by omega, fun H1 h c s1 hn cn hH1 => ?_⟩
    have t1 := tT.ext s1
    refine ⟨2, rfl, by decide, by decide, for_range (lo := 0) (n := 2) (fun i σ H' => (∃ v2 v3 : Option V, σ = [some (.ref a), some (.ref h), v2, v3]) ∧ HandAt H' h c (400 * i) ∧ LamX.Tabs TT H') ⟨⟨none, none, rfl⟩, hH1, t1⟩ ?_ ?_⟩
    · rintro i σ H2 hi ⟨⟨v2, v3, rfl⟩, hH2, t2⟩
      refine ⟨_, rfl, _, rfl, ar1 (lst_lits (cs := CSs) (lits_cons (liti_cons (liti_cons liti_nil)) (by decide) (lits_cons (liti_cons (liti_cons liti_nil)) (by decide) (lits_cons (liti_cons liti_nil) (by decide) (lits_cons (liti_cons liti_nil) (by decide) (lits_cons (liti_cons (liti_cons (liti_cons (liti_cons liti_nil)))) (by decide) (lits_cons (liti_cons (liti_cons (liti_cons liti_nil))) (by decide) (lits_cons (liti_cons (liti_cons liti_nil)) (by decide) (lits_cons (liti_cons (liti_cons (liti_cons liti_nil))) (by decide) (lits_cons (liti_cons liti_nil) (by decide) (lits_cons (liti_cons (liti_cons (liti_cons (liti_cons liti_nil)))) (by decide) lits_nil)))))))))) fun us H3 s3 hu => ⟨by rw [hu.length]; decide, fun O hO => ?_⟩)⟩
      have lu : us.length = 10 := hu.length
      have s4 := same_upd (o := .lst us) hO
      have gO : L2.upd H3 O (.lst us) O = some (.lst us) := upd_same
      have s24 := s3.trans s4
      have hH4 := hH2.same s24
      have Oh := (hH2.same s3).ne hO
      have hu4 := hu.same s4
      have t4 := t2.ext s24
      generalize L2.upd H3 O (.lst us) = H4 at s4 gO s24 hH4 hu4 t4 ⊢
      refine ⟨h, c, O, us, 400 * i, rfl, hH4, by omega, Oh, gO, by omega, by omega, fun v hv H5 d5 => ?_⟩
      obtain ⟨cq, cw, hcw, rfl, gq4⟩ := lls_mem hu4 hv
      have gq5 := d5.2 _ _ (hH4.ne_iv gq4) gq4
      have cqh := d5.1.ne_iv gq5
      have t5 := d5.tabs hH4 t4
      obtain ⟨k1, k2, k3, k4⟩ := CSs_ok cw hcw
      refine ⟨h, c, cq, cw.map Int.toNat, 400 * i + 1, rfl, d5.1, cqh, by rw [← k1]; exact gq5, k2, k3, by omega, by omega, fun p H6 ws_ wl ks hp6 d6 gp6 L6 pok => ?_⟩
      have t6 := d6.tabs d5.1 t5
      have rok := pok.ok (by omega)
      try dsimp only
      refine at_set ?_
      try dsimp only
      refine ⟨_, rfl, _, rfl, h, c, p, ws_, wl, 400 * i + 1 + 200, rfl, d6.1, by omega, gp6, L6, rok, t6, fun H7 x7 h7 t7 => ⟨_, rfl, iteF ?_⟩⟩
      obtain ⟨gp7, L7⟩ := x7.refs d6.1 gp6 L6
      refine ⟨_, rfl, _, rfl, h, c, p, ws_, wl, 400 * i + 1 + 200 + 1, rfl, h7, by omega, gp7, L7, rok, t7, fun H8 x8 h8 t8 => ⟨_, rfl, iteF ?_⟩⟩
      obtain ⟨gp8, L8⟩ := x8.refs h7 gp7 L7
      refine ⟨_, rfl, _, rfl, h, c, p, ws_, wl, 400 * i + 1 + 200 + 1 + 20, rfl, h8, by omega, gp8, L8, rok, t8, fun H9 h9 t9 => ⟨_, rfl, iteF ?_⟩⟩
      exact ⟨⟨_, _, rfl⟩, h9.mono (by omega), t9⟩
    · rintro σ H2 ⟨⟨v2, v3, rfl⟩, hH2, t2⟩
      try dsimp only
      exact k _
end
end W11
set_option Elab.async false
set_option linter.all false
set_option maxRecDepth 100000
set_option maxHeartbeats 1000000
/-! the law's own call: no repr is under way, and lambdas' tables stand empty. -/
namespace RG
open PySem L2 PySem.Spec PyProof.Rows
section
variable {P : Program} {w : World} {K : PySem.W.Frag} {s : Shared} {a : Addr} {vs : List Value} {ns : List Int} {cs : List (Addr × Addr)}
def tblO : Obj := { cls := .none, data := .fields #[] }
/-- the script and the tables -/
def startT (K : PySem.W.Frag) (cs : List (Addr × Addr)) (a : Addr) (vs : List Value) (ns : List Int) : Hp := fun b => if b ∈ cs.map (·.2) then some (.tbl #[]) else startH K a vs ns b
structure Tbls (K : PySem.W.Frag) (h : Heap) (cs : List (Addr × Addr)) : Prop where
  at_ : ∀ p ∈ cs, h.get? p.2 = some tblO
  out : ∀ p ∈ cs, K.lookup p.2 = none
  hd : ∀ p ∈ cs, PySem.W.CodeHd h p.1 p.2
theorem startT_in {b : Addr} (h : b ∈ cs.map (·.2)) : startT K cs a vs ns b = some (.tbl #[]) := if_pos h
theorem startT_out {b : Addr} (h : b ∉ cs.map (·.2)) : startT K cs a vs ns b = startH K a vs ns b := if_neg h
theorem Tbls.mem {h : Heap} (T : Tbls K h cs) {b : Addr} (hb : b ∈ cs.map (·.2)) : h.get? b = some tblO ∧ K.lookup b = none := by
  obtain ⟨p, hp, rfl⟩ := List.mem_map.mp hb
  exact ⟨T.at_ p hp, T.out p hp⟩
/-- what is neither a list nor a table is not told of -/
theorem startT_no (T : Tbls K s.heap cs) (at_ : s.heap.get? a = some (scriptO vs)) {b : Addr} {o : Obj} (e : s.heap.get? b = some o) (n1 : ∀ xs n, o.data ≠ .seq xs n) (n2 : o.data ≠ .fields #[]) : startT K cs a vs ns b = none := by
  by_cases hb : b ∈ cs.map (·.2)
  · have := (T.mem hb).1
    rw [e] at this
    cases this
    exact absurd rfl n2
  · rw [startT_out hb]
    cases q : startH K a vs ns b with
    | none => rfl
    | some u =>
      obtain ⟨rfl, _⟩ := startH_some q
      rw [at_] at e
      cases e
      exact absurd rfl (n1 _ _)
theorem startT_ns (T : Tbls K s.heap cs) (at_ : s.heap.get? a = some (scriptO vs)) {b : Addr} {m : Str → Option Value} (h : s.heap.Ns b m) : (hidT s.heap (startT K cs a vs ns)).Ns b m := by
  obtain ⟨o, es, ep, get, data, rest⟩ := h
  exact ⟨o, es, ep, hidT_get get (startT_no T at_ get (fun xs n z => by rw [data] at z; cases z) fun z => by rw [data] at z; cases z), data, rest⟩
theorem startT_kin (T : Tbls K s.heap cs) (KX : K.In s.heap) : K.In (hidT s.heap (startT K cs a vs ns)) := fun b o e => by
  refine hidT_get (KX b o e) ?_
  have hb : b ∉ cs.map (·.2) := fun z => by
    rw [(T.mem z).2] at e
    cases e
  rw [startT_out hb]
  cases q : startH K a vs ns b with
  | none => rfl
  | some u =>
    obtain ⟨rfl, none_, _⟩ := startH_some q
    rw [none_] at e
    cases e
theorem startT_ok (T : Tbls K s.heap cs) (at_ : s.heap.get? a = some (scriptO vs)) (whole : IntsAre vs ns) (few : ns.length ≤ sizeLine) : HOk P w (startT K cs a vs ns) s.heap := fun b u h => by
  by_cases hb : b ∈ cs.map (·.2)
  · rw [startT_in hb] at h
    cases h
    exact (T.mem hb).1
  · rw [startT_out hb] at h
    obtain ⟨rfl, _, rfl⟩ := startH_some h
    exact ⟨at_, (by rw [List.length_map]; exact few), vs, _, vals_ints whole, at_⟩
theorem startT_seq (T : Tbls K s.heap cs) (KX : K.In s.heap) (at_ : s.heap.get? a = some (scriptO vs)) (whole : IntsAre vs ns) (few : ns.length ≤ sizeLine) : SqL K (startT K cs a vs ns) a (ns.map V.int) := by
  have ha : a ∉ cs.map (·.2) := fun z => by
    have := (T.mem z).1
    rw [at_] at this
    have z' : Data.seq vs.toArray _ = Data.fields #[] := congrArg Obj.data (Option.some.inj this)
    cases z'
  rcases startH_seq KX at_ whole few with h | h
  · refine .inl ?_
    rcases h with h | ⟨o, h⟩
    · exact .inl ((startT_out ha).trans h)
    · exact .inr ⟨o, (startT_out ha).trans h⟩
  · exact .inr h
theorem startT_tab (T : Tbls K s.heap cs) (at_ : s.heap.get? a = some (scriptO vs)) {mg : Str → Option Value} (top : s.heap.Ns mainGlobals mg)
    (hbm : ∃ (bm : Addr) (ob : Obj), mg "__builtins__" = some (.ref bm) ∧ bm ≠ builtinsNs ∧ s.heap.get? bm = some ob ∧ ob.cls = .type "module" ∧ ob.dict = some builtinsNs ∧ ob.data = .plain) : ∀ p ∈ cs, LamX.TabB (hidT s.heap (startT K cs a vs ns)) mg p.1 p.2 := fun p hp => by
  have tp := T.at_ p hp
  obtain ⟨go, ges, gep, gget, gdata, _⟩ := top
  obtain ⟨bm, ob, b1, b2, b3, b4, b5, b6⟩ := hbm
  constructor
  · obtain ⟨o, us, file, tf, flags, tg, inF, text, tt, e1, r1, r2, r3, rest⟩ := T.hd p hp
    refine ⟨o, us, file, tf, flags, tg, inF, text, tt, hidT_get e1 (startT_no T at_ e1 (fun xs n z => by rw [r2] at z; cases z) fun z => ?_), r1, r2, r3, rest⟩
    rw [r2] at z
    cases z
    simp at r3
  · refine ⟨bm, ob, b1, b2, fun q => ?_, fun q => ?_, hidT_get b3 (startT_no T at_ b3 (fun xs n z => by rw [b6] at z; cases z) fun z => by rw [b6] at z; cases z), b4, b5, b6⟩
    · rw [q, gget] at b3
      cases b3
      rw [gdata] at b6
      cases b6
    · rw [q, tp] at b3
      cases b3
      cases b6
  · intro z
    rw [z, tp] at gget
    cases gget
    cases gdata
theorem law_callGT {mg mb : Str → Option Value} {k : Nat} {fa : Addr} {fd : FuncData} {x : Str} {sp : Sp} (KX : K.In s.heap) (top : s.heap.Ns mainGlobals mg) (bi : s.heap.Ns builtinsNs mb) (bib : ∀ x : Str, x ≠ "__name__" → mb x = bootBuiltins x) (lim : s.heap.NoLimit) (gens : s.gens = #[])
    (T : Tbls K s.heap cs) (hbm : ∃ (bm : Addr) (ob : Obj), mg "__builtins__" = some (.ref bm) ∧ bm ≠ builtinsNs ∧ s.heap.get? bm = some ob ∧ ob.cls = .type "module" ∧ ob.dict = some builtinsNs ∧ ob.data = .plain)
    (at_ : s.heap.get? a = some (scriptO vs)) (whole : IntsAre vs ns) (few : ns.length ≤ sizeLine) (room : Room k callerA) (F : ∀ base : Heap, K.In base → base.Ns mainGlobals mg → (∀ p ∈ cs, LamX.TabB base mg p.1 p.2) → FnG P w K mg base k fa fd [x] sp)
    (bind : ∀ (s : Shared) (u : Value), BindsTo s fd ⟨[u], []⟩ [(x, u)]) (ask : ∀ H : Hp, (∀ p ∈ cs, H p.2 = some (.tbl #[])) → SqL K H a (ns.map V.int) → sp [.ref a] H (fun v _ => v = .bl true) E0) :
    codeAny (model P w) callerA (.call (.ref fa) ⟨[.ref a], []⟩) (fun r s' => r = .ok (.ret (.bool true)) ∧ OldK s.heap s'.heap ∧ s'.os = s.os ∧ AllBare s'.gens) s := by
  have kin := startT_kin (a := a) (vs := vs) (ns := ns) T KX
  have top' := startT_ns (ns := ns) T at_ top
  obtain ⟨mc, l1, l2⟩ := lim
  have env : Env0 P w K mg (hidT s.heap (startT K cs a vs ns)) callerA [] s (startT K cs a vs ns) :=
    { frames := rfl, mod := ⟨kin, top', ⟨mb, startT_ns T at_ bi, bib⟩, ⟨mc, startT_ns T at_ l1, l2⟩⟩, bs := fun _ _ => of_hidT, bsz := Nat.le_of_eq (hidT_size _ _), funs := trivial, frf := (fun b hb => nomatch (show b ∈ ([] : List Addr) from hb)), hok := startT_ok T at_ whole few, bare := AllBare.of_eq gens }
  refine codeAny_mono ((F _ kin top' (startT_tab T at_ top hbm)).does callerA [] s _ ⟨[.ref a], []⟩ [.ref a] [.ref a] _ _ rfl room env (bind s (.ref a)) (.cons rfl .nil) (ask _ (fun p hp => startT_in (List.mem_map.mpr ⟨p, hp, rfl⟩)) (startT_seq T KX at_ whole few))) ?_
  intro r t z
  match r, z with
  | .ok (.ret u), ⟨v, G, os, bare, un, ok', rel, (q : v = .bl true)⟩ =>
    subst q
    obtain rfl : u = Value.bool true := rel
    -- what is told of at the end stands as it is told
    have stay : ∀ b o, b ∉ cs.map (·.2) → s.heap.get? b = some o → t.heap.get? b = some o := fun b o hb get => by
      cases c : startT K cs a vs ns b with
      | none => exact un.keep b o get c (fun m => nomatch (show b ∈ ([] : List Addr) from m)) (fun m => nomatch m)
      | some u =>
        have c2 := (startT_out hb).symm.trans c
        obtain ⟨rfl, _, rfl⟩ := startH_some c2
        have eo : o = scriptO vs := Option.some.inj (get.symm.trans at_)
        rw [eo]
        exact (ok' b _ (un.frzs b _ _ c)).1
    have more : ∀ p ∈ cs, ∃ es : Array Value, t.heap.get? p.2 = some { cls := .none, data := .fields es } := fun p hp => by
      obtain ⟨es, z⟩ := un.tbls p.2 #[] (startT_in (List.mem_map.mpr ⟨p, hp, rfl⟩))
      exact ⟨_, ok' p.2 _ z⟩
    refine ⟨rfl, ⟨fun b o get => ?_, fun b o get => ?_⟩, os, bare⟩
    · by_cases hb : b ∈ cs.map (·.2)
      · obtain ⟨p, hp, rfl⟩ := List.mem_map.mp hb
        obtain ⟨es, he⟩ := more p hp
        have e2 := T.at_ p hp
        rw [get] at e2
        cases e2
        exact .inr (.inl ⟨((T.hd p hp).tab get).isCodeTable, rfl, #[], es, rfl, by rw [Array.empty_append]; exact he⟩)
      · exact .inl (stay b o hb get)
    · by_cases hb : b ∈ cs.map (·.2)
      · obtain ⟨p, hp, rfl⟩ := List.mem_map.mp hb
        obtain ⟨es, he⟩ := more p hp
        exact ⟨_, he⟩
      · exact ⟨o, stay b o hb get⟩
end
/-- what is known of the law at the head's heap h -/
def LawAtG (l : PySem.W.OpenLaw) (w : World) (K : PySem.W.Frag) (k n : Nat) (x : Str) (mg : Str → Option Value) (fa : Addr) (h : Heap) : Prop :=
  ∃ (fd : FuncData) (cs : List (Addr × Addr)) (sp : Sp), Tbls K h cs ∧ (∀ (s : Shared) (u : Value), BindsTo s fd ⟨[u], []⟩ [(x, u)]) ∧
    (∀ (H : Hp) (a : Addr) (ns : List Int), ns.length ≤ n → (∀ p ∈ cs, H p.2 = some (.tbl #[])) → SqL K H a (ns.map V.int) → sp [.ref a] H (fun v _ => v = .bl true) E0) ∧
    ∀ base : Heap, K.In base → base.Ns mainGlobals mg → (∀ p ∈ cs, LamX.TabB base mg p.1 p.2) → FnG l.prog w K mg base k fa fd [x] sp
theorem walkGT {l : PySem.W.OpenLaw} {n k : Nat} {q : Program} {loose : List Str} {XP : (Str → Option Value) → Heap → Prop} {YP : World → Heap → Prop} {d : DefRec} {K : Params → PySem.W.Frag} {x : Str} (hn : l.most = some n) (hz : n ≤ sizeLine) (hdf : d.params.defaults = []) (room : Room k callerA)
    (hY : ∀ (w : World) (h : Heap), YP w h → (K w.params).In h)
    (F : ∀ (w : World) (mg : Str → Option Value) (fa : Addr) (h : Heap), YP w h → (K w.params).In h → h.Ns mainGlobals mg → mg d.name = some (.ref fa) → LawAtG l w (K w.params) k n x mg fa h) : PySem.W.WalkO q loose XP YP l.row.toRowW d [] (fun f vs => PySem.call f vs) := by
  refine Att.attach_callB hn hdf fun w s0 s mg mb fa o pm cd doc a vs ns G Y _ _ _ hm at_ whole few _ gens => ?_
  obtain ⟨fd, cs, sp, T, bind, ask, B⟩ := F w mg fa _ Y (hY w _ Y) G.T.g hm
  exact law_callGT (hY w _ Y) G.T.g G.T.b G.T.builtins G.T.nolimit gens T G.T.bmain at_ whole (Nat.le_trans few hz) room B bind fun H hH hS => ask H a ns few hH hS
end RG
set_option Elab.async false
set_option linter.all false
set_option maxRecDepth 100000
set_option maxHeartbeats 1000000
namespace W11
open PySem L2 PySem.Spec PyProof.Rows WR WB WE WS
/-! ### what the top has written -/
structure FF (K : PySem.W.Frag) (mg : Str → Option Value) (x : Str) (st : Stmt) : Prop where
  ex : ∃ (f : Addr) (oc : Value) (od : Option Addr) (kV doc pm cdv ct : Value) (an : Option Addr) (osl : Array (Option Value)),
    K.lookup f = some ⟨oc, od, .func (PySem.W.fnOf x x (defArgs st) (defBody st) (defScope st) .none kV doc pm an cdv ct), osl⟩ ∧ PySem.W.codeIn K cdv x = true ∧ PySem.W.keepIn K (.ref f) = true ∧ mg x = some (.ref f)
theorem ff_mk {K : PySem.W.Frag} {mg : Str → Option Value} {h : Heap} {x : Str} {st : Stmt} {f : Addr} {oc : Value} {od an : Option Addr} {kV doc pm cdv ct : Value} {osl : Array (Option Value)} (X : K.In h) (G : h.Ns mainGlobals mg)
    (a : PySem.W.nsIn K mainGlobals x = some (some (.ref f))) (l : K.lookup f = some ⟨oc, od, .func (PySem.W.fnOf x x (defArgs st) (defBody st) (defScope st) .none kV doc pm an cdv ct), osl⟩) (c : PySem.W.codeIn K cdv x = true) (k : PySem.W.keepIn K (.ref f) = true) : FF K mg x st :=
  ⟨f, oc, od, kV, doc, pm, cdv, ct, an, osl, l, c, k, PySem.W.mg_of X G a⟩
/-- a def in the class's body, held by the class -/
structure FM (K : PySem.W.Frag) (C : Addr) (m q : Str) (st : Stmt) : Prop where
  ex : ∃ (f : Addr) (oc : Value) (od : Option Addr) (kV doc pm cdv ct : Value) (an : Option Addr) (osl : Array (Option Value)),
    PySem.W.findIn K (.ref C) m = some (some (.ref f)) ∧ PySem.W.isFn K (.ref f) = true ∧
    K.lookup f = some ⟨oc, od, .func (PySem.W.fnOf m q (defArgs st) (defBody st) (defScope st) .none kV doc pm an cdv ct), osl⟩ ∧ PySem.W.codeIn K cdv q = true ∧ PySem.W.keepIn K (.ref f) = true
theorem fm_mk {K : PySem.W.Frag} {C : Addr} {m q : Str} {st : Stmt} {f : Addr} {oc : Value} {od an : Option Addr} {kV doc pm cdv ct : Value} {osl : Array (Option Value)}
    (a : PySem.W.findIn K (.ref C) m = some (some (.ref f))) (i : PySem.W.isFn K (.ref f) = true) (l : K.lookup f = some ⟨oc, od, .func (PySem.W.fnOf m q (defArgs st) (defBody st) (defScope st) .none kV doc pm an cdv ct), osl⟩) (c : PySem.W.codeIn K cdv q = true) (k : PySem.W.keepIn K (.ref f) = true) : FM K C m q st :=
  ⟨f, oc, od, kV, doc, pm, cdv, ct, an, osl, a, i, l, c, k⟩
section
variable {P : Program} {w : World} {K : PySem.W.Frag} {mg : Str → Option Value} {base : Heap} {x m q : Str} {C : Addr} {st : Stmt} {k : Nat} {ps ks : List Str} {sp : Sp}
theorem FF.cal (F : FF K mg x st) (ok : ∀ f fd, Fun K x x st f fd → FnOk P w K mg base CX0 k f fd ps sp)
    (hb : ∀ (kV doc pm : Value) (an : Option Addr) (cdv ct : Value) (us : List Value), us.length = ps.length → bindArgs (PySem.W.fnOf x x (defArgs st) (defBody st) (defScope st) .none kV doc pm an cdv ct) ⟨us, []⟩ = pure (ps.zip us)) : Cal P w K mg base x k ps sp := by
  obtain ⟨f, oc, od, kV, doc, pm, cdv, ct, an, osl, l, c, kp, m⟩ := F.ex
  exact ⟨f, _, ok f _ (fun_mk l c kp), m, kp, (fun_mk l c kp).binds hb⟩
/-- a def that calls itself: its promise may use where it stands -/
theorem FF.calR (F : FF K mg x st) (ok : ∀ f fd, Fun K x x st f fd → mg x = some (.ref f) → Binds K fd ps [] → FnOk P w K mg base CX0 k f fd ps sp)
    (hb : ∀ (kV doc pm : Value) (an : Option Addr) (cdv ct : Value) (us : List Value), us.length = ps.length → bindArgs (PySem.W.fnOf x x (defArgs st) (defBody st) (defScope st) .none kV doc pm an cdv ct) ⟨us, []⟩ = pure (ps.zip us)) : Cal P w K mg base x k ps sp := by
  obtain ⟨f, oc, od, kV, doc, pm, cdv, ct, an, osl, l, c, kp, m⟩ := F.ex
  exact ⟨f, _, ok f _ (fun_mk l c kp) m ((fun_mk l c kp).binds hb), m, kp, (fun_mk l c kp).binds hb⟩
/-- a class's __init__ -/
theorem FM.made (F : FM K C m q st) (hm : m = "__init__") (mks : PySem.W.makesIn K C = true) (kc : PySem.W.keepIn K (.ref C) = true) (ok : ∀ f fd, Fun K m q st f fd → FnOk P w K mg base CX0 k f fd ps sp)
    (hb : ∀ (kV doc pm : Value) (an : Option Addr) (cdv ct : Value) (us : List Value), us.length = ps.length → bindArgs (PySem.W.fnOf m q (defArgs st) (defBody st) (defScope st) .none kV doc pm an cdv ct) ⟨us, []⟩ = pure (ps.zip us)) : ∃ (f : Addr) (fd : FuncData), Mk K C f ∧ FnOk P w K mg base CX0 k f fd ps sp ∧ Binds K fd ps [] := by
  subst hm
  obtain ⟨f, oc, od, kV, doc, pm, cdv, ct, an, osl, a, i, l, c, kp⟩ := F.ex
  exact ⟨f, _, ⟨mks, a, i, kc⟩, ok f _ (fun_mk l c kp), (fun_mk l c kp).binds hb⟩
theorem FF.calX (F : FF K mg x st) (ok : ∀ f fd, Fun K x x st f fd → FnOk P w K mg base (L2.CX P w) k f fd ps sp)
    (hb : ∀ (kV doc pm : Value) (an : Option Addr) (cdv ct : Value) (us : List Value), us.length = ps.length → bindArgs (PySem.W.fnOf x x (defArgs st) (defBody st) (defScope st) .none kV doc pm an cdv ct) ⟨us, []⟩ = pure (ps.zip us)) : CalX P w K mg base x k ps sp := by
  obtain ⟨f, oc, od, kV, doc, pm, cdv, ct, an, osl, l, c, kp, m⟩ := F.ex
  exact ⟨f, _, ok f _ (fun_mk l c kp), m, kp, (fun_mk l c kp).binds hb⟩
theorem vals_app {a c : List V} {b d : List Value} (h1 : Vals a b) (h2 : Vals c d) : Vals (a ++ c) (b ++ d) := by
  induction h1 with
  | nil => exact h2
  | cons h t ih => exact .cons h ih
theorem FM.methK (F : FM K C m q st) (ok : ∀ f fd, Fun K m q st f fd → FnOk P w K mg base CX0 6 f fd ps sp)
    (hb : ∀ (kV doc pm : Value) (an : Option Addr) (cdv ct : Value) (us ws : List Value), us.length = 1 → ws.length = ks.length → bindArgs (PySem.W.fnOf m q (defArgs st) (defBody st) (defScope st) .none kV doc pm an cdv ct) ⟨us, ks.zip ws⟩ = pure (ps.zip (us ++ ws))) : MethK P w K mg base C m ps ks sp := by
  obtain ⟨f, oc, od, kV, doc, pm, cdv, ct, an, osl, a, i, l, c, kp⟩ := F.ex
  exact ⟨f, _, ⟨a, i, kp⟩, ok f _ (fun_mk l c kp), ⟨fun s us ws _ h0 h1 => .of_eq (hb kV doc pm an cdv ct us ws h0 h1), fun r1 r2 => vals_app r1 r2⟩⟩
theorem FM.spe (F : FM K C m q st) (ok : ∀ f fd, Fun K m q st f fd → FnOk P w K mg base CX0 k f fd ["self"] sp)
    (hb : ∀ (kV doc pm : Value) (an : Option Addr) (cdv ct : Value) (us : List Value), us.length = 1 → bindArgs (PySem.W.fnOf m q (defArgs st) (defBody st) (defScope st) .none kV doc pm an cdv ct) ⟨us, []⟩ = pure ((["self"] : List Str).zip us)) : MStr.Spe P w K mg base C m k sp := by
  obtain ⟨f, oc, od, kV, doc, pm, cdv, ct, an, osl, a, i, l, c, kp⟩ := F.ex
  exact ⟨f, _, ok f _ (fun_mk l c kp), a, i, (fun_mk l c kp).binds hb⟩
end
/-- a staticmethod in the class's body -/
structure FS (K : PySem.W.Frag) (C : Addr) (m q : Str) (st : Stmt) : Prop where
  ex : ∃ (p f : Addr) (oc : Value) (od : Option Addr) (kV doc pm cdv ct : Value) (an : Option Addr) (osl : Array (Option Value)),
    MStat.SMet K C (.type "type") m p f ∧ K.lookup f = some ⟨oc, od, .func (PySem.W.fnOf m q (defArgs st) (defBody st) (defScope st) .none kV doc pm an cdv ct), osl⟩ ∧ PySem.W.codeIn K cdv q = true
theorem fs_mk {K : PySem.W.Frag} {C : Addr} {m q : Str} {st : Stmt} {p f : Addr} {rest : List Value} {oc : Value} {od an : Option Addr} {kV doc pm cdv ct : Value} {osl : Array (Option Value)}
    (rd : PySem.W.readsIn K C (.type "type") = true) (ga : PySem.W.specialIn K (.ref C) "__getattribute__" = some (some (.builtin "type.__getattribute__")))
    (at_ : PySem.W.findCls K (.ref C) (.type "type") m = some (.get (.builtin "staticmethod.__get__") (.ref p) .none (.ref C))) (rc : PySem.W.recIn K p "staticmethod" = some (.ref f :: rest)) (kp : PySem.W.keepIn K (.ref f) = true)
    (l : K.lookup f = some ⟨oc, od, .func (PySem.W.fnOf m q (defArgs st) (defBody st) (defScope st) .none kV doc pm an cdv ct), osl⟩) (c : PySem.W.codeIn K cdv q = true) : FS K C m q st :=
  ⟨p, f, oc, od, kV, doc, pm, cdv, ct, an, osl, ⟨rd, ga, at_, ⟨rest, rc⟩, kp⟩, l, c⟩
theorem FS.smx {P : Program} {w : World} {K : PySem.W.Frag} {mg : Str → Option Value} {base : Heap} {m q : Str} {C : Addr} {st : Stmt} {k : Nat} {ps : List Str} {sp : Sp} (F : FS K C m q st) (ok : ∀ f fd, Fun K m q st f fd → FnOk P w K mg base (L2.CX P w) k f fd ps sp)
    (hb : ∀ (kV doc pm : Value) (an : Option Addr) (cdv ct : Value) (us : List Value), us.length = ps.length → bindArgs (PySem.W.fnOf m q (defArgs st) (defBody st) (defScope st) .none kV doc pm an cdv ct) ⟨us, []⟩ = pure (ps.zip us)) : SMx P w K mg base C m k ps sp := by
  obtain ⟨p, f, oc, od, kV, doc, pm, cdv, ct, an, osl, sm, l, c⟩ := F.ex
  exact ⟨.type "type", p, f, _, sm, ok f _ (fun_mk l c sm.kp), (fun_mk l c sm.kp).binds hb⟩
theorem FS.smk {P : Program} {w : World} {K : PySem.W.Frag} {mg : Str → Option Value} {base : Heap} {m q : Str} {C : Addr} {st : Stmt} {k : Nat} {ps ks : List Str} {sp : Sp} (F : FS K C m q st) (gg : List Value → List Value) (gV : List V → List V) (ok : ∀ f fd, Fun K m q st f fd → FnOk P w K mg base CX0 k f fd ps sp)
    (hk : ∀ (kV doc pm : Value) (an : Option Addr) (cdv ct : Value) (ws : List Value), ws.length = ks.length → bindArgs (PySem.W.fnOf m q (defArgs st) (defBody st) (defScope st) .none kV doc pm an cdv ct) ⟨[], ks.zip ws⟩ = pure (ps.zip (gg ws)))
    (hr : ∀ {zs : List V} {ws : List Value}, Vals zs ws → Vals (gV zs) (gg ws)) : SMk P w K mg base C m k ps ks gV sp := by
  obtain ⟨p, f, oc, od, kV, doc, pm, cdv, ct, an, osl, sm, l, c⟩ := F.ex
  refine ⟨.type "type", p, f, _, gg, sm, ok f _ (fun_mk l c sm.kp), ⟨fun s us ws _ h0 h1 => ?_, fun _ r => hr r⟩⟩
  obtain rfl : us = [] := List.length_eq_zero_iff.mp h0
  exact .of_eq (hk kV doc pm an cdv ct ws h1)
/-- what is to be known of an error's class -/
structure ErrW (K : PySem.W.Frag) (mg : Str → Option Value) (C : Addr) (x q : Str) (st : Stmt) : Prop where
  oex : OexC K C
  xf : XfC K C
  ini : FM K C "__init__" q st
  ty : ∀ f : Addr, PySem.W.findIn K (.ref C) "__init__" = some (some (.ref f)) → PySem.W.typeIn K (.ref f) = some (.type "function")
  g : mg x = some (.ref C)
  te : PySem.W.exmOne K (.ref C) (.ref C) = some true
structure Names (mg : Str → Option Value) : Prop where
  isinstance : mg "isinstance" = none
  int : mg "int" = none
  bool : mg "bool" = none
  str : mg "str" = none
  list : mg "list" = none
  tuple : mg "tuple" = none
  all : mg "all" = none
  len : mg "len" = none
  abs : mg "abs" = none
  range : mg "range" = none
  sorted : mg "sorted" = none
  set : mg "set" = none
  enumerate : mg "enumerate" = none
  min : mg "min" = none
  zip : mg "zip" = none
  repr : mg "repr" = none
  kind : ∃ t, mg "MOST_KIND" = some (.int 26 t)
  most : ∃ t, mg "MOST_LETTERS" = some (.int 500 t)
  words : ∃ t, mg "MOST_WORDS" = some (.int 4 t)
  places : ∃ t, mg "MOST_PLACES" = some (.int 24 t)
  alph : ∃ t, mg "ALPHABET" = some (.str alphS t)
structure Defs (K : PySem.W.Frag) (mg : Str → Option Value) (C CR : Addr) : Prop where
  d_sIsInt : FF K mg "is_integer" sIsInt
  d_sWithin : FF K mg "is_within" sWithin
  d_sLetter : FF K mg "is_letter" sLetter
  d_sListed : FF K mg "is_listed" sListed
  d_sShr : FF K mg "shortened_letters" sShr
  d_sRnd : FF K mg "rounded_letters" sRnd
  d_sKinds : FF K mg "kinds_of" sKinds
  d_sBalOf : FF K mg "balance_of" sBalOf
  d_sLText : FF K mg "letter_text" sLText
  d_sLOf : FF K mg "letter_of" sLOf
  d_sItems : FF K mg "items_of" sItems
  d_sRows : FF K mg "rows_of" sRows
  d_sFilled : FF K mg "is_filled" sFilled
  d_sFew : FF K mg "need_few_letters" sFew
  d_sNeedB : FF K mg "need_balanced" sNeedB
  d_sFewP : FF K mg "need_few_places" sFewP
  d_sNexts : FF K mg "nexts_of" sNexts
  d_sNeedPX : FF K mg "need_place" sNeedPX
  d_sJar : FF K mg "_law_pen" sJar
  d_sDraw : FF K mg "_law_draw" sDraw
  d_sPick : FF K mg "_law_pick" sPick
  d_sMixed : FF K mg "_law_mixed" sMixed
  d_sCut : FF K mg "_law_cut" sCut
  d_sPlain : FF K mg "_law_plain" sPlain
  d_sSR : FF K mg "_law_is_short_round" sSR
  d_sHeard : FF K mg "_law_heard" sHeard
  d_sItem : FF K mg "_law_item" sItem
  d_sText : FF K mg "_law_text" sText
  d_sLet : FF K mg "_law_letter" sLet
  d_sStop : FF K mg "_law_stop" sStop
  d_sLaw : FF K mg "law" sLaw
  m_sInit : FM K C "__init__" "Word.__init__" sInit
  m_sEq : FM K C "__eq__" "Word.__eq__" sEq
  m_sStrM : FM K C "__str__" "Word.__str__" sStrM
  m_sInitR : FM K CR "__init__" "Rims.__init__" sInitR
  m_sEqR : FM K CR "__eq__" "Rims.__eq__" sEqR
  m_sStrR : FM K CR "__str__" "Rims.__str__" sStrR
  m_sNextR : FM K CR "next" "Rims.next" sNextR
  m_sRimOf : FM K CR "rim_of" "Rims.rim_of" sRimOf
structure ClsC (K : PySem.W.Frag) (mg : Str → Option Value) (C : Addr) : Prop where
  cl : Cls K C
  n1 : NoAttr K C "letters"
  n2 : NoAttr K C "length"
  n3 : NoAttr K C "kinds"
  n4 : NoAttr K C "is_short"
  n5 : NoAttr K C "is_short_round"
  ca : PySem.W.findIn K (.ref C) "__class__" = some (some (.builtin "object.__class__"))
  cm : PySem.W.mroIn K C (.type "object") = some true
  mks : PySem.W.makesIn K C = true
  kc : PySem.W.keepIn K (.ref C) = true
  mgC : mg "Word" = some (.ref C)
  cn : PySem.W.specialIn K (.builtin "object.__class__") "__get__" = some (some (.builtin "getset_descriptor.__get__"))
  ct : PySem.W.takesIn K (.builtin "object.__class__") = some true
structure ClsCR (K : PySem.W.Frag) (mg : Str → Option Value) (C : Addr) : Prop where
  cl : Cls K C
  n1 : NoAttr K C "words"
  n2 : NoAttr K C "letters"
  n3 : NoAttr K C "many"
  n4 : NoAttr K C "bands"
  n5 : NoAttr K C "is_short"
  n6 : NoAttr K C "homes"
  n7 : NoAttr K C "nexts"
  ca : PySem.W.findIn K (.ref C) "__class__" = some (some (.builtin "object.__class__"))
  cm : PySem.W.mroIn K C (.type "object") = some true
  mks : PySem.W.makesIn K C = true
  kc : PySem.W.keepIn K (.ref C) = true
  mgC : mg "Rims" = some (.ref C)
/-- the facts of an error's class -/
structure ErrF (K : PySem.W.Frag) (C : Addr) : Prop where
  oex : OexC K C
  xf : XfC K C
  sub : PySem.W.subIn K (.ref C) (.type "BaseException") = some true
  icl : PySem.W.isClsIn K C = true
  tyC : PySem.W.typeIn K (.ref C) = some (.type "type")
/-- and of what is asked of it -/
structure ErrX (K : PySem.W.Frag) (mg : Str → Option Value) (CH C : Addr) (x q : Str) (st : Stmt) (fl : Str) : Prop where
  w : ErrW K mg C x q st
  f : ErrF K C
  fl : PySem.W.findIn K (.ref C) fl = some none
  nt : PySem.W.kitOne K (.type "NoneType") (.ref C) = some false
  cc : PySem.W.findIn K (.ref C) "__class__" = some (some (.builtin "object.__class__"))
  mo : PySem.W.mroIn K C (.type "object") = some true
  sb : PySem.W.subIn K (.ref C) (.ref CH) = some true
theorem exm_two {K : PySem.W.Frag} {S U : Addr} {b : Bool} (g1 : PySem.W.subIn K (.ref U) (.type "BaseException") = some true) (g2 : PySem.W.isClsIn K U = true) (g3 : PySem.W.typeIn K (.ref U) = some (.type "type")) (h4 : PySem.W.subIn K (.ref S) (.ref U) = some b) :
    PySem.W.exmOne K (.ref S) (.ref U) = some b := by
  have e1 : (PySem.W.subIn K (.ref U) (.type "BaseException") == some true) = true := by rw [g1] <;> rfl
  have e2 : ((PySem.W.clsIn K U).isSome && PySem.W.typeIn K (.ref U) == some (.type "type")) = true := by
    have h2' : (PySem.W.clsIn K U).isSome = true := g2
    rw [h2', g3] <;> rfl
  show (if (PySem.W.subIn K (.ref U) (.type "BaseException") == some true) = true then (if ((PySem.W.clsIn K U).isSome && PySem.W.typeIn K (.ref U) == some (.type "type")) = true then PySem.W.subIn K (.ref S) (.ref U) else none) else none) = some b
  rw [if_pos e1, if_pos e2]
  exact h4
/-- Missing's own __init__ -/
structure MissF (K : PySem.W.Frag) (mg : Str → Option Value) (CM g : Addr) (mc : Value) : Prop where
  at_ : mg "Missing" = some (.ref CM)
  c : CF.CFn K CM mc "__init__" g
  ex : ∃ (oc : Value) (od : Option Addr) (kV doc pm cdv ct : Value) (an : Option Addr) (osl : Array (Option Value)), K.lookup g = some ⟨oc, od, .func (PySem.W.fnOf "__init__" "Missing.__init__" (defArgs sInitMi) (defBody sInitMi) (defScope sInitMi) .none kV doc pm an cdv ct), osl⟩ ∧ PySem.W.codeIn K cdv "Missing.__init__" = true
theorem law_mk {P : Program} {w : World} {K : PySem.W.Frag} {mg : Str → Option Value} {base : Heap} {C CR CBW CTM CUB CT CNP CH CM gM fM fT fR cM cT cR P1 P2 P3 fL : Addr} {mcM : Value} {fdL fdM fdT fdR : FuncData} (N : Names mg) (D : Defs K mg C CR) (WC : ClsC K mg C) (WCR : ClsCR K mg CR)
    (neR : PySem.W.findIn K (.ref CR) "__ne__" = some (some (.builtin "object.__ne__"))) (OX : TxOR K CR) (XW : XWd K C) (nk : PySem.W.kitAny K (.ref C) [.type "list", .type "tuple"] = some false) (SRd : FS K CR "read" "Rims.read" sReadR)
    (EBW : ErrX K mg CH CBW "BadWord" "BadWord.__init__" sInitBW "part") (ETM : ErrX K mg CH CTM "TooMany" "TooMany.__init__" sInitTM "what") (EUB : ErrX K mg CH CUB "Unbalanced" "Unbalanced.__init__" sInitUB "kind") (EET : ErrX K mg CH CT "BadText" "BadText.__init__" sInitT "line") (ENP : ErrX K mg CH CNP "NoPlace" "NoPlace.__init__" sInitNP "value") (mst : PySem.W.findIn K (.ref CTM) "most" = some none) (itm : PySem.W.findIn K (.ref CT) "item" = some none)
    (MI : MissF K mg CM gM mcM) (Z : Five K mg CBW CTM CUB CT CNP CH)
    (FM_ : FunC K "_law_made_right" sMR fM cM fdM) (gM_ : mg "_law_made_right" = some (.ref fM)) (kM_ : PySem.W.keepIn K (.ref fM) = true) (bM_ : Binds K fdM ["_law_pen_here", "_law_words"] []) (TB1 : LamX.TabB base mg cM P1)
    (FT_ : FunC K "_law_texts_right" sTX fT cT fdT) (gT_ : mg "_law_texts_right" = some (.ref fT)) (kT_ : PySem.W.keepIn K (.ref fT) = true) (bT_ : Binds K fdT ["_law_pen_here", "_law_words"] []) (TB2 : LamX.TabB base mg cT P2)
    (FR_ : FunC K "_law_refused_right" sRR fR cR fdR) (gR_ : mg "_law_refused_right" = some (.ref fR)) (kR_ : PySem.W.keepIn K (.ref fR) = true) (bR_ : Binds K fdR ["_law_pen_here", "_law_words"] []) (TB3 : LamX.TabB base mg cR P3)
    (d12 : P1 ≠ P2) (d13 : P1 ≠ P3) (d23 : P2 ≠ P3) (FL : Fun K "law" "law" sLaw fL fdL) : RG.FnG P w K mg base 10 fL fdL ["_law_script"] (spLaw K [(P1, qMR), (P2, qTX), (P3, qRR)]) := by
  have tA : TxA mg := ⟨N.tuple, N.len⟩
  have tB : TxB mg := ⟨N.sorted, N.abs⟩
  have tC : TxC mg := ⟨N.kind, N.all⟩
  have tI : TxI mg := ⟨N.isinstance, N.int, N.bool, N.str, N.list, N.tuple⟩
  have tL : TxL mg := ⟨N.int, N.len, N.abs⟩
  have tR : TxR mg := ⟨N.words, N.places, N.range, N.enumerate⟩
  have tW : TxW K mg C := ⟨WC.cl, WC.n1, WC.n2, WC.n3, WC.n4, WC.n5, WC.ca, WC.cn, WC.ct, WC.cm, WC.mgC, N.most, N.isinstance, N.all⟩
  have tRC : TxRC K mg CR := ⟨WCR.cl, WCR.n1, WCR.n2, WCR.n3, WCR.n4, WCR.n5, WCR.n6, WCR.n7, WCR.mgC, WCR.ca, WCR.cm⟩
  have cInt : Cal P w K mg base "is_integer" 1 ["value"] spIsInt := D.d_sIsInt.cal (fun f fd F => ok_isInt F tI) (fun _ _ _ _ _ _ us hl => match us, hl with | [_], _ => rfl)
  have cWithin : Cal P w K mg base "is_within" 2 ["value", "least", "most"] spWithin := D.d_sWithin.cal (fun f fd F => ok_within F cInt) (fun _ _ _ _ _ _ us hl => match us, hl with | [_, _, _], _ => rfl)
  have cLetter : Cal P w K mg base "is_letter" 3 ["value"] spLetter := D.d_sLetter.cal (fun f fd F => ok_letter F cWithin tC) (fun _ _ _ _ _ _ us hl => match us, hl with | [_], _ => rfl)
  have cListE : Cal P w K mg base "is_listed" 1 ["value"] (spListE K) := D.d_sListed.cal (fun f fd F => ok_listE F tI) (fun _ _ _ _ _ _ us hl => match us, hl with | [_], _ => rfl)
  have cFew : Cal P w K mg base "need_few_letters" 1 ["many"] spFew := D.d_sFew.cal (fun f fd F => ok_few F tW) (fun _ _ _ _ _ _ us hl => match us, hl with | [_], _ => rfl)
  have cKinds : Cal P w K mg base "kinds_of" 1 ["letters"] (spKinds K) := D.d_sKinds.cal (fun f fd F => ok_kinds F tA tB) (fun _ _ _ _ _ _ us hl => match us, hl with | [_], _ => rfl)
  have cShr : Cal P w K mg base "shortened_letters" 1 ["letters"] (spShr K) := D.d_sShr.cal (fun f fd F => ok_shr F tA) (fun _ _ _ _ _ _ us hl => match us, hl with | [_], _ => rfl)
  have cRnd : Cal P w K mg base "rounded_letters" 2 ["letters"] (spRnd K) := D.d_sRnd.cal (fun f fd F => ok_rnd F cShr tA) (fun _ _ _ _ _ _ us hl => match us, hl with | [_], _ => rfl)
  have mW : MkW P w K mg base C := ⟨D.m_sInit.made rfl WC.mks WC.kc (fun f fd F => ok_init F tW tA cListE cLetter cFew cKinds cShr cRnd) (fun _ _ _ _ _ _ us hl => match us, hl with | [_, _], _ => rfl)⟩
  have cBal : Cal P w K mg base "balance_of" 2 ["letters"] (spBalOf K) := D.d_sBalOf.cal (fun f fd F => ok_balOf F tA cKinds) (fun _ _ _ _ _ _ us hl => match us, hl with | [_], _ => rfl)
  have cFilled : Cal P w K mg base "is_filled" 1 ["value"] (spFilled K C) := D.d_sFilled.cal (fun f fd F => ok_filled F tW) (fun _ _ _ _ _ _ us hl => match us, hl with | [_], _ => rfl)
  have cFewP : Cal P w K mg base "need_few_places" 1 ["many"] spFewP := D.d_sFewP.cal (fun f fd F => ok_fewP F tR) (fun _ _ _ _ _ _ us hl => match us, hl with | [_], _ => rfl)
  have cNeedB : Cal P w K mg base "need_balanced" 3 ["letters"] (spNeedB K) := D.d_sNeedB.cal (fun f fd F => ok_needB F cBal) (fun _ _ _ _ _ _ us hl => match us, hl with | [_], _ => rfl)
  have cNexts : Cal P w K mg base "nexts_of" 1 ["words"] (spNexts K C) := D.d_sNexts.cal (fun f fd F => ok_nexts F tW tA tR) (fun _ _ _ _ _ _ us hl => match us, hl with | [_], _ => rfl)
  have mR : MkR P w K mg base C CR := ⟨D.m_sInitR.made rfl WCR.mks WCR.kc (fun f fd F => ok_initR F tW tRC tA tR cListE cFilled cFewP cNeedB cNexts) (fun _ _ _ _ _ _ us hl => match us, hl with | [_, _], _ => rfl)⟩
  have N_ : TN mg := ⟨N.len, N.range, N.list, N.tuple, N.int, N.abs, N.min, N.sorted, N.set, N.enumerate, N.zip, N.isinstance, N.repr⟩
  have XT_ : TX mg := ⟨N.bool, N.str, N.all⟩
  have eW : EqW P w K mg base C := by
    obtain ⟨f, oc, od, kV, doc, pm, cdv, ct, an, osl, a, i, l, c, kp⟩ := D.m_sEq.ex
    exact ⟨f, _, ok_eq (fun_mk l c kp) tW, a, i, (fun_mk l c kp).binds (fun _ _ _ _ _ _ us hl => match us, hl with | [_, _], _ => rfl)⟩
  have eR : EqR P w K mg base C CR := by
    obtain ⟨f, oc, od, kV, doc, pm, cdv, ct, an, osl, a, i, l, c, kp⟩ := D.m_sEqR.ex
    exact ⟨f, _, ok_eqR (fun_mk l c kp) tW tRC eW, a, i, (fun_mk l c kp).binds (fun _ _ _ _ _ _ us hl => match us, hl with | [_, _], _ => rfl)⟩
  have eX : EqRX P w K mg base C CR := by
    obtain ⟨f, oc, od, kV, doc, pm, cdv, ct, an, osl, a, i, l, c, kp⟩ := D.m_sEqR.ex
    exact ⟨f, _, ok_eqRX (fun_mk l c kp) tW tRC eW OX, a, i, (fun_mk l c kp).binds (fun _ _ _ _ _ _ us hl => match us, hl with | [_, _], _ => rfl)⟩
  have mRK : MkRK P w K mg base C CR := by
    obtain ⟨f, oc, od, kV, doc, pm, cdv, ct, an, osl, a, i, l, c, kp⟩ := D.m_sInitR.ex
    exact ⟨f, _, ⟨WCR.mks, a, i, WCR.kc⟩, ok_initR (fun_mk l c kp) tW tRC tA tR cListE cFilled cFewP cNeedB cNexts, ⟨fun s us ws _ h0 h1 => match us, ws, h0, h1 with | [_], [_], _, _ => .of_eq rfl, fun r1 r2 => vals_app r1 r2⟩⟩
  have cLText : Cal P w K mg base "letter_text" 1 ["letter"] spLText := D.d_sLText.cal (fun f fd F => ok_lText F N.alph N.abs) (fun _ _ _ _ _ _ us hl => match us, hl with | [_], _ => rfl)
  have sW : MStr.Spe P w K mg base C "__str__" 2 (spStrM K C) := D.m_sStrM.spe (fun f fd F => ok_strM F tW cLText) (fun _ _ _ _ _ _ us hl => match us, hl with | [_], _ => rfl)
  have sR : MStr.Spe P w K mg base CR "__str__" 5 (spStrR K C CR) := D.m_sStrR.spe (fun f fd F => ok_strR F tRC N.str sW) (fun _ _ _ _ _ _ us hl => match us, hl with | [_], _ => rfl)
  have BW : ErrC P w K mg base CBW "BadWord" ["self", "part"] (spI1 "part" CBW) := by
    obtain ⟨f, oc, od, kV, doc, pm, cdv, ct, an, osl, a, i, l, c, kp⟩ := EBW.w.ini.ex
    exact ⟨EBW.w.oex, ⟨f, _, a, EBW.w.ty f a, (ok_initBW (fun_mk l c kp) EBW.w.oex EBW.fl).mono (by decide), (fun_mk l c kp).binds (fun _ _ _ _ _ _ us hl => match us, hl with | [_, _], _ => rfl)⟩, EBW.w.g, EBW.w.xf, EBW.w.te⟩
  have TM : ErrC P w K mg base CTM "TooMany" ["self", "what", "most"] (spM2 CTM) := by
    obtain ⟨f, oc, od, kV, doc, pm, cdv, ct, an, osl, a, i, l, c, kp⟩ := ETM.w.ini.ex
    exact ⟨ETM.w.oex, ⟨f, _, a, ETM.w.ty f a, (ok_initTM (fun_mk l c kp) ETM.w.oex ETM.fl mst).mono (by decide), (fun_mk l c kp).binds (fun _ _ _ _ _ _ us hl => match us, hl with | [_, _, _], _ => rfl)⟩, ETM.w.g, ETM.w.xf, ETM.w.te⟩
  have UB : ErrC P w K mg base CUB "Unbalanced" ["self", "kind"] (spI1 "kind" CUB) := by
    obtain ⟨f, oc, od, kV, doc, pm, cdv, ct, an, osl, a, i, l, c, kp⟩ := EUB.w.ini.ex
    exact ⟨EUB.w.oex, ⟨f, _, a, EUB.w.ty f a, (ok_initUB (fun_mk l c kp) EUB.w.oex EUB.fl).mono (by decide), (fun_mk l c kp).binds (fun _ _ _ _ _ _ us hl => match us, hl with | [_, _], _ => rfl)⟩, EUB.w.g, EUB.w.xf, EUB.w.te⟩
  have ET : ErrT P w K mg base CT "BadText" ["self", "line", "item"] (spI2 CT) := by
    obtain ⟨f, oc, od, kV, doc, pm, cdv, ct, an, osl, a, i, l, c, kp⟩ := EET.w.ini.ex
    exact ⟨EET.w.oex, ⟨f, _, a, EET.w.ty f a, ok_initT (fun_mk l c kp) EET.w.oex EET.fl itm, (fun_mk l c kp).binds (fun _ _ _ _ _ _ us hl => match us, hl with | [_, _, _], _ => rfl)⟩, EET.w.g, EET.w.xf, EET.w.te⟩
  have NP : ErrC P w K mg base CNP "NoPlace" ["self", "value"] (spI1 "value" CNP) := by
    obtain ⟨f, oc, od, kV, doc, pm, cdv, ct, an, osl, a, i, l, c, kp⟩ := ENP.w.ini.ex
    obtain ⟨oc2, od2, kV2, doc2, pm2, cdv2, ct2, an2, osl2, l2, c2⟩ := MI.ex
    exact ⟨ENP.w.oex, ⟨f, _, a, ENP.w.ty f a, ok_initNP (fun_mk l c kp) MI.at_ MI.c (ok_initMi (fun_mk (st := sInitMi) l2 c2 MI.c.kp) ENP.w.oex ENP.fl) ((fun_mk (st := sInitMi) l2 c2 MI.c.kp).binds (fun _ _ _ _ _ _ us hl => match us, hl with | [_, _], _ => rfl)), (fun_mk l c kp).binds (fun _ _ _ _ _ _ us hl => match us, hl with | [_, _], _ => rfl)⟩, ENP.w.g, ENP.w.xf, ENP.w.te⟩
  have cLOf : Cal P w K mg base "letter_of" 1 ["item"] spLOf := D.d_sLOf.cal (fun f fd F => ok_lOf F N.alph N.len) (fun _ _ _ _ _ _ us hl => match us, hl with | [_], _ => rfl)
  have cItems : CalX P w K mg base "items_of" 3 ["text"] (spItems CT) := D.d_sItems.calX (fun f fd F => ok_items F tI ET) (fun _ _ _ _ _ _ us hl => match us, hl with | [_], _ => rfl)
  have cRows : CalX P w K mg base "rows_of" 3 ["items"] (spRows K CT) := D.d_sRows.calX (fun f fd F => ok_rows F tR tA cLOf ET) (fun _ _ _ _ _ _ us hl => match us, hl with | [_], _ => rfl)
  have mSR : SMx P w K mg base CR "read" 6 ["text"] (spReadR K C CR CT) := SRd.smx (fun f fd F => ok_readR F tW tRC tA mW mR cItems cRows cBal ET) (fun _ _ _ _ _ _ us hl => match us, hl with | [_], _ => rfl)
  have mSK : SMk P w K mg base CR "read" 6 ["text"] ["text"] (fun zs => zs) (spRead0 K C CR CT) := SRd.smk id (fun zs => zs) (fun f fd F => fn_calm (ok_readR F tW tRC tA mW mR cItems cRows cBal ET)) (fun _ _ _ _ _ _ us hl => match us, hl with | [_], _ => rfl) fun r => r
  have cNP0 : Cal P w K mg base "need_place" 3 ["rims", "value"] (spNeedPl K C CR) := D.d_sNeedPX.cal (fun f fd F => ok_needPl F tRC cWithin) (fun _ _ _ _ _ _ us hl => match us, hl with | [_, _], _ => rfl)
  have cNPX : CalX P w K mg base "need_place" 4 ["rims", "value"] (spNoPl K C CR CNP) := D.d_sNeedPX.calX (fun f fd F => ok_needPX F tRC NP cWithin) (fun _ _ _ _ _ _ us hl => match us, hl with | [_, _], _ => rfl)
  have mNx : MethK P w K mg base CR "next" ["self", "place"] ["place"] (spNextR K C CR (nxF 0)) := D.m_sNextR.methK (fun f fd F => (ok_nextR F tRC cNP0).mono (by decide)) (fun _ _ _ _ _ _ us ws h1 h2 => match us, ws, h1, h2 with | [_], [_], _, _ => rfl)
  have mRi : MethK P w K mg base CR "rim_of" ["self", "place"] ["place"] (spNextR K C CR (hmF 0)) := D.m_sRimOf.methK (fun f fd F => (ok_rimOf F tRC cNP0).mono (by decide)) (fun _ _ _ _ _ _ us ws h1 h2 => match us, ws, h1, h2 with | [_], [_], _, _ => rfl)
  have O : RimO P w K mg base C CR CT := ⟨tW, tRC, mW, mR, mRK, eR, eX, OX, neR, mNx, mRi, sR, mSK⟩
  have cListX : Cal P w K mg base "is_listed" 1 ["value"] (spListedX K C) := D.d_sListed.cal (fun f fd F => ok_listedX F tI tW nk) (fun _ _ _ _ _ _ us hl => match us, hl with | [_], _ => rfl)
  have cFillX : Cal P w K mg base "is_filled" 1 ["value"] (spFillX K C) := D.d_sFilled.cal (fun f fd F => ok_fillX F tW) (fun _ _ _ _ _ _ us hl => match us, hl with | [_], _ => rfl)
  have cFewPX : CalX P w K mg base "need_few_places" 4 ["many"] (spFewPX CTM) := D.d_sFewP.calX (fun f fd F => ok_fewPX F tR TM) (fun _ _ _ _ _ _ us hl => match us, hl with | [_], _ => rfl)
  have cNeedBX : CalX P w K mg base "need_balanced" 4 ["letters"] (spNeedBX K CUB) := D.d_sNeedB.calX (fun f fd F => ok_needBX F cBal UB) (fun _ _ _ _ _ _ us hl => match us, hl with | [_], _ => rfl)
  have mRX : MkRX P w K mg base C CR CBW CTM CUB := by
    obtain ⟨f, oc, od, kV, doc, pm, cdv, ct, an, osl, a, i, l, c, kp⟩ := D.m_sInitR.ex
    exact ⟨⟨f, _, ⟨WCR.mks, a, i, WCR.kc⟩, fn_or ((ok_initR (fun_mk l c kp) tW tRC tA tR cListE cFilled cFewP cNeedB cNexts).mono (by decide)) (ok_initRX (fun_mk l c kp) tW tRC tA tR cListX cFillX cFewPX cNeedBX cNexts BW), (fun_mk l c kp).binds (fun _ _ _ _ _ _ us hl => match us, hl with | [_, _], _ => rfl)⟩, WCR.mgC⟩
  have cPen : Cal P w K mg base "_law_pen" 1 ["_law_script"] (spHand K) := D.d_sJar.cal (fun f fd F => ok_hand F tL) (fun _ _ _ _ _ _ us hl => match us, hl with | [_], _ => rfl)
  have cDraw : Cal P w K mg base "_law_draw" 1 ["_law_pen_here", "_law_many"] spTake := D.d_sDraw.cal (fun f fd F => ok_take F tL) (fun _ _ _ _ _ _ us hl => match us, hl with | [_, _], _ => rfl)
  have cPick : Cal P w K mg base "_law_pick" 2 ["_law_pen_here", "_law_some"] spPick := D.d_sPick.cal (fun f fd F => ok_pick F cDraw tL) (fun _ _ _ _ _ _ us hl => match us, hl with | [_, _], _ => rfl)
  have cMixed : Cal P w K mg base "_law_mixed" 2 ["_law_pen_here", "_law_some"] spMixed := D.d_sMixed.cal (fun f fd F => ok_Mixed F N_ cDraw) (fun _ _ _ _ _ _ us hl => match us, hl with | [_, _], _ => rfl)
  have cCut : Cal P w K mg base "_law_cut" 3 ["_law_pen_here", "_law_letters"] spCut := D.d_sCut.cal (fun f fd F => ok_Cut F N_ cDraw cMixed) (fun _ _ _ _ _ _ us hl => match us, hl with | [_, _], _ => rfl)
  have cPlain : Cal P w K mg base "_law_plain" 4 ["_law_pen_here", "_law_counts"] spPlain := D.d_sPlain.cal (fun f fd F => ok_Plain F N_ cCut cMixed) (fun _ _ _ _ _ _ us hl => match us, hl with | [_, _], _ => rfl)
  have cSRd : Cal P w K mg base "_law_is_short_round" 1 ["_law_word"] spSR := D.d_sSR.cal (fun f fd F => ok_SR F N_) (fun _ _ _ _ _ _ us hl => match us, hl with | [_], _ => rfl)
  have cItem : Cal P w K mg base "_law_item" 1 ["_law_letter_here"] spItem := D.d_sItem.cal (fun f fd F => ok_Item F N_) (fun _ _ _ _ _ _ us hl => match us, hl with | [_], _ => rfl)
  have cText : Cal P w K mg base "_law_text" 2 ["_law_words"] spText := D.d_sText.cal (fun f fd F => ok_Text F N_ cItem) (fun _ _ _ _ _ _ us hl => match us, hl with | [_], _ => rfl)
  have cLet : Cal P w K mg base "_law_letter" 1 ["_law_item_here"] spLet := D.d_sLet.cal (fun f fd F => ok_Let F N_) (fun _ _ _ _ _ _ us hl => match us, hl with | [_], _ => rfl)
  have cStop : Cal P w K mg base "_law_stop" 2 ["_law_items"] (spStop K) := D.d_sStop.cal (fun f fd F => ok_Stop F N_ cLet) (fun _ _ _ _ _ _ us hl => match us, hl with | [_], _ => rfl)
  obtain ⟨g, oc, od, kV, doc, pm, cdv, ct, an, osl, lg, cg, kg, mg1⟩ := D.d_sHeard.ex
  have hG : HeardK K mg g := ⟨mg1, kg, ⟨oc, od, kV, doc, pm, cdv, ct, an, osl, lg, cg⟩⟩
  have u1 : ∀ p ∈ [(P1, qMR), (P2, qTX), (P3, qRR)], p.1 = P1 → p.2 = qMR := by
    intro p hp e
    simp only [List.mem_cons, List.mem_nil_iff, or_false] at hp
    rcases hp with rfl | rfl | rfl
    · rfl
    · exact absurd e.symm d12
    · exact absurd e.symm d13
  have u2 : ∀ p ∈ [(P1, qMR), (P2, qTX), (P3, qRR)], p.1 = P2 → p.2 = qTX := by
    intro p hp e
    simp only [List.mem_cons, List.mem_nil_iff, or_false] at hp
    rcases hp with rfl | rfl | rfl
    · exact absurd e d12
    · rfl
    · exact absurd e.symm d23
  have u3 : ∀ p ∈ [(P1, qMR), (P2, qTX), (P3, qRR)], p.1 = P3 → p.2 = qRR := by
    intro p hp e
    simp only [List.mem_cons, List.mem_nil_iff, or_false] at hp
    rcases hp with rfl | rfl | rfl
    · exact absurd e d13
    · exact absurd e d23
    · rfl
  have cMR : RG.CalG P w K mg base "_law_made_right" 8 ["_law_pen_here", "_law_words"] (spMR [(P1, qMR), (P2, qTX), (P3, qRR)]) := by
    obtain ⟨f1, oc1, od1, kV1, doc1, pm1, cdv1, ct1, an1, osl1, a1, i1, l1, c1, kp1⟩ := D.m_sNextR.ex
    obtain ⟨f2, oc2, od2, kV2, doc2, pm2, cdv2, ct2, an2, osl2, a2, i2, l2, c2, kp2⟩ := D.m_sRimOf.ex
    exact ⟨fM, fdM, ok_MR FM_ N_ XT_ O BW TM UB ET NP Z hG TB1 List.mem_cons_self u1 ⟨a1, i1, kp1⟩ (ok_nextX (fun_mk l1 c1 kp1) tRC cNPX) ((fun_mk l1 c1 kp1).binds (fun _ _ _ _ _ _ us hl => match us, hl with | [_, _], _ => rfl)) ⟨a2, i2, kp2⟩ (ok_rimOfX (fun_mk l2 c2 kp2) tRC cNPX) ((fun_mk l2 c2 kp2).binds (fun _ _ _ _ _ _ us hl => match us, hl with | [_, _], _ => rfl)) cPick cText cSRd, gM_, kM_, bM_⟩
  have cTX : RG.CalG P w K mg base "_law_texts_right" 9 ["_law_pen_here", "_law_words"] (spTX [(P1, qMR), (P2, qTX), (P3, qRR)]) := ⟨fT, fdT, ok_TX FT_ N_ XT_ O BW TM UB ET NP Z hG TB2 (List.mem_cons_of_mem _ List.mem_cons_self) u2 mSR cPick cDraw cText cStop, gT_, kT_, bT_⟩
  have cRR : RG.CalG P w K mg base "_law_refused_right" 9 ["_law_pen_here", "_law_words"] (spRR [(P1, qMR), (P2, qTX), (P3, qRR)]) := ⟨fR, fdR, ok_RR FR_ N_ O XW mRX BW TM UB ET NP Z hG TB3 (List.mem_cons_of_mem _ (List.mem_cons_of_mem _ List.mem_cons_self)) u3 cPick cDraw, gR_, kR_, bR_⟩
  exact ok_Law FL N_ cPen cPick cPlain cMR cTX cRR
theorem at_mk {l : PySem.W.OpenLaw} {w : World} {K : PySem.W.Frag} {h : Heap} {mg : Str → Option Value} {fa C CR CBW CTM CUB CT CNP CH CM gM P1 P2 P3 : Addr} (X : K.In h) (G : h.Ns mainGlobals mg) (hfa : mg "law" = some (.ref fa)) (N : Names mg) (D : Defs K mg C CR) (WC : ClsC K mg C) (WCR : ClsCR K mg CR)
    (neR : PySem.W.findIn K (.ref CR) "__ne__" = some (some (.builtin "object.__ne__"))) (OX : TxOR K CR) (XW : XWd K C) (nk : PySem.W.kitAny K (.ref C) [.type "list", .type "tuple"] = some false) (SRd : FS K CR "read" "Rims.read" sReadR)
    (EBW : ErrX K mg CH CBW "BadWord" "BadWord.__init__" sInitBW "part") (ETM : ErrX K mg CH CTM "TooMany" "TooMany.__init__" sInitTM "what") (EUB : ErrX K mg CH CUB "Unbalanced" "Unbalanced.__init__" sInitUB "kind") (EET : ErrX K mg CH CT "BadText" "BadText.__init__" sInitT "line") (ENP : ErrX K mg CH CNP "NoPlace" "NoPlace.__init__" sInitNP "value") (mst : PySem.W.findIn K (.ref CTM) "most" = some none) (itm : PySem.W.findIn K (.ref CT) "item" = some none)
    (aH : PySem.W.nsIn K mainGlobals "HandleError" = some (some (.ref CH))) (h1 : PySem.W.subIn K (.ref CH) (.type "BaseException") = some true) (h2 : PySem.W.isClsIn K CH = true) (h3 : PySem.W.typeIn K (.ref CH) = some (.type "type"))
    (k1 : PySem.W.kitOne K (.ref CTM) (.ref CBW) = some false) (k2 : PySem.W.kitOne K (.ref CUB) (.ref CBW) = some false) (k3 : PySem.W.kitOne K (.ref CUB) (.ref CTM) = some false) (k4 : PySem.W.kitOne K (.ref CT) (.ref CBW) = some false) (k5 : PySem.W.kitOne K (.ref CT) (.ref CTM) = some false) (k6 : PySem.W.kitOne K (.ref CT) (.ref CUB) = some false) (k7 : PySem.W.kitOne K (.ref CNP) (.ref CBW) = some false) (k8 : PySem.W.kitOne K (.ref CNP) (.ref CTM) = some false) (k9 : PySem.W.kitOne K (.ref CNP) (.ref CUB) = some false) (k10 : PySem.W.kitOne K (.ref CNP) (.ref CT) = some false)
    (aM : PySem.W.nsIn K mainGlobals "Missing" = some (some (.ref CM))) (m0 : PySem.W.findIn K (.ref CM) "__init__" = some (some (.ref gM))) (m1 : PySem.W.readsIn K CM (.type "type") = true) (m2 : PySem.W.specialIn K (.ref CM) "__getattribute__" = some (some (.builtin "type.__getattribute__"))) (m3 : PySem.W.findCls K (.ref CM) (.type "type") "__init__" = some (.val (.ref gM))) (m4 : PySem.W.keepIn K (.ref gM) = true)
    {ocM kVM dcM pmM cdM ctM : Value} {odM anM : Option Addr} {slM : Array (Option Value)} (lM : K.lookup gM = some ⟨ocM, odM, .func (PySem.W.fnOf "__init__" "Missing.__init__" (defArgs sInitMi) (defBody sInitMi) (defScope sInitMi) .none kVM dcM pmM anM cdM ctM), slM⟩) (cM : PySem.W.codeIn K cdM "Missing.__init__" = true)
    (t1 : h.get? P1 = some { cls := .none, data := .fields #[] }) (t2 : h.get? P2 = some { cls := .none, data := .fields #[] }) (t3 : h.get? P3 = some { cls := .none, data := .fields #[] }) (d12 : P1 ≠ P2) (d13 : P1 ≠ P3) (d23 : P2 ≠ P3)
    {f1 c1 : Addr} {od1 an1 : Option Addr} {sl1 : Array (Option Value)} {oc1 kV1 dc1 pm1 ct1 : Value}
    (aD1 : PySem.W.nsIn K mainGlobals "_law_made_right" = some (some (.ref f1))) (lD1 : K.lookup f1 = some ⟨oc1, od1, .func (PySem.W.fnOf "_law_made_right" "_law_made_right" (defArgs sMR) (defBody sMR) (defScope sMR) .none kV1 dc1 pm1 an1 (.ref c1) ct1), sl1⟩)
    (eD1 : PySem.W.codeIn K (.ref c1) "_law_made_right" = true) (kD1 : PySem.W.keepIn K (.ref f1) = true) (hD1 : PySem.W.codeHdIn K c1 P1 = true) (nD1 : K.lookup P1 = none)
    {f2 c2 : Addr} {od2 an2 : Option Addr} {sl2 : Array (Option Value)} {oc2 kV2 dc2 pm2 ct2 : Value}
    (aD2 : PySem.W.nsIn K mainGlobals "_law_texts_right" = some (some (.ref f2))) (lD2 : K.lookup f2 = some ⟨oc2, od2, .func (PySem.W.fnOf "_law_texts_right" "_law_texts_right" (defArgs sTX) (defBody sTX) (defScope sTX) .none kV2 dc2 pm2 an2 (.ref c2) ct2), sl2⟩)
    (eD2 : PySem.W.codeIn K (.ref c2) "_law_texts_right" = true) (kD2 : PySem.W.keepIn K (.ref f2) = true) (hD2 : PySem.W.codeHdIn K c2 P2 = true) (nD2 : K.lookup P2 = none)
    {f3 c3 : Addr} {od3 an3 : Option Addr} {sl3 : Array (Option Value)} {oc3 kV3 dc3 pm3 ct3 : Value}
    (aD3 : PySem.W.nsIn K mainGlobals "_law_refused_right" = some (some (.ref f3))) (lD3 : K.lookup f3 = some ⟨oc3, od3, .func (PySem.W.fnOf "_law_refused_right" "_law_refused_right" (defArgs sRR) (defBody sRR) (defScope sRR) .none kV3 dc3 pm3 an3 (.ref c3) ct3), sl3⟩)
    (eD3 : PySem.W.codeIn K (.ref c3) "_law_refused_right" = true) (kD3 : PySem.W.keepIn K (.ref f3) = true) (hD3 : PySem.W.codeHdIn K c3 P3 = true) (nD3 : K.lookup P3 = none)
    : RG.LawAtG l w K 10 63 "_law_script" mg fa h := by
  obtain ⟨f, oc, od, kV, doc, pm, cdv, ct, an, osl, lL, c, kp, m⟩ := D.d_sLaw.ex
  have e := hfa.symm.trans m
  cases e
  have EX : ∀ {C : Addr} {x q : Str} {st : Stmt} {fl : Str}, ErrX K mg CH C x q st fl → L2.ExcC K C := fun E => ⟨E.f.xf.ga, E.f.xf.gg, E.f.sub, E.f.xf.hdC, E.cc, WC.cn, WC.ct, E.mo⟩
  have Z : Five K mg CBW CTM CUB CT CNP CH := ⟨PySem.W.mg_of X G aH, exm_two h1 h2 h3 EBW.sb, exm_two h1 h2 h3 ETM.sb, exm_two h1 h2 h3 EUB.sb, exm_two h1 h2 h3 EET.sb, exm_two h1 h2 h3 ENP.sb, EX EBW, EX ETM, EX EUB, EX EET, EX ENP, EBW.nt, ETM.nt, EUB.nt, EET.nt, ENP.nt, k1, k2, k3, k4, k5, k6, k7, k8, k9, k10, EBW.fl, ETM.fl, mst, EUB.fl, EET.fl, itm, ENP.fl⟩
  have F1 : FunC K "_law_made_right" sMR f1 c1 _ := ⟨oc1, od1, kV1, dc1, pm1, an1, ct1, sl1, rfl, lD1, eD1⟩
  have b1 : Binds K (PySem.W.fnOf "_law_made_right" "_law_made_right" (defArgs sMR) (defBody sMR) (defScope sMR) .none kV1 dc1 pm1 an1 (.ref c1) ct1) ["_law_pen_here", "_law_words"] [] := (fun_mk (st := sMR) lD1 eD1 kD1).binds (ps := ["_law_pen_here", "_law_words"]) (fun _ _ _ _ _ _ us hl => match us, hl with | [_, _], _ => rfl)
  have F2 : FunC K "_law_texts_right" sTX f2 c2 _ := ⟨oc2, od2, kV2, dc2, pm2, an2, ct2, sl2, rfl, lD2, eD2⟩
  have b2 : Binds K (PySem.W.fnOf "_law_texts_right" "_law_texts_right" (defArgs sTX) (defBody sTX) (defScope sTX) .none kV2 dc2 pm2 an2 (.ref c2) ct2) ["_law_pen_here", "_law_words"] [] := (fun_mk (st := sTX) lD2 eD2 kD2).binds (ps := ["_law_pen_here", "_law_words"]) (fun _ _ _ _ _ _ us hl => match us, hl with | [_, _], _ => rfl)
  have F3 : FunC K "_law_refused_right" sRR f3 c3 _ := ⟨oc3, od3, kV3, dc3, pm3, an3, ct3, sl3, rfl, lD3, eD3⟩
  have b3 : Binds K (PySem.W.fnOf "_law_refused_right" "_law_refused_right" (defArgs sRR) (defBody sRR) (defScope sRR) .none kV3 dc3 pm3 an3 (.ref c3) ct3) ["_law_pen_here", "_law_words"] [] := (fun_mk (st := sRR) lD3 eD3 kD3).binds (ps := ["_law_pen_here", "_law_words"]) (fun _ _ _ _ _ _ us hl => match us, hl with | [_, _], _ => rfl)
  have all : ∀ {Z : Addr × Addr → Prop}, Z (c1, P1) → Z (c2, P2) → Z (c3, P3) → ∀ p ∈ [(c1, P1), (c2, P2), (c3, P3)], Z p := by
    intro Z z1 z2 z3 p hp
    simp only [List.mem_cons, List.mem_nil_iff, or_false] at hp
    rcases hp with rfl | rfl | rfl
    · exact z1
    · exact z2
    · exact z3
  have i1 : (c1, P1) ∈ [(c1, P1), (c2, P2), (c3, P3)] := List.mem_cons_self
  have i2 : (c2, P2) ∈ [(c1, P1), (c2, P2), (c3, P3)] := List.mem_cons_of_mem _ List.mem_cons_self
  have i3 : (c3, P3) ∈ [(c1, P1), (c2, P2), (c3, P3)] := List.mem_cons_of_mem _ (List.mem_cons_of_mem _ List.mem_cons_self)
  refine ⟨PySem.W.fnOf "law" "law" (defArgs sLaw) (defBody sLaw) (defScope sLaw) .none kV doc pm an cdv ct, [(c1, P1), (c2, P2), (c3, P3)], spLaw K [(P1, qMR), (P2, qTX), (P3, qRR)], ⟨all t1 t2 t3, all nD1 nD2 nD3, all (PySem.W.codeHd_of_K X hD1) (PySem.W.codeHd_of_K X hD2) (PySem.W.codeHd_of_K X hD3)⟩, fun s v => .of_eq rfl, ?_, fun base _ _ T => ?_⟩
  · intro H a ns hl hH hS
    refine ⟨a, ns, rfl, hS, hl, fun p hp => ?_, fun _ => rfl⟩
    simp only [List.mem_cons, List.mem_nil_iff, or_false] at hp
    rcases hp with rfl | rfl | rfl
    · exact .nil (hH (c1, P1) i1)
    · exact .nil (hH (c2, P2) i2)
    · exact .nil (hH (c3, P3) i3)
  · exact law_mk N D WC WCR neR OX XW nk SRd EBW ETM EUB EET ENP mst itm ⟨PySem.W.mg_of X G aM, ⟨m1, m2, m3, m4⟩, ⟨ocM, odM, kVM, dcM, pmM, cdM, ctM, anM, slM, lM, cM⟩⟩ Z F1 (PySem.W.mg_of X G aD1) kD1 b1 (T (c1, P1) i1) F2 (PySem.W.mg_of X G aD2) kD2 b2 (T (c2, P2) i2) F3 (PySem.W.mg_of X G aD3) kD3 b3 (T (c3, P3) i3) d12 d13 d23 (fun_mk lL c kp)
end W11
set_option Elab.async false
set_option linter.all false
set_option maxRecDepth 100000
set_option maxHeartbeats 4000000
namespace W11
open PySem L2 PySem.Spec PyProof.Rows WR WB WE WS
theorem err_mk {K : PySem.W.Frag} {h : Heap} {mg : Str → Option Value} {C f : Addr} {x q : Str} {st : Stmt} (X : K.In h) (G : h.Ns mainGlobals mg)
    {nm q2 : Str} {N : Addr} {bs bm : List Value} {sn : List Str} {sub : List Value} {ab : Bool} {col : Option Bool} {dd : Option Addr} {m0 m1 m2 m3 m5 : Option Value} {oc : Value} {od an : Option Addr} {kV doc pm cdv ct : Value} {osl : Array (Option Value)}
    (aC : PySem.W.nsIn K mainGlobals x = some (some (.ref C)))
    (xL : K.lookup C = some (excClassObj nm q2 C N bs bm true sn sub ab col dd m0 m1 m2 m3 m5 "ValueError.__new__")) (rv : PySem.HandSPX.refsVE bm = true)
    (sa : PySem.W.findIn K (.ref C) "__setattr__" = some (some (.builtin "object.__setattr__"))) (ga : PySem.W.findIn K (.ref C) "__getattribute__" = some (some (.builtin "BaseException.__getattribute__"))) (gg : PySem.W.findIn K (.ref C) "__getattr__" = some none)
    (i1 : PySem.W.findIn K (.ref C) "__init__" = some (some (.ref f))) (t1 : PySem.W.typeIn K (.ref f) = some (.type "function")) (fn : PySem.W.isFn K (.ref f) = true)
    (l1 : K.lookup f = some ⟨oc, od, .func (PySem.W.fnOf "__init__" q (defArgs st) (defBody st) (defScope st) .none kV doc pm an cdv ct), osl⟩) (c1 : PySem.W.codeIn K cdv q = true) (k1 : PySem.W.keepIn K (.ref f) = true)
    (kC : PySem.W.keepIn K (.ref C) = true) (eC : PySem.W.subIn K (.ref C) (.type "BaseException") = some true) (tC : PySem.W.typeIn K (.ref C) = some (.type "type")) (hC : PySem.W.hasDictIn K C = true) (iC : PySem.W.isClsIn K C = true) (sC : PySem.W.subIn K (.ref C) (.ref C) = some true) : ErrW K mg C x q st ∧ ErrF K C :=
  have O : OexC K C := ⟨⟨nm, q2, N, bs, bm, sn, sub, ab, col, dd, m0, m1, m2, m3, m5, xL, rv⟩, sa, eC, tC, kC⟩
  have F : XfC K C := ⟨ga, gg, eC, hC⟩
  ⟨⟨O, F, ⟨f, oc, od, kV, doc, pm, cdv, ct, an, osl, i1, fn, l1, c1, k1⟩, fun f' e => by
    rw [i1] at e
    cases e
    exact t1, PySem.W.mg_of X G aC, exm_two eC iC tC sC⟩, ⟨O, F, eC, iC, tC⟩⟩
theorem errx_mk {K : PySem.W.Frag} {h : Heap} {mg : Str → Option Value} {CH C f : Addr} {x q fl : Str} {st : Stmt} (X : K.In h) (G : h.Ns mainGlobals mg)
    {nm q2 : Str} {N : Addr} {bs bm : List Value} {sn : List Str} {sub : List Value} {ab : Bool} {col : Option Bool} {dd : Option Addr} {m0 m1 m2 m3 m5 : Option Value} {oc : Value} {od an : Option Addr} {kV doc pm cdv ct : Value} {osl : Array (Option Value)}
    (aC : PySem.W.nsIn K mainGlobals x = some (some (.ref C)))
    (xL : K.lookup C = some (excClassObj nm q2 C N bs bm true sn sub ab col dd m0 m1 m2 m3 m5 "ValueError.__new__")) (rv : PySem.HandSPX.refsVE bm = true)
    (sa : PySem.W.findIn K (.ref C) "__setattr__" = some (some (.builtin "object.__setattr__"))) (ga : PySem.W.findIn K (.ref C) "__getattribute__" = some (some (.builtin "BaseException.__getattribute__"))) (gg : PySem.W.findIn K (.ref C) "__getattr__" = some none)
    (i1 : PySem.W.findIn K (.ref C) "__init__" = some (some (.ref f))) (t1 : PySem.W.typeIn K (.ref f) = some (.type "function")) (fn : PySem.W.isFn K (.ref f) = true)
    (l1 : K.lookup f = some ⟨oc, od, .func (PySem.W.fnOf "__init__" q (defArgs st) (defBody st) (defScope st) .none kV doc pm an cdv ct), osl⟩) (c1 : PySem.W.codeIn K cdv q = true) (k1 : PySem.W.keepIn K (.ref f) = true)
    (kC : PySem.W.keepIn K (.ref C) = true) (eC : PySem.W.subIn K (.ref C) (.type "BaseException") = some true) (tC : PySem.W.typeIn K (.ref C) = some (.type "type")) (hC : PySem.W.hasDictIn K C = true) (iC : PySem.W.isClsIn K C = true) (sC : PySem.W.subIn K (.ref C) (.ref C) = some true)
    (fl_ : PySem.W.findIn K (.ref C) fl = some none) (nt : PySem.W.kitOne K (.type "NoneType") (.ref C) = some false) (cc : PySem.W.findIn K (.ref C) "__class__" = some (some (.builtin "object.__class__"))) (mo : PySem.W.mroIn K C (.type "object") = some true) (sb : PySem.W.subIn K (.ref C) (.ref CH) = some true) : ErrX K mg CH C x q st fl :=
  have r := err_mk X G aC xL rv sa ga gg i1 t1 fn l1 c1 k1 kC eC tC hC iC sC
  ⟨r.1, r.2, fl_, nt, cc, mo, sb⟩
theorem names_mk {K : PySem.W.Frag} {h : Heap} {mg : Str → Option Value} {u0 : Tok} {u1 : Tok} {u2 : Tok} {u3 : Tok} {u4 : Tok} (X : K.In h) (G : h.Ns mainGlobals mg)
    (n0 : PySem.W.nsIn K mainGlobals "isinstance" = some none) (n1 : PySem.W.nsIn K mainGlobals "int" = some none) (n2 : PySem.W.nsIn K mainGlobals "bool" = some none) (n3 : PySem.W.nsIn K mainGlobals "str" = some none) (n4 : PySem.W.nsIn K mainGlobals "list" = some none) (n5 : PySem.W.nsIn K mainGlobals "tuple" = some none) (n6 : PySem.W.nsIn K mainGlobals "all" = some none) (n7 : PySem.W.nsIn K mainGlobals "len" = some none) (n8 : PySem.W.nsIn K mainGlobals "abs" = some none) (n9 : PySem.W.nsIn K mainGlobals "range" = some none) (n10 : PySem.W.nsIn K mainGlobals "sorted" = some none) (n11 : PySem.W.nsIn K mainGlobals "set" = some none) (n12 : PySem.W.nsIn K mainGlobals "enumerate" = some none) (n13 : PySem.W.nsIn K mainGlobals "min" = some none) (n14 : PySem.W.nsIn K mainGlobals "zip" = some none) (n15 : PySem.W.nsIn K mainGlobals "repr" = some none) (g0 : PySem.W.nsIn K mainGlobals "MOST_KIND" = some (some (.int 26 u0))) (g1 : PySem.W.nsIn K mainGlobals "MOST_LETTERS" = some (some (.int 500 u1))) (g2 : PySem.W.nsIn K mainGlobals "MOST_WORDS" = some (some (.int 4 u2))) (g3 : PySem.W.nsIn K mainGlobals "MOST_PLACES" = some (some (.int 24 u3))) (g4 : PySem.W.nsIn K mainGlobals "ALPHABET" = some (some (.str alphS u4))) : Names mg :=
  ⟨PySem.W.mg_none_of X G n0, PySem.W.mg_none_of X G n1, PySem.W.mg_none_of X G n2, PySem.W.mg_none_of X G n3, PySem.W.mg_none_of X G n4, PySem.W.mg_none_of X G n5, PySem.W.mg_none_of X G n6, PySem.W.mg_none_of X G n7, PySem.W.mg_none_of X G n8, PySem.W.mg_none_of X G n9, PySem.W.mg_none_of X G n10, PySem.W.mg_none_of X G n11, PySem.W.mg_none_of X G n12, PySem.W.mg_none_of X G n13, PySem.W.mg_none_of X G n14, PySem.W.mg_none_of X G n15, ⟨_, PySem.W.mg_of X G g0⟩, ⟨_, PySem.W.mg_of X G g1⟩, ⟨_, PySem.W.mg_of X G g2⟩, ⟨_, PySem.W.mg_of X G g3⟩, ⟨_, PySem.W.mg_of X G g4⟩⟩
theorem cls_mkC {K : PySem.W.Frag} {h : Heap} {mg : Str → Option Value} {C : Addr} (X : K.In h) (G : h.Ns mainGlobals mg) (aC : PySem.W.nsIn K mainGlobals "Word" = some (some (.ref C)))
    (pg : PySem.W.plainGet K C Str.empty = true) (hd : PySem.W.hasDictIn K C = true) (po : PySem.W.plainOver K C = true) (sa : PySem.W.findIn K (.ref C) "__setattr__" = some (some (.builtin "object.__setattr__")))
    (n1 : PySem.W.findIn K (.ref C) "letters" = some none) (n2 : PySem.W.findIn K (.ref C) "length" = some none) (n3 : PySem.W.findIn K (.ref C) "kinds" = some none) (n4 : PySem.W.findIn K (.ref C) "is_short" = some none) (n5 : PySem.W.findIn K (.ref C) "is_short_round" = some none)
    (ca : PySem.W.findIn K (.ref C) "__class__" = some (some (.builtin "object.__class__"))) (cm : PySem.W.mroIn K C (.type "object") = some true) (mk : PySem.W.makesIn K C = true) (kc : PySem.W.keepIn K (.ref C) = true)
    (cn : PySem.W.specialIn K (.builtin "object.__class__") "__get__" = some (some (.builtin "getset_descriptor.__get__"))) (ct : PySem.W.takesIn K (.builtin "object.__class__") = some true) : ClsC K mg C :=
  ⟨⟨pg, hd, po, sa⟩, n1, n2, n3, n4, n5, ca, cm, mk, kc, PySem.W.mg_of X G aC, cn, ct⟩
theorem cls_mkCR {K : PySem.W.Frag} {h : Heap} {mg : Str → Option Value} {C : Addr} (X : K.In h) (G : h.Ns mainGlobals mg) (aC : PySem.W.nsIn K mainGlobals "Rims" = some (some (.ref C)))
    (pg : PySem.W.plainGet K C Str.empty = true) (hd : PySem.W.hasDictIn K C = true) (po : PySem.W.plainOver K C = true) (sa : PySem.W.findIn K (.ref C) "__setattr__" = some (some (.builtin "object.__setattr__")))
    (n1 : PySem.W.findIn K (.ref C) "words" = some none) (n2 : PySem.W.findIn K (.ref C) "letters" = some none) (n3 : PySem.W.findIn K (.ref C) "many" = some none) (n4 : PySem.W.findIn K (.ref C) "bands" = some none) (n5 : PySem.W.findIn K (.ref C) "is_short" = some none) (n6 : PySem.W.findIn K (.ref C) "homes" = some none) (n7 : PySem.W.findIn K (.ref C) "nexts" = some none)
    (ca : PySem.W.findIn K (.ref C) "__class__" = some (some (.builtin "object.__class__"))) (cm : PySem.W.mroIn K C (.type "object") = some true) (mk : PySem.W.makesIn K C = true) (kc : PySem.W.keepIn K (.ref C) = true) : ClsCR K mg C :=
  ⟨⟨pg, hd, po, sa⟩, n1, n2, n3, n4, n5, n6, n7, ca, cm, mk, kc, PySem.W.mg_of X G aC⟩
end W11

open PySem PySem.W PyProof.Rows in
set_option maxRecDepth 100000 in
set_option maxHeartbeats 0 in
theorem PySem.Challenge.cw_handlerims_k11_rims_made_read_and_refuse_holds : PySem.Challenge.rw_handlerims_k11_rims_made_read_and_refuse.Holds := by
  w_on; o_law; k_head; (case hw => w_witness2)
  k_fill
  refine RG.walkGT (l := PySem.Challenge.rw_handlerims_k11_rims_made_read_and_refuse) (n := 63) (k := 10) (x := "_law_script") rfl (by decide) rfl ⟨rfl, by decide, by decide⟩ (fun w h Y => PySem.W.km_in_of Y) ?F
  case F =>
    intro w mg fa h Y KX G hmg
    have tabs := PySem.W.km_tabs_of Y
    have hlaw : mg "law" = some (.ref fa) := hmg
    clear hmg
    have hN : W11.Names mg := by
      refine' W11.names_mk KX G ?q_n0 ?q_n1 ?q_n2 ?q_n3 ?q_n4 ?q_n5 ?q_n6 ?q_n7 ?q_n8 ?q_n9 ?q_n10 ?q_n11 ?q_n12 ?q_n13 ?q_n14 ?q_n15 ?q_g0 ?q_g1 ?q_g2 ?q_g3 ?q_g4
      (case q_n0 => k_is)
      (case q_n1 => k_is)
      (case q_n2 => k_is)
      (case q_n3 => k_is)
      (case q_n4 => k_is)
      (case q_n5 => k_is)
      (case q_n6 => k_is)
      (case q_n7 => k_is)
      (case q_n8 => k_is)
      (case q_n9 => k_is)
      (case q_n10 => k_is)
      (case q_n11 => k_is)
      (case q_n12 => k_is)
      (case q_n13 => k_is)
      (case q_n14 => k_is)
      (case q_n15 => k_is)
      (case q_g0 => k_is)
      (case q_g1 => k_is)
      (case q_g2 => k_is)
      (case q_g3 => k_is)
      (case q_g4 => k_is)
    refine' W11.at_mk (P1 := 523) (P2 := 528) (P3 := 535) KX G hlaw hN ?q_D ?q_WC ?q_WCR ?q_neR ?q_OX ?q_XW ?q_nk (W11.fs_mk ?q_srd ?q_sga ?q_sat ?q_src ?q_skp ?q_sl ?q_sc) ?q_EB ?q_EM ?q_EU ?q_ET ?q_EN ?q_mst ?q_itm ?q_aH ?q_h1 ?q_h2 ?q_h3 ?q_kit1 ?q_kit2 ?q_kit3 ?q_kit4 ?q_kit5 ?q_kit6 ?q_kit7 ?q_kit8 ?q_kit9 ?q_kit10 ?q_aM ?q_m0 ?q_m1 ?q_m2 ?q_m3 ?q_m4 ?q_lM ?q_cM (tabs 523 (by decide)) (tabs 528 (by decide)) (tabs 535 (by decide)) (by decide) (by decide) (by decide) ?q_aD1 ?q_lD1 ?q_eD1 ?q_kD1 ?q_hD1 ?q_nD1 ?q_aD2 ?q_lD2 ?q_eD2 ?q_kD2 ?q_hD2 ?q_nD2 ?q_aD3 ?q_lD3 ?q_eD3 ?q_kD3 ?q_hD3 ?q_nD3
    case q_WC =>
      refine' W11.cls_mkC KX G ?q_CaC ?q_Cpg ?q_Chd ?q_Cpo ?q_Csa ?q_Cn1 ?q_Cn2 ?q_Cn3 ?q_Cn4 ?q_Cn5 ?q_Cca ?q_Ccm ?q_Cmk ?q_Ckc ?q_Ccn ?q_Cct
      (case q_CaC => first | k_is | kernel_rfl)
      (case q_Cpg => first | k_is | kernel_rfl)
      (case q_Chd => first | k_is | kernel_rfl)
      (case q_Cpo => first | k_is | kernel_rfl)
      (case q_Csa => first | k_is | kernel_rfl)
      (case q_Cn1 => first | k_is | kernel_rfl)
      (case q_Cn2 => first | k_is | kernel_rfl)
      (case q_Cn3 => first | k_is | kernel_rfl)
      (case q_Cn4 => first | k_is | kernel_rfl)
      (case q_Cn5 => first | k_is | kernel_rfl)
      (case q_Cca => first | k_is | kernel_rfl)
      (case q_Ccm => first | k_is | kernel_rfl)
      (case q_Cmk => first | k_is | kernel_rfl)
      (case q_Ckc => first | k_is | kernel_rfl)
      (case q_Ccn => first | k_is | kernel_rfl)
      (case q_Cct => first | k_is | kernel_rfl)
    case q_WCR =>
      refine' W11.cls_mkCR KX G ?q_CRaC ?q_CRpg ?q_CRhd ?q_CRpo ?q_CRsa ?q_CRn1 ?q_CRn2 ?q_CRn3 ?q_CRn4 ?q_CRn5 ?q_CRn6 ?q_CRn7 ?q_CRca ?q_CRcm ?q_CRmk ?q_CRkc
      (case q_CRaC => first | k_is | kernel_rfl)
      (case q_CRpg => first | k_is | kernel_rfl)
      (case q_CRhd => first | k_is | kernel_rfl)
      (case q_CRpo => first | k_is | kernel_rfl)
      (case q_CRsa => first | k_is | kernel_rfl)
      (case q_CRn1 => first | k_is | kernel_rfl)
      (case q_CRn2 => first | k_is | kernel_rfl)
      (case q_CRn3 => first | k_is | kernel_rfl)
      (case q_CRn4 => first | k_is | kernel_rfl)
      (case q_CRn5 => first | k_is | kernel_rfl)
      (case q_CRn6 => first | k_is | kernel_rfl)
      (case q_CRn7 => first | k_is | kernel_rfl)
      (case q_CRca => first | k_is | kernel_rfl)
      (case q_CRcm => first | k_is | kernel_rfl)
      (case q_CRmk => first | k_is | kernel_rfl)
      (case q_CRkc => first | k_is | kernel_rfl)
    case q_D =>
      refine' { d_sIsInt := W11.ff_mk KX G ?q_a0 ?q_l0 ?q_c0 ?q_k0, d_sWithin := W11.ff_mk KX G ?q_a1 ?q_l1 ?q_c1 ?q_k1, d_sLetter := W11.ff_mk KX G ?q_a2 ?q_l2 ?q_c2 ?q_k2, d_sListed := W11.ff_mk KX G ?q_a3 ?q_l3 ?q_c3 ?q_k3, d_sShr := W11.ff_mk KX G ?q_a4 ?q_l4 ?q_c4 ?q_k4, d_sRnd := W11.ff_mk KX G ?q_a5 ?q_l5 ?q_c5 ?q_k5, d_sKinds := W11.ff_mk KX G ?q_a6 ?q_l6 ?q_c6 ?q_k6, d_sBalOf := W11.ff_mk KX G ?q_a7 ?q_l7 ?q_c7 ?q_k7, d_sLText := W11.ff_mk KX G ?q_a8 ?q_l8 ?q_c8 ?q_k8, d_sLOf := W11.ff_mk KX G ?q_a9 ?q_l9 ?q_c9 ?q_k9, d_sItems := W11.ff_mk KX G ?q_a10 ?q_l10 ?q_c10 ?q_k10, d_sRows := W11.ff_mk KX G ?q_a11 ?q_l11 ?q_c11 ?q_k11, d_sFilled := W11.ff_mk KX G ?q_a12 ?q_l12 ?q_c12 ?q_k12, d_sFew := W11.ff_mk KX G ?q_a13 ?q_l13 ?q_c13 ?q_k13, d_sNeedB := W11.ff_mk KX G ?q_a14 ?q_l14 ?q_c14 ?q_k14, d_sFewP := W11.ff_mk KX G ?q_a15 ?q_l15 ?q_c15 ?q_k15, d_sNexts := W11.ff_mk KX G ?q_a16 ?q_l16 ?q_c16 ?q_k16, d_sNeedPX := W11.ff_mk KX G ?q_a17 ?q_l17 ?q_c17 ?q_k17, d_sJar := W11.ff_mk KX G ?q_a18 ?q_l18 ?q_c18 ?q_k18, d_sDraw := W11.ff_mk KX G ?q_a19 ?q_l19 ?q_c19 ?q_k19, d_sPick := W11.ff_mk KX G ?q_a20 ?q_l20 ?q_c20 ?q_k20, d_sMixed := W11.ff_mk KX G ?q_a21 ?q_l21 ?q_c21 ?q_k21, d_sCut := W11.ff_mk KX G ?q_a22 ?q_l22 ?q_c22 ?q_k22, d_sPlain := W11.ff_mk KX G ?q_a23 ?q_l23 ?q_c23 ?q_k23, d_sSR := W11.ff_mk KX G ?q_a24 ?q_l24 ?q_c24 ?q_k24, d_sHeard := W11.ff_mk KX G ?q_a25 ?q_l25 ?q_c25 ?q_k25, d_sItem := W11.ff_mk KX G ?q_a26 ?q_l26 ?q_c26 ?q_k26, d_sText := W11.ff_mk KX G ?q_a27 ?q_l27 ?q_c27 ?q_k27, d_sLet := W11.ff_mk KX G ?q_a28 ?q_l28 ?q_c28 ?q_k28, d_sStop := W11.ff_mk KX G ?q_a29 ?q_l29 ?q_c29 ?q_k29, d_sLaw := W11.ff_mk KX G ?q_a30 ?q_l30 ?q_c30 ?q_k30, m_sInit := W11.fm_mk ?q_ma0 ?q_mi0 ?q_ml0 ?q_mc0 ?q_mk0, m_sEq := W11.fm_mk ?q_ma1 ?q_mi1 ?q_ml1 ?q_mc1 ?q_mk1, m_sStrM := W11.fm_mk ?q_ma2 ?q_mi2 ?q_ml2 ?q_mc2 ?q_mk2, m_sInitR := W11.fm_mk ?q_ma3 ?q_mi3 ?q_ml3 ?q_mc3 ?q_mk3, m_sEqR := W11.fm_mk ?q_ma4 ?q_mi4 ?q_ml4 ?q_mc4 ?q_mk4, m_sStrR := W11.fm_mk ?q_ma5 ?q_mi5 ?q_ml5 ?q_mc5 ?q_mk5, m_sNextR := W11.fm_mk ?q_ma6 ?q_mi6 ?q_ml6 ?q_mc6 ?q_mk6, m_sRimOf := W11.fm_mk ?q_ma7 ?q_mi7 ?q_ml7 ?q_mc7 ?q_mk7 }
      (case q_a0 => k_is); (case q_l0 => k_is); (case q_c0 => k_is); (case q_k0 => k_is)
      (case q_a1 => k_is); (case q_l1 => k_is); (case q_c1 => k_is); (case q_k1 => k_is)
      (case q_a2 => k_is); (case q_l2 => k_is); (case q_c2 => k_is); (case q_k2 => k_is)
      (case q_a3 => k_is); (case q_l3 => k_is); (case q_c3 => k_is); (case q_k3 => k_is)
      (case q_a4 => k_is); (case q_l4 => k_is); (case q_c4 => k_is); (case q_k4 => k_is)
      (case q_a5 => k_is); (case q_l5 => k_is); (case q_c5 => k_is); (case q_k5 => k_is)
      (case q_a6 => k_is); (case q_l6 => k_is); (case q_c6 => k_is); (case q_k6 => k_is)
      (case q_a7 => k_is); (case q_l7 => k_is); (case q_c7 => k_is); (case q_k7 => k_is)
      (case q_a8 => k_is); (case q_l8 => k_is); (case q_c8 => k_is); (case q_k8 => k_is)
      (case q_a9 => k_is); (case q_l9 => k_is); (case q_c9 => k_is); (case q_k9 => k_is)
      (case q_a10 => k_is); (case q_l10 => k_is); (case q_c10 => k_is); (case q_k10 => k_is)
      (case q_a11 => k_is); (case q_l11 => k_is); (case q_c11 => k_is); (case q_k11 => k_is)
      (case q_a12 => k_is); (case q_l12 => k_is); (case q_c12 => k_is); (case q_k12 => k_is)
      (case q_a13 => k_is); (case q_l13 => k_is); (case q_c13 => k_is); (case q_k13 => k_is)
      (case q_a14 => k_is); (case q_l14 => k_is); (case q_c14 => k_is); (case q_k14 => k_is)
      (case q_a15 => k_is); (case q_l15 => k_is); (case q_c15 => k_is); (case q_k15 => k_is)
      (case q_a16 => k_is); (case q_l16 => k_is); (case q_c16 => k_is); (case q_k16 => k_is)
      (case q_a17 => k_is); (case q_l17 => k_is); (case q_c17 => k_is); (case q_k17 => k_is)
      (case q_a18 => k_is); (case q_l18 => k_is); (case q_c18 => k_is); (case q_k18 => k_is)
      (case q_a19 => k_is); (case q_l19 => k_is); (case q_c19 => k_is); (case q_k19 => k_is)
      (case q_a20 => k_is); (case q_l20 => k_is); (case q_c20 => k_is); (case q_k20 => k_is)
      (case q_a21 => k_is); (case q_l21 => k_is); (case q_c21 => k_is); (case q_k21 => k_is)
      (case q_a22 => k_is); (case q_l22 => k_is); (case q_c22 => k_is); (case q_k22 => k_is)
      (case q_a23 => k_is); (case q_l23 => k_is); (case q_c23 => k_is); (case q_k23 => k_is)
      (case q_a24 => k_is); (case q_l24 => k_is); (case q_c24 => k_is); (case q_k24 => k_is)
      (case q_a25 => k_is); (case q_l25 => k_is); (case q_c25 => k_is); (case q_k25 => k_is)
      (case q_a26 => k_is); (case q_l26 => k_is); (case q_c26 => k_is); (case q_k26 => k_is)
      (case q_a27 => k_is); (case q_l27 => k_is); (case q_c27 => k_is); (case q_k27 => k_is)
      (case q_a28 => k_is); (case q_l28 => k_is); (case q_c28 => k_is); (case q_k28 => k_is)
      (case q_a29 => k_is); (case q_l29 => k_is); (case q_c29 => k_is); (case q_k29 => k_is)
      (case q_a30 => k_is); (case q_l30 => k_is); (case q_c30 => k_is); (case q_k30 => k_is)
      (case q_ma0 => k_is); (case q_mi0 => k_is); (case q_ml0 => k_is); (case q_mc0 => k_is); (case q_mk0 => k_is)
      (case q_ma1 => k_is); (case q_mi1 => k_is); (case q_ml1 => k_is); (case q_mc1 => k_is); (case q_mk1 => k_is)
      (case q_ma2 => k_is); (case q_mi2 => k_is); (case q_ml2 => k_is); (case q_mc2 => k_is); (case q_mk2 => k_is)
      (case q_ma3 => k_is); (case q_mi3 => k_is); (case q_ml3 => k_is); (case q_mc3 => k_is); (case q_mk3 => k_is)
      (case q_ma4 => k_is); (case q_mi4 => k_is); (case q_ml4 => k_is); (case q_mc4 => k_is); (case q_mk4 => k_is)
      (case q_ma5 => k_is); (case q_mi5 => k_is); (case q_ml5 => k_is); (case q_mc5 => k_is); (case q_mk5 => k_is)
      (case q_ma6 => k_is); (case q_mi6 => k_is); (case q_ml6 => k_is); (case q_mc6 => k_is); (case q_mk6 => k_is)
      (case q_ma7 => k_is); (case q_mi7 => k_is); (case q_ml7 => k_is); (case q_mc7 => k_is); (case q_mk7 => k_is)
    (case q_neR => first | k_is | kernel_rfl | rfl)
    (case q_nk => first | k_is | kernel_rfl | rfl)
    (case q_mst => first | k_is | kernel_rfl | rfl)
    (case q_itm => first | k_is | kernel_rfl | rfl)
    (case q_sat => first | k_is | kernel_rfl | rfl)
    (case q_srd => first | k_is | kernel_rfl | rfl)
    (case q_sga => first | k_is | kernel_rfl | rfl)
    (case q_src => first | k_is | kernel_rfl | rfl)
    (case q_skp => first | k_is | kernel_rfl | rfl)
    (case q_sl => first | k_is | kernel_rfl | rfl)
    (case q_sc => first | k_is | kernel_rfl | rfl)
    case q_OX =>
      refine' ⟨?q_o0, ?q_o1, ?q_o2, ?q_o3⟩
      (case q_o0 => first | k_is | kernel_rfl | rfl)
      (case q_o1 => first | k_is | kernel_rfl | rfl)
      (case q_o2 => first | k_is | kernel_rfl | rfl)
      (case q_o3 => first | k_is | kernel_rfl | rfl)
    case q_XW =>
      refine' ⟨?q_x0, ?q_x1, ?q_x2, ?q_x3, ?q_x4, ?q_x5⟩
      (case q_x0 => first | k_is | kernel_rfl | rfl)
      (case q_x1 => first | k_is | kernel_rfl | rfl)
      (case q_x2 => first | k_is | kernel_rfl | rfl)
      (case q_x3 => first | k_is | kernel_rfl | rfl)
      (case q_x4 => first | k_is | kernel_rfl | rfl)
      (case q_x5 => first | k_is | kernel_rfl | rfl)
    (case q_aH => k_is); (case q_h1 => k_is); (case q_h2 => k_is); (case q_h3 => k_is)
    case q_EB =>
      refine' W11.errx_mk KX G ?q_BaC ?q_BxL ?q_Brv ?q_Bsa ?q_Bga ?q_Bgg ?q_Bi1 ?q_Bt1 ?q_Bfn ?q_Bl1 ?q_Bc1 ?q_Bk1 ?q_BkC ?q_BeC ?q_BtC ?q_BhC ?q_BiC ?q_BsC ?q_Bfl ?q_Bnt ?q_Bcc ?q_Bmo ?q_Bsb
      (case q_BaC => first | k_is | decide +kernel | kernel_rfl | rfl)
      (case q_BxL => first | k_is | decide +kernel | kernel_rfl | rfl)
      (case q_Brv => first | k_is | decide +kernel | kernel_rfl | rfl)
      (case q_Bsa => first | k_is | decide +kernel | kernel_rfl | rfl)
      (case q_Bga => first | k_is | decide +kernel | kernel_rfl | rfl)
      (case q_Bgg => first | k_is | decide +kernel | kernel_rfl | rfl)
      (case q_Bi1 => first | k_is | decide +kernel | kernel_rfl | rfl)
      (case q_Bt1 => first | k_is | decide +kernel | kernel_rfl | rfl)
      (case q_Bfn => first | k_is | decide +kernel | kernel_rfl | rfl)
      (case q_Bl1 => first | k_is | decide +kernel | kernel_rfl | rfl)
      (case q_Bc1 => first | k_is | decide +kernel | kernel_rfl | rfl)
      (case q_Bk1 => first | k_is | decide +kernel | kernel_rfl | rfl)
      (case q_BkC => first | k_is | decide +kernel | kernel_rfl | rfl)
      (case q_BeC => first | k_is | decide +kernel | kernel_rfl | rfl)
      (case q_BtC => first | k_is | decide +kernel | kernel_rfl | rfl)
      (case q_BhC => first | k_is | decide +kernel | kernel_rfl | rfl)
      (case q_BiC => first | k_is | decide +kernel | kernel_rfl | rfl)
      (case q_BsC => first | k_is | decide +kernel | kernel_rfl | rfl)
      (case q_Bfl => first | k_is | decide +kernel | kernel_rfl | rfl)
      (case q_Bnt => first | k_is | decide +kernel | kernel_rfl | rfl)
      (case q_Bcc => first | k_is | decide +kernel | kernel_rfl | rfl)
      (case q_Bmo => first | k_is | decide +kernel | kernel_rfl | rfl)
      (case q_Bsb => first | k_is | decide +kernel | kernel_rfl | rfl)
    case q_EM =>
      refine' W11.errx_mk KX G ?q_MaC ?q_MxL ?q_Mrv ?q_Msa ?q_Mga ?q_Mgg ?q_Mi1 ?q_Mt1 ?q_Mfn ?q_Ml1 ?q_Mc1 ?q_Mk1 ?q_MkC ?q_MeC ?q_MtC ?q_MhC ?q_MiC ?q_MsC ?q_Mfl ?q_Mnt ?q_Mcc ?q_Mmo ?q_Msb
      (case q_MaC => first | k_is | decide +kernel | kernel_rfl | rfl)
      (case q_MxL => first | k_is | decide +kernel | kernel_rfl | rfl)
      (case q_Mrv => first | k_is | decide +kernel | kernel_rfl | rfl)
      (case q_Msa => first | k_is | decide +kernel | kernel_rfl | rfl)
      (case q_Mga => first | k_is | decide +kernel | kernel_rfl | rfl)
      (case q_Mgg => first | k_is | decide +kernel | kernel_rfl | rfl)
      (case q_Mi1 => first | k_is | decide +kernel | kernel_rfl | rfl)
      (case q_Mt1 => first | k_is | decide +kernel | kernel_rfl | rfl)
      (case q_Mfn => first | k_is | decide +kernel | kernel_rfl | rfl)
      (case q_Ml1 => first | k_is | decide +kernel | kernel_rfl | rfl)
      (case q_Mc1 => first | k_is | decide +kernel | kernel_rfl | rfl)
      (case q_Mk1 => first | k_is | decide +kernel | kernel_rfl | rfl)
      (case q_MkC => first | k_is | decide +kernel | kernel_rfl | rfl)
      (case q_MeC => first | k_is | decide +kernel | kernel_rfl | rfl)
      (case q_MtC => first | k_is | decide +kernel | kernel_rfl | rfl)
      (case q_MhC => first | k_is | decide +kernel | kernel_rfl | rfl)
      (case q_MiC => first | k_is | decide +kernel | kernel_rfl | rfl)
      (case q_MsC => first | k_is | decide +kernel | kernel_rfl | rfl)
      (case q_Mfl => first | k_is | decide +kernel | kernel_rfl | rfl)
      (case q_Mnt => first | k_is | decide +kernel | kernel_rfl | rfl)
      (case q_Mcc => first | k_is | decide +kernel | kernel_rfl | rfl)
      (case q_Mmo => first | k_is | decide +kernel | kernel_rfl | rfl)
      (case q_Msb => first | k_is | decide +kernel | kernel_rfl | rfl)
    case q_EU =>
      refine' W11.errx_mk KX G ?q_UaC ?q_UxL ?q_Urv ?q_Usa ?q_Uga ?q_Ugg ?q_Ui1 ?q_Ut1 ?q_Ufn ?q_Ul1 ?q_Uc1 ?q_Uk1 ?q_UkC ?q_UeC ?q_UtC ?q_UhC ?q_UiC ?q_UsC ?q_Ufl ?q_Unt ?q_Ucc ?q_Umo ?q_Usb
      (case q_UaC => first | k_is | decide +kernel | kernel_rfl | rfl)
      (case q_UxL => first | k_is | decide +kernel | kernel_rfl | rfl)
      (case q_Urv => first | k_is | decide +kernel | kernel_rfl | rfl)
      (case q_Usa => first | k_is | decide +kernel | kernel_rfl | rfl)
      (case q_Uga => first | k_is | decide +kernel | kernel_rfl | rfl)
      (case q_Ugg => first | k_is | decide +kernel | kernel_rfl | rfl)
      (case q_Ui1 => first | k_is | decide +kernel | kernel_rfl | rfl)
      (case q_Ut1 => first | k_is | decide +kernel | kernel_rfl | rfl)
      (case q_Ufn => first | k_is | decide +kernel | kernel_rfl | rfl)
      (case q_Ul1 => first | k_is | decide +kernel | kernel_rfl | rfl)
      (case q_Uc1 => first | k_is | decide +kernel | kernel_rfl | rfl)
      (case q_Uk1 => first | k_is | decide +kernel | kernel_rfl | rfl)
      (case q_UkC => first | k_is | decide +kernel | kernel_rfl | rfl)
      (case q_UeC => first | k_is | decide +kernel | kernel_rfl | rfl)
      (case q_UtC => first | k_is | decide +kernel | kernel_rfl | rfl)
      (case q_UhC => first | k_is | decide +kernel | kernel_rfl | rfl)
      (case q_UiC => first | k_is | decide +kernel | kernel_rfl | rfl)
      (case q_UsC => first | k_is | decide +kernel | kernel_rfl | rfl)
      (case q_Ufl => first | k_is | decide +kernel | kernel_rfl | rfl)
      (case q_Unt => first | k_is | decide +kernel | kernel_rfl | rfl)
      (case q_Ucc => first | k_is | decide +kernel | kernel_rfl | rfl)
      (case q_Umo => first | k_is | decide +kernel | kernel_rfl | rfl)
      (case q_Usb => first | k_is | decide +kernel | kernel_rfl | rfl)
    case q_ET =>
      refine' W11.errx_mk KX G ?q_TaC ?q_TxL ?q_Trv ?q_Tsa ?q_Tga ?q_Tgg ?q_Ti1 ?q_Tt1 ?q_Tfn ?q_Tl1 ?q_Tc1 ?q_Tk1 ?q_TkC ?q_TeC ?q_TtC ?q_ThC ?q_TiC ?q_TsC ?q_Tfl ?q_Tnt ?q_Tcc ?q_Tmo ?q_Tsb
      (case q_TaC => first | k_is | decide +kernel | kernel_rfl | rfl)
      (case q_TxL => first | k_is | decide +kernel | kernel_rfl | rfl)
      (case q_Trv => first | k_is | decide +kernel | kernel_rfl | rfl)
      (case q_Tsa => first | k_is | decide +kernel | kernel_rfl | rfl)
      (case q_Tga => first | k_is | decide +kernel | kernel_rfl | rfl)
      (case q_Tgg => first | k_is | decide +kernel | kernel_rfl | rfl)
      (case q_Ti1 => first | k_is | decide +kernel | kernel_rfl | rfl)
      (case q_Tt1 => first | k_is | decide +kernel | kernel_rfl | rfl)
      (case q_Tfn => first | k_is | decide +kernel | kernel_rfl | rfl)
      (case q_Tl1 => first | k_is | decide +kernel | kernel_rfl | rfl)
      (case q_Tc1 => first | k_is | decide +kernel | kernel_rfl | rfl)
      (case q_Tk1 => first | k_is | decide +kernel | kernel_rfl | rfl)
      (case q_TkC => first | k_is | decide +kernel | kernel_rfl | rfl)
      (case q_TeC => first | k_is | decide +kernel | kernel_rfl | rfl)
      (case q_TtC => first | k_is | decide +kernel | kernel_rfl | rfl)
      (case q_ThC => first | k_is | decide +kernel | kernel_rfl | rfl)
      (case q_TiC => first | k_is | decide +kernel | kernel_rfl | rfl)
      (case q_TsC => first | k_is | decide +kernel | kernel_rfl | rfl)
      (case q_Tfl => first | k_is | decide +kernel | kernel_rfl | rfl)
      (case q_Tnt => first | k_is | decide +kernel | kernel_rfl | rfl)
      (case q_Tcc => first | k_is | decide +kernel | kernel_rfl | rfl)
      (case q_Tmo => first | k_is | decide +kernel | kernel_rfl | rfl)
      (case q_Tsb => first | k_is | decide +kernel | kernel_rfl | rfl)
    case q_EN =>
      refine' W11.errx_mk KX G ?q_NaC ?q_NxL ?q_Nrv ?q_Nsa ?q_Nga ?q_Ngg ?q_Ni1 ?q_Nt1 ?q_Nfn ?q_Nl1 ?q_Nc1 ?q_Nk1 ?q_NkC ?q_NeC ?q_NtC ?q_NhC ?q_NiC ?q_NsC ?q_Nfl ?q_Nnt ?q_Ncc ?q_Nmo ?q_Nsb
      (case q_NaC => first | k_is | decide +kernel | kernel_rfl | rfl)
      (case q_NxL => first | k_is | decide +kernel | kernel_rfl | rfl)
      (case q_Nrv => first | k_is | decide +kernel | kernel_rfl | rfl)
      (case q_Nsa => first | k_is | decide +kernel | kernel_rfl | rfl)
      (case q_Nga => first | k_is | decide +kernel | kernel_rfl | rfl)
      (case q_Ngg => first | k_is | decide +kernel | kernel_rfl | rfl)
      (case q_Ni1 => first | k_is | decide +kernel | kernel_rfl | rfl)
      (case q_Nt1 => first | k_is | decide +kernel | kernel_rfl | rfl)
      (case q_Nfn => first | k_is | decide +kernel | kernel_rfl | rfl)
      (case q_Nl1 => first | k_is | decide +kernel | kernel_rfl | rfl)
      (case q_Nc1 => first | k_is | decide +kernel | kernel_rfl | rfl)
      (case q_Nk1 => first | k_is | decide +kernel | kernel_rfl | rfl)
      (case q_NkC => first | k_is | decide +kernel | kernel_rfl | rfl)
      (case q_NeC => first | k_is | decide +kernel | kernel_rfl | rfl)
      (case q_NtC => first | k_is | decide +kernel | kernel_rfl | rfl)
      (case q_NhC => first | k_is | decide +kernel | kernel_rfl | rfl)
      (case q_NiC => first | k_is | decide +kernel | kernel_rfl | rfl)
      (case q_NsC => first | k_is | decide +kernel | kernel_rfl | rfl)
      (case q_Nfl => first | k_is | decide +kernel | kernel_rfl | rfl)
      (case q_Nnt => first | k_is | decide +kernel | kernel_rfl | rfl)
      (case q_Ncc => first | k_is | decide +kernel | kernel_rfl | rfl)
      (case q_Nmo => first | k_is | decide +kernel | kernel_rfl | rfl)
      (case q_Nsb => first | k_is | decide +kernel | kernel_rfl | rfl)
    (case q_kit1 => first | k_is | kernel_rfl | rfl)
    (case q_kit2 => first | k_is | kernel_rfl | rfl)
    (case q_kit3 => first | k_is | kernel_rfl | rfl)
    (case q_kit4 => first | k_is | kernel_rfl | rfl)
    (case q_kit5 => first | k_is | kernel_rfl | rfl)
    (case q_kit6 => first | k_is | kernel_rfl | rfl)
    (case q_kit7 => first | k_is | kernel_rfl | rfl)
    (case q_kit8 => first | k_is | kernel_rfl | rfl)
    (case q_kit9 => first | k_is | kernel_rfl | rfl)
    (case q_kit10 => first | k_is | kernel_rfl | rfl)
    (case q_aM => k_is); (case q_m0 => k_is); (case q_m2 => k_is); (case q_m1 => first | k_is | kernel_rfl | rfl); (case q_m3 => first | k_is | kernel_rfl | rfl); (case q_m4 => k_is); (case q_lM => k_is); (case q_cM => k_is)
    (case q_aD1 => k_is); (case q_lD1 => k_is); (case q_eD1 => k_is); (case q_kD1 => k_is); (case q_hD1 => first | kernel_rfl | with_unfolding_all rfl); (case q_nD1 => first | rfl | k_is)
    (case q_aD2 => k_is); (case q_lD2 => k_is); (case q_eD2 => k_is); (case q_kD2 => k_is); (case q_hD2 => first | kernel_rfl | with_unfolding_all rfl); (case q_nD2 => first | rfl | k_is)
    (case q_aD3 => k_is); (case q_lD3 => k_is); (case q_eD3 => k_is); (case q_kD3 => k_is); (case q_hD3 => first | kernel_rfl | with_unfolding_all rfl); (case q_nD3 => first | rfl | k_is)
