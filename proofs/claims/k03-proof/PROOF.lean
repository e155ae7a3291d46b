import PyProof.Rows.All
import Wide.All
import OpenK.AllK
import Wide.FinOn
import HandS.ForMost
import HandS.Strs
import HandS.SetBool
import HandS.TupAny
import HandS.TupMul
import KE.KRevSl
import HandS.Exc
import HandS.TryOnly
import HandS.ExcOwn
import HandS.WordsExc
import HandS.Wide
import HandS.IsInst
import HandS.Style
import HandS.Flow
import HandS.Evl
import HandS.MakeKwOnly
import HandS.Walk
import KE.KEqSeq
import HandS.OwnEq
import HandS.More
import PyProof.InstNe
import HandS.ClsMeth
import OpenK.KDescr
import KE.KCallOwn
import PyProof.StrLawsChain
import HandS.Codes
import PyProof.ReprRoads
import HandS.SetFor
import HandS.TupSets
import HandS.SetKeys
import HandS.Dict
import HandS.Iter
import HandS.Deep
import HandS.ReCall
import HandS.Conv
import HandS.Base
import HandS.Call
import HandS.ExcInit
import HandS.ExcField
import PyProof.ListStr
import PySem.Challenge.RW_handlerims_k03_texts_bent_at_any_item
set_option Elab.async false
set_option linter.all false
/-! Rows of letters, shortened: neighbours that are contraries taken out. -/
namespace Fr

/-- a letter laid on what is left, its last one in front -/
def push : List Int → Int → List Int
  | [], a => [a]
  | b :: t, a => if b = -a then t else a :: b :: t

def act (s : List Int) (xs : List Int) : List Int := xs.foldl push s

/-- no neighbours are contraries -/
def Rd : List Int → Prop
  | [] => True
  | [_] => True
  | a :: b :: t => a ≠ -b ∧ Rd (b :: t)

/-- what is left of a row of letters -/
def shr (xs : List Int) : List Int := (act [] xs).reverse

/-- the contraries, the last one first -/
def con (xs : List Int) : List Int := xs.reverse.map (fun a => -a)

/-- so many times -/
def rep : Nat → List Int → List Int
  | 0, _ => []
  | n + 1, xs => xs ++ rep n xs

theorem Rd.tail {a : Int} {t : List Int} (h : Rd (a :: t)) : Rd t := by
  cases t with
  | nil => trivial
  | cons b u => exact h.2

theorem push_rd {s : List Int} (a : Int) (h : Rd s) : Rd (push s a) := by
  cases s with
  | nil => trivial
  | cons b t =>
    show Rd (if b = -a then t else a :: b :: t)
    by_cases e : b = -a
    · rw [if_pos e]; exact h.tail
    · rw [if_neg e]
      refine ⟨?_, h⟩
      omega

theorem push_push {s : List Int} (a : Int) (h : Rd s) : push (push s a) (-a) = s := by
  cases s with
  | nil => simp [push]
  | cons b t =>
    by_cases e : b = -a
    · have h1 : push (b :: t) a = t := by simp [push, e]
      rw [h1]
      cases t with
      | nil => simp [push, e]
      | cons c u =>
        have hc : c ≠ - -a := by
          intro hc
          exact h.1 (by omega)
        simp [push, e]
        omega
    · have h1 : push (b :: t) a = a :: b :: t := by simp [push, e]
      rw [h1]
      simp [push]

theorem push_push' {s : List Int} (a : Int) (h : Rd s) : push (push s (-a)) a = s := by
  have := push_push (-a) h
  rwa [Int.neg_neg] at this

theorem act_nil (s : List Int) : act s [] = s := rfl
theorem act_cons (s : List Int) (a : Int) (t : List Int) : act s (a :: t) = act (push s a) t := rfl
theorem act_append (s xs ys : List Int) : act s (xs ++ ys) = act (act s xs) ys := List.foldl_append
theorem act_snoc (s xs : List Int) (a : Int) : act s (xs ++ [a]) = push (act s xs) a := act_append s xs [a]

theorem act_rd : ∀ {xs s : List Int}, Rd s → Rd (act s xs)
  | [], _, h => h
  | a :: t, _, h => act_rd (xs := t) (push_rd a h)

/-- two rows are one and the same when they act alike -/
def Sm (xs ys : List Int) : Prop := ∀ s, Rd s → act s xs = act s ys

theorem Sm.refl (xs : List Int) : Sm xs xs := fun _ _ => rfl
theorem Sm.symm {xs ys : List Int} (h : Sm xs ys) : Sm ys xs := fun s r => (h s r).symm
theorem Sm.trans {xs ys zs : List Int} (h : Sm xs ys) (k : Sm ys zs) : Sm xs zs := fun s r => (h s r).trans (k s r)
theorem Sm.app {xs ys us vs : List Int} (h : Sm xs ys) (k : Sm us vs) : Sm (xs ++ us) (ys ++ vs) := fun s r => by
  rw [act_append, act_append, h s r, k _ (act_rd r)]
theorem Sm.out (a : Int) : Sm [a, -a] [] := fun s r => push_push a r
theorem Sm.out' (a : Int) : Sm [-a, a] [] := fun s r => push_push' a r
theorem Sm.mid {xs us vs ys : List Int} (h : Sm us vs) : Sm (xs ++ us ++ ys) (xs ++ vs ++ ys) := ((Sm.refl xs).app h).app (Sm.refl ys)

/-- what is left acts as the whole did -/
theorem sm_stack : ∀ xs : List Int, Sm (act [] xs).reverse xs := by
  intro xs
  have gen : ∀ (n : Nat) (xs : List Int), xs.length = n → Sm (act [] xs).reverse xs := by
    intro n
    induction n with
    | zero =>
      intro xs h
      cases xs with
      | nil => exact Sm.refl _
      | cons a t => simp at h
    | succ n ih =>
      intro xs h
      obtain ⟨ys, a, rfl⟩ : ∃ ys a, xs = ys ++ [a] := by
        refine ⟨xs.dropLast, xs.getLast (by intro e; rw [e] at h; simp at h), ?_⟩
        exact (List.dropLast_concat_getLast _).symm
      have hy : ys.length = n := by simp at h; exact h
      have k := ih ys hy
      intro s r
      rw [act_snoc, act_snoc]
      cases e : act [] ys with
      | nil =>
        have k2 := k s r
        rw [e] at k2
        rw [← k2]
        rfl
      | cons b t =>
        have k2 := k s r
        rw [e, List.reverse_cons, act_snoc] at k2
        rw [← k2]
        by_cases eb : b = -a
        · have h1 : push (b :: t) a = t := by simp [push, eb]
          rw [h1, eb]
          exact (push_push' a (act_rd r)).symm
        · have h1 : push (b :: t) a = a :: b :: t := by simp [push, eb]
          rw [h1, List.reverse_cons, List.reverse_cons, act_snoc, act_snoc]
  exact gen _ xs rfl

theorem sm_shr (xs : List Int) : Sm (shr xs) xs := sm_stack xs
theorem shr_of_sm {xs ys : List Int} (h : Sm xs ys) : shr xs = shr ys := by
  unfold shr
  rw [h [] trivial]
theorem sm_of_shr {xs ys : List Int} (h : shr xs = shr ys) : Sm xs ys := by
  refine (sm_shr xs).symm.trans ?_
  rw [h]
  exact sm_shr ys
theorem shr_shr (xs : List Int) : shr (shr xs) = shr xs := shr_of_sm (sm_shr xs)
theorem shr_app (xs ys : List Int) : shr (shr xs ++ shr ys) = shr (xs ++ ys) := shr_of_sm ((sm_shr xs).app (sm_shr ys))
theorem shr_out (xs : List Int) (a : Int) (ys : List Int) : shr (xs ++ a :: -a :: ys) = shr (xs ++ ys) := by
  refine shr_of_sm ?_
  have h : Sm (xs ++ [a, -a] ++ ys) (xs ++ [] ++ ys) := Sm.mid (Sm.out a)
  simpa using h

/-! ### short ones -/
theorem rd_cons {a : Int} {t : List Int} : Rd (a :: t) ↔ (∀ b, t.head? = some b → a ≠ -b) ∧ Rd t := by
  cases t with
  | nil => simp [Rd]
  | cons b u => simp [Rd]
theorem rd_append {xs ys : List Int} : Rd (xs ++ ys) ↔ Rd xs ∧ Rd ys ∧ ∀ a b, xs.getLast? = some a → ys.head? = some b → a ≠ -b := by
  induction xs with
  | nil => simp [Rd]
  | cons x t ih =>
    rw [List.cons_append, rd_cons, rd_cons, ih]
    cases t with
    | nil =>
      simp [Rd]
      constructor
      · rintro ⟨h1, h2⟩
        exact ⟨h2, fun a b ha hb => ha ▸ h1 b hb⟩
      · rintro ⟨h1, h2⟩
        exact ⟨fun b hb => h2 x b rfl hb, h1⟩
    | cons y u =>
      simp [List.getLast?_cons_cons]
      constructor
      · rintro ⟨h1, h2, h3, h4⟩
        exact ⟨⟨h1, h2⟩, h3, h4⟩
      · rintro ⟨⟨h1, h2⟩, h3, h4⟩
        exact ⟨h1, h2, h3, h4⟩
theorem rd_reverse {xs : List Int} : Rd xs.reverse ↔ Rd xs := by
  induction xs with
  | nil => simp [Rd]
  | cons x t ih =>
    rw [List.reverse_cons, rd_append, ih, rd_cons (a := x) (t := t)]
    have one : Rd [x] := trivial
    simp [one]
    constructor
    · rintro ⟨h1, h2⟩
      refine ⟨fun b hb => ?_, h1⟩
      have := h2 b hb
      omega
    · rintro ⟨h1, h2⟩
      refine ⟨h2, fun b hb => ?_⟩
      have := h1 b hb
      omega
theorem rd_shr (xs : List Int) : Rd (shr xs) := rd_reverse.2 (act_rd trivial)
theorem act_short : ∀ (xs s : List Int), Rd (s.reverse ++ xs) → act s xs = xs.reverse ++ s
  | [], s, _ => by simp [act]
  | a :: t, s, h => by
    rw [act_cons]
    have hp : push s a = a :: s := by
      cases s with
      | nil => rfl
      | cons b u =>
        have h3 := (rd_append.1 h).2.2 b a (by simp) (by simp)
        show (if b = -a then u else a :: b :: u) = _
        rw [if_neg h3]
    rw [hp, act_short t (a :: s) (by simpa using h)]
    simp
theorem shr_short {xs : List Int} (h : Rd xs) : shr xs = xs := by
  unfold shr
  rw [act_short xs [] (by simpa using h)]
  simp
theorem shr_iff {xs : List Int} : shr xs = xs ↔ Rd xs := ⟨fun h => h ▸ rd_shr xs, shr_short⟩
/-- a short one that acts alike is what is left -/
theorem shr_eq {xs ys : List Int} (h : Sm xs ys) (r : Rd ys) : shr xs = ys := (shr_of_sm h).trans (shr_short r)

/-! ### contraries -/
theorem con_nil : con [] = [] := rfl
theorem con_cons (a : Int) (t : List Int) : con (a :: t) = con t ++ [-a] := by simp [con]
theorem con_append (xs ys : List Int) : con (xs ++ ys) = con ys ++ con xs := by simp [con]
theorem con_con (xs : List Int) : con (con xs) = xs := by
  simp [con, List.map_reverse, Function.comp_def]
theorem con_length (xs : List Int) : (con xs).length = xs.length := by simp [con]
theorem con_head (xs : List Int) : (con xs).head? = xs.getLast?.map fun a => -a := by
  simp [con]
theorem con_last (xs : List Int) : (con xs).getLast? = xs.head?.map fun a => -a := by
  simp [con, List.map_reverse]
theorem sm_con : ∀ xs : List Int, Sm (xs ++ con xs) []
  | [] => Sm.refl _
  | a :: t => by
    rw [con_cons]
    have h : Sm ([a] ++ (t ++ con t) ++ [-a]) ([a] ++ [] ++ [-a]) := Sm.mid (sm_con t)
    have k : Sm ([a] ++ [] ++ [-a]) [] := Sm.out a
    have := h.trans k
    simpa using this
theorem sm_con' (xs : List Int) : Sm (con xs ++ xs) [] := by
  have := sm_con (con xs)
  rwa [con_con] at this
theorem Sm.con {xs ys : List Int} (h : Sm xs ys) : Sm (con xs) (con ys) := by
  have h1 : Sm (Fr.con xs ++ (ys ++ Fr.con ys)) (Fr.con xs ++ []) := (Sm.refl _).app (sm_con ys)
  have h2 : Sm (Fr.con xs ++ ys ++ Fr.con ys) (Fr.con xs ++ xs ++ Fr.con ys) := Sm.mid h.symm
  have h3 : Sm (Fr.con xs ++ xs ++ Fr.con ys) ([] ++ Fr.con ys) := (sm_con' xs).app (Sm.refl _)
  rw [List.append_nil, ← List.append_assoc] at h1
  exact (h1.symm.trans h2).trans h3
theorem rd_con {xs : List Int} : Rd (con xs) ↔ Rd xs := by
  have one : ∀ xs : List Int, Rd xs → Rd (con xs) := by
    intro xs
    induction xs with
    | nil => exact fun _ => trivial
    | cons a t ih =>
      intro h
      rw [con_cons, rd_append]
      refine ⟨ih h.tail, trivial, fun x y hx hy => ?_⟩
      rw [con_last] at hx
      cases t with
      | nil => simp at hx
      | cons b u =>
        simp at hx hy
        have := h.1
        omega
  refine ⟨fun h => ?_, one xs⟩
  have := one _ h
  rwa [con_con] at this
theorem shr_con (xs : List Int) : shr (con xs) = con (shr xs) := shr_eq (sm_shr xs).con.symm (rd_con.2 (rd_shr xs))

/-! ### so many times -/
theorem rep_zero (xs : List Int) : rep 0 xs = [] := rfl
theorem rep_succ (n : Nat) (xs : List Int) : rep (n + 1) xs = xs ++ rep n xs := rfl
theorem rep_one (xs : List Int) : rep 1 xs = xs := by simp [rep]
theorem rep_add (m n : Nat) (xs : List Int) : rep (m + n) xs = rep m xs ++ rep n xs := by
  induction m with
  | zero => simp [rep]
  | succ m ih => rw [Nat.succ_add, rep_succ, rep_succ, ih, List.append_assoc]
theorem rep_length (n : Nat) (xs : List Int) : (rep n xs).length = n * xs.length := by
  induction n with
  | zero => simp [rep]
  | succ n ih => rw [rep_succ, List.length_append, ih, Nat.succ_mul, Nat.add_comm]
theorem rep_nil (n : Nat) : rep n [] = [] := by
  induction n with
  | zero => rfl
  | succ n ih => rw [rep_succ, ih]; rfl
theorem Sm.rep {xs ys : List Int} (h : Sm xs ys) (n : Nat) : Sm (rep n xs) (rep n ys) := by
  induction n with
  | zero => exact Sm.refl _
  | succ n ih => exact h.app ih
theorem shr_rep (n : Nat) (xs : List Int) : shr (rep n (shr xs)) = shr (rep n xs) := shr_of_sm ((sm_shr xs).rep n)
theorem rep_succ' (n : Nat) (xs : List Int) : rep (n + 1) xs = rep n xs ++ xs := by
  rw [rep_add n 1, rep_one]
theorem con_rep (n : Nat) (xs : List Int) : con (rep n xs) = rep n (con xs) := by
  induction n with
  | zero => rfl
  | succ n ih => rw [rep_succ, con_append, ih, ← rep_succ']

/-! ### the ends -/
/-- short, and its ends are no contraries -/
def Cy (w : List Int) : Prop := Rd w ∧ ∀ a b, w.head? = some a → w.getLast? = some b → a ≠ -b
/-- no letter is 0 -/
def NZ (xs : List Int) : Prop := ∀ a ∈ xs, a ≠ 0
theorem cy_nil : Cy [] := ⟨trivial, fun a b h => by simp at h⟩
theorem NZ.app {xs ys : List Int} (h : NZ xs) (k : NZ ys) : NZ (xs ++ ys) := fun a ha => by
  rcases List.mem_append.1 ha with h1 | h1
  · exact h a h1
  · exact k a h1
theorem NZ.left {xs ys : List Int} (h : NZ (xs ++ ys)) : NZ xs := fun a ha => h a (List.mem_append_left _ ha)
theorem NZ.right {xs ys : List Int} (h : NZ (xs ++ ys)) : NZ ys := fun a ha => h a (List.mem_append_right _ ha)
theorem NZ.con {xs : List Int} (h : NZ xs) : NZ (con xs) := fun a ha => by
  unfold Fr.con at ha
  obtain ⟨b, hb, rfl⟩ := List.mem_map.1 ha
  have := h b (List.mem_reverse.1 hb)
  omega
theorem push_mem {s : List Int} {a x : Int} (h : x ∈ push s a) : x = a ∨ x ∈ s := by
  cases s with
  | nil => left; simpa [push] using h
  | cons b t =>
    have h2 : x ∈ (if b = -a then t else a :: b :: t) := h
    by_cases e : b = -a
    · rw [if_pos e] at h2; exact .inr (List.mem_cons_of_mem _ h2)
    · rw [if_neg e] at h2
      rcases List.mem_cons.1 h2 with h3 | h3
      · exact .inl h3
      · exact .inr h3
theorem act_mem : ∀ {xs s : List Int} {x : Int}, x ∈ act s xs → x ∈ xs ∨ x ∈ s
  | [], _, _, h => .inr h
  | a :: t, s, x, h => by
    rw [act_cons] at h
    rcases act_mem h with h1 | h1
    · exact .inl (List.mem_cons_of_mem _ h1)
    · rcases push_mem h1 with h2 | h2
      · exact .inl (h2 ▸ List.mem_cons_self)
      · exact .inr h2
theorem shr_mem {xs : List Int} {x : Int} (h : x ∈ shr xs) : x ∈ xs := by
  unfold shr at h
  rcases act_mem (List.mem_reverse.1 h) with h1 | h1
  · exact h1
  · simp at h1
theorem NZ.shr {xs : List Int} (h : NZ xs) : NZ (shr xs) := fun a ha => h a (shr_mem ha)

/-- a row between a letter and its contrary, or one that has no such ends -/
theorem ends_or (xs : List Int) (nz : NZ xs) : (∃ a m, xs = a :: (m ++ [-a])) ∨ ∀ a b, xs.head? = some a → xs.getLast? = some b → a ≠ -b := by
  cases xs with
  | nil => right; intro a b h; simp at h
  | cons a t =>
    by_cases ht : t = []
    · subst ht
      right
      intro x y hx hy
      simp at hx hy
      have := nz a (by simp)
      omega
    · have e := List.dropLast_concat_getLast ht
      by_cases hb : t.getLast ht = -a
      · left
        refine ⟨a, t.dropLast, ?_⟩
        rw [← hb, e]
      · right
        intro x y hx hy
        rw [← e] at hy
        rw [show a :: (t.dropLast ++ [t.getLast ht]) = (a :: t.dropLast) ++ [t.getLast ht] from rfl] at hy
        rw [List.getLast?_append] at hy
        simp at hx hy
        omega
/-- every short row is a row, one that is short round, and the contrary of the first -/
theorem parted (xs : List Int) (nz : NZ xs) (r : Rd xs) : ∃ u w, xs = u ++ w ++ con u ∧ Cy w ∧ (w = [] → u = []) := by
  have gen : ∀ (n : Nat) (xs : List Int), xs.length ≤ n → NZ xs → Rd xs → ∃ u w, xs = u ++ w ++ con u ∧ Cy w ∧ (w = [] → u = []) := by
    intro n
    induction n with
    | zero =>
      intro xs h _ _
      have : xs = [] := List.length_eq_zero_iff.1 (by omega)
      subst this
      exact ⟨[], [], rfl, cy_nil, fun _ => rfl⟩
    | succ n ih =>
      intro xs h nz r
      rcases ends_or xs nz with ⟨a, m, rfl⟩ | k
      · have hr : Rd (m ++ [-a]) := r.tail
        have hm : Rd m := (rd_append.1 hr).1
        obtain ⟨u, w, e, c, z⟩ := ih m (by simp at h; omega) (fun x hx => nz x (by simp [hx])) hm
        have hne : m ≠ [] := by
          intro e0
          subst e0
          have := r.1
          simp at this
        refine ⟨a :: u, w, ?_, c, fun hw => ?_⟩
        · rw [con_cons, e]; simp
        · exfalso
          have hu := z hw
          subst hw hu
          exact hne (by simpa [con] using e)
      · exact ⟨[], xs, by simp [con], ⟨r, k⟩, fun _ => rfl⟩
  exact gen xs.length xs (Nat.le_refl _) nz r

/-- the ends off, as long as they are contraries -/
def endsN : Nat → List Int → List Int
  | 0, xs => xs
  | n + 1, xs => if 1 < xs.length ∧ xs.head? = xs.getLast?.map (fun a => -a) then endsN n xs.tail.dropLast else xs
def ends (xs : List Int) : List Int := endsN xs.length xs
theorem endsN_cy : ∀ (n : Nat) {w : List Int}, Cy w → endsN n w = w
  | 0, _, _ => rfl
  | n + 1, w, h => by
    unfold endsN
    rw [if_neg]
    rintro ⟨h1, h2⟩
    cases e : w.getLast? with
    | none =>
      rw [List.getLast?_eq_none_iff] at e
      subst e
      simp at h1
    | some b =>
      rw [e] at h2
      exact h.2 (-b) b h2 e rfl
theorem endsN_eq : ∀ (n : Nat) (u w : List Int), Cy w → u.length ≤ n → (w = [] → u = []) → endsN n (u ++ w ++ con u) = w
  | n, [], w, c, _, _ => by
    simp [con]
    exact endsN_cy n c
  | 0, a :: u, w, c, h, _ => by simp at h
  | n + 1, a :: u, w, c, h, z => by
    have e : (a :: u) ++ w ++ con (a :: u) = a :: ((u ++ w ++ con u) ++ [-a]) := by
      rw [con_cons]; simp
    rw [e]
    unfold endsN
    rw [if_pos]
    · rw [List.tail_cons, List.dropLast_concat]
      refine endsN_eq n u w c (by simp at h; exact h) fun hw => ?_
      have := z hw
      simp at this
    · constructor
      · simp only [List.length_cons, List.length_append, List.length_nil]; omega
      · rw [show a :: ((u ++ w ++ con u) ++ [-a]) = (a :: (u ++ w ++ con u)) ++ [-a] from rfl, List.getLast?_append]
        simp
theorem ends_eq {u w : List Int} (c : Cy w) (z : w = [] → u = []) : ends (u ++ w ++ con u) = w :=
  endsN_eq _ u w c (by simp) z
theorem ends_cy {w : List Int} (c : Cy w) : ends w = w := endsN_cy _ c
/-- what is left of a ring -/
def rnd (xs : List Int) : List Int := ends (shr xs)
theorem rnd_of {xs u w : List Int} (h : Sm xs (u ++ w ++ con u)) (r : Rd (u ++ w ++ con u)) (c : Cy w) (z : w = [] → u = []) : rnd xs = w := by
  unfold rnd
  rw [shr_eq h r]
  exact ends_eq c z
theorem rnd_cy {xs : List Int} (nz : NZ xs) : Cy (rnd xs) := by
  obtain ⟨u, w, e, c, z⟩ := parted (shr xs) nz.shr (rd_shr xs)
  unfold rnd
  rw [e, ends_eq c z]
  exact c
theorem rnd_sm {xs ys : List Int} (h : Sm xs ys) : rnd xs = rnd ys := by
  unfold rnd
  rw [shr_of_sm h]
theorem rnd_iff {xs : List Int} (nz : NZ xs) : rnd xs = xs ↔ Cy xs := by
  constructor
  · intro h
    rw [← h]
    exact rnd_cy nz
  · intro c
    unfold rnd
    rw [shr_short c.1, ends_cy c]

/-! ### turned -/
def Trn (xs ys : List Int) : Prop := ∃ p q, xs = p ++ q ∧ ys = q ++ p
theorem Trn.refl (xs : List Int) : Trn xs xs := ⟨[], xs, rfl, by simp⟩
theorem Trn.symm {xs ys : List Int} (h : Trn xs ys) : Trn ys xs := by
  obtain ⟨p, q, e1, e2⟩ := h
  exact ⟨q, p, e2, e1⟩
theorem Trn.trans {xs ys zs : List Int} (h : Trn xs ys) (k : Trn ys zs) : Trn xs zs := by
  obtain ⟨p, q, rfl, e⟩ := h
  obtain ⟨p2, q2, e2, rfl⟩ := k
  rw [e] at e2
  rcases List.append_eq_append_iff.1 e2 with ⟨c, h1, h2⟩ | ⟨c, h1, h2⟩
  · subst h1 h2
    exact ⟨c, q2 ++ q, by simp, by simp⟩
  · subst h1 h2
    exact ⟨p ++ p2, c, by simp, by simp⟩
theorem Trn.cy {xs ys : List Int} (h : Trn xs ys) (c : Cy xs) : Cy ys := by
  obtain ⟨p, q, rfl, rfl⟩ := h
  by_cases hp : p = []
  · subst hp; simpa using c
  by_cases hq : q = []
  · subst hq; simpa using c
  obtain ⟨r, l⟩ := c
  obtain ⟨r1, r2, r3⟩ := rd_append.1 r
  obtain ⟨a, t, rfl⟩ := List.exists_cons_of_ne_nil hp
  obtain ⟨b, s, rfl⟩ := List.exists_cons_of_ne_nil hq
  refine ⟨rd_append.2 ⟨r2, r1, fun x y hx hy => ?_⟩, fun x y hx hy => ?_⟩
  · have := l y x (by simpa using hy) (by rw [List.getLast?_append, hx]; rfl)
    omega
  · have := r3 y x (by rw [List.getLast?_append] at hy; rw [List.getLast?_eq_some_getLast (by simp)] at hy ⊢; simpa using hy) (by simpa using hx)
    omega
/-- a letter ahead and its contrary behind -/
theorem rnd_moved1 (a : Int) (ha : a ≠ 0) (xs : List Int) (nz : NZ xs) : Trn (rnd xs) (rnd ([a] ++ xs ++ [-a])) := by
  obtain ⟨u, w, e, c, z⟩ := parted (shr xs) nz.shr (rd_shr xs)
  have hr : rnd xs = w := by
    unfold rnd
    rw [e, ends_eq c z]
  have rs := rd_shr xs
  rw [e] at rs
  have base : Sm ([a] ++ xs ++ [-a]) ([a] ++ (u ++ w ++ con u) ++ [-a]) := by
    rw [← e]
    exact Sm.mid (sm_shr xs).symm
  rw [hr]
  cases u with
  | cons b u =>
    have wne : w ≠ [] := fun h => by simp at z; exact z h
    have e2 : (b :: u) ++ w ++ con (b :: u) = b :: ((u ++ w ++ con u) ++ [-b]) := by rw [con_cons]; simp
    rw [e2] at rs base
    by_cases hb : b = -a
    · have inner : Rd (u ++ w ++ con u) := (rd_append.1 rs.tail).1
      have sm : Sm ([a] ++ (b :: ((u ++ w ++ con u) ++ [-b])) ++ [-a]) (u ++ w ++ con u) := by
        subst hb
        have h1 : Sm ([a, -a] ++ (u ++ w ++ con u) ++ [a, -a]) ([] ++ (u ++ w ++ con u) ++ []) := ((Sm.out a).app (Sm.refl _)).app (Sm.out a)
        simpa using h1
      rw [rnd_of (base.trans sm) inner c fun h => absurd h wne]
      exact Trn.refl _
    · have whole : Rd ((a :: b :: u) ++ w ++ con (a :: b :: u)) := by
        have e3 : (a :: b :: u) ++ w ++ con (a :: b :: u) = [a] ++ (b :: ((u ++ w ++ con u) ++ [-b])) ++ [-a] := by
          rw [con_cons, con_cons]; simp
        rw [e3, rd_append, rd_append]
        refine ⟨⟨trivial, rs, fun x y hx hy => ?_⟩, trivial, fun x y hx hy => ?_⟩
        · simp at hx hy; omega
        · rw [show [a] ++ (b :: ((u ++ w ++ con u) ++ [-b])) = (a :: b :: (u ++ w ++ con u)) ++ [-b] by simp] at hx
          rw [List.getLast?_append] at hx
          simp at hx hy
          omega
      have sm : Sm ([a] ++ (b :: ((u ++ w ++ con u) ++ [-b])) ++ [-a]) ((a :: b :: u) ++ w ++ con (a :: b :: u)) := by
        have e3 : (a :: b :: u) ++ w ++ con (a :: b :: u) = [a] ++ (b :: ((u ++ w ++ con u) ++ [-b])) ++ [-a] := by
          rw [con_cons, con_cons]; simp
        rw [e3]
        exact Sm.refl _
      rw [rnd_of (base.trans sm) whole c fun h => absurd h wne]
      exact Trn.refl _
  | nil =>
    have e2 : ([] : List Int) ++ w ++ con [] = w := by simp [con]
    rw [e2] at rs base
    cases w with
    | nil =>
      have sm : Sm ([a] ++ [] ++ [-a]) ([] ++ [] ++ con []) := Sm.out a
      rw [rnd_of (base.trans sm) trivial cy_nil fun _ => rfl]
      exact Trn.refl _
    | cons b t =>
      by_cases hb : b = -a
      · -- the letter takes the first one out, and its contrary stands behind
        have turn : Trn (b :: t) (t ++ [b]) := ⟨[b], t, rfl, rfl⟩
        have sm : Sm ([a] ++ (b :: t) ++ [-a]) ([] ++ (t ++ [b]) ++ con []) := by
          subst hb
          have h1 : Sm ([a, -a] ++ (t ++ [-a])) ([] ++ (t ++ [-a])) := (Sm.out a).app (Sm.refl _)
          simpa [con] using h1
        have cy := turn.cy c
        rw [rnd_of (base.trans sm) (by simpa [con] using cy.1) cy fun _ => rfl]
        exact turn
      · by_cases hl : (b :: t).getLast? = some a
        · obtain ⟨m, em⟩ : ∃ m, b :: t = m ++ [a] := by
            refine ⟨(b :: t).dropLast, ?_⟩
            have h1 := List.dropLast_concat_getLast (l := b :: t) (by simp)
            rw [List.getLast?_eq_some_getLast (by simp)] at hl
            rw [Option.some.inj hl] at h1
            exact h1.symm
          rw [em] at c base ⊢
          have turn : Trn (m ++ [a]) (a :: m) := ⟨m, [a], rfl, rfl⟩
          have sm : Sm ([a] ++ (m ++ [a]) ++ [-a]) ([] ++ (a :: m) ++ con []) := by
            have h1 : Sm ((a :: m) ++ [a, -a]) ((a :: m) ++ []) := (Sm.refl _).app (Sm.out a)
            simpa [con] using h1
          have cy := turn.cy c
          rw [rnd_of (base.trans sm) (by simpa [con] using cy.1) cy fun _ => rfl]
          exact turn
        · have whole : Rd ([a] ++ (b :: t) ++ con [a]) := by
            rw [rd_append, rd_append]
            refine ⟨⟨trivial, rs, fun x y hx hy => ?_⟩, trivial, fun x y hx hy => ?_⟩
            · simp at hx hy; omega
            · rw [List.getLast?_append] at hx
              rw [List.getLast?_eq_some_getLast (by simp)] at hx hl
              simp [con] at hx hy hl
              omega
          rw [rnd_of (base.trans (by simpa [con] using Sm.refl _)) whole c fun h => by simp at h]
          exact Trn.refl _
/-- moved: a word ahead, its contrary behind -/
theorem rnd_moved : ∀ (ys xs : List Int), NZ ys → NZ xs → Trn (rnd xs) (rnd (ys ++ xs ++ con ys))
  | [], xs, _, _ => by simpa [con] using Trn.refl _
  | a :: t, xs, hy, hx => by
    have ht : NZ t := fun x h => hy x (List.mem_cons_of_mem _ h)
    have h1 := rnd_moved t xs ht hx
    have h2 := rnd_moved1 a (hy a List.mem_cons_self) (t ++ xs ++ con t) ((ht.app hx).app ht.con)
    have e : [a] ++ (t ++ xs ++ con t) ++ [-a] = (a :: t) ++ xs ++ con (a :: t) := by rw [con_cons]; simp
    rw [e] at h2
    exact h1.trans h2
/-- turned first, shortened round then -/
theorem rnd_turned {xs ys : List Int} (nz : NZ xs) (h : Trn xs ys) : Trn (rnd xs) (rnd ys) := by
  obtain ⟨p, q, rfl, rfl⟩ := h
  have h1 := rnd_moved (con p) (p ++ q) nz.left.con nz
  have sm : Sm (con p ++ (p ++ q) ++ con (con p)) (q ++ p) := by
    rw [con_con]
    have h2 : Sm ((con p ++ p) ++ (q ++ p)) ([] ++ (q ++ p)) := (sm_con' p).app (Sm.refl _)
    simpa using h2
  rw [rnd_sm sm] at h1
  exact h1

/-! ### so many times one that is short round -/
theorem rep_head {n : Nat} {w : List Int} : (rep (n + 1) w).head? = w.head? := by
  cases w with
  | nil => rw [rep_nil]
  | cons a t => rw [rep_succ]; rfl
theorem rep_last {n : Nat} {w : List Int} : (rep (n + 1) w).getLast? = w.getLast? := by
  by_cases hw : w = []
  · subst hw; rw [rep_nil]
  · rw [rep_succ', List.getLast?_append, List.getLast?_eq_some_getLast hw]; rfl
theorem cy_rep {w : List Int} (c : Cy w) : ∀ n, Cy (rep n w)
  | 0 => cy_nil
  | n + 1 => by
    have ih := cy_rep c n
    refine ⟨?_, fun a b ha hb => ?_⟩
    · rw [rep_succ, rd_append]
      refine ⟨c.1, ih.1, fun a b ha hb => ?_⟩
      cases n with
      | zero => simp [rep] at hb
      | succ n =>
        rw [rep_head] at hb
        have := c.2 b a hb ha
        omega
    · rw [rep_head] at ha
      rw [rep_last] at hb
      exact c.2 a b ha hb
/-- so many times a row: its ends stay, what is between them comes so many times -/
theorem shr_core {xs u w : List Int} (e : shr xs = u ++ w ++ con u) (c : Cy w) (z : w = [] → u = []) (n : Nat) : shr (rep (n + 1) xs) = u ++ rep (n + 1) w ++ con u := by
  have sm : ∀ n, Sm (rep (n + 1) (u ++ w ++ con u)) (u ++ rep (n + 1) w ++ con u) := by
    intro n
    induction n with
    | zero => rw [rep_one, rep_one]; exact Sm.refl _
    | succ n ih =>
      rw [rep_succ]
      refine ((Sm.refl _).app ih).trans ?_
      have h : Sm ((u ++ w) ++ (con u ++ u) ++ (rep (n + 1) w ++ con u)) ((u ++ w) ++ [] ++ (rep (n + 1) w ++ con u)) := Sm.mid (sm_con' u)
      have e2 : rep (n + 1 + 1) w = w ++ rep (n + 1) w := rfl
      rw [e2]
      simpa using h
  refine shr_eq ?_ ?_
  · have h1 : Sm (rep (n + 1) xs) (rep (n + 1) (shr xs)) := ((sm_shr xs).rep _).symm
    rw [e] at h1
    exact h1.trans (sm n)
  · have r := rd_shr xs
    rw [e] at r
    by_cases hw : w = []
    · have hu := z hw
      subst hw hu
      rw [rep_nil]
      trivial
    · obtain ⟨r12, r3, b23⟩ := rd_append.1 r
      obtain ⟨r1, r2, b12⟩ := rd_append.1 r12
      rw [rd_append, rd_append]
      refine ⟨⟨r1, (cy_rep c _).1, fun a b ha hb => ?_⟩, r3, fun a b ha hb => ?_⟩
      · rw [rep_head] at hb
        exact b12 a b ha hb
      · refine b23 a b ?_ hb
        have hne : rep (n + 1) w ≠ [] := by
          intro h
          have h2 := rep_length (n + 1) w
          rw [h, Nat.succ_mul] at h2
          simp at h2
          exact hw (List.length_eq_zero_iff.1 (by omega))
        rw [List.getLast?_append, List.getLast?_eq_some_getLast hne] at ha
        rw [List.getLast?_append, ← rep_last (n := n), List.getLast?_eq_some_getLast hne]
        exact ha
end Fr
set_option Elab.async false
set_option linter.all false
set_option maxRecDepth 100000
set_option maxHeartbeats 2000000
/-! {e for x in xs}, e an int. -/
namespace WS
open PySem PySem.Spec PyProof.Rows L2 PpSet
/-- a set as it is when it is made -/
abbrev bareSet (w : World) : Obj := { cls := .type "set", dict := none, data := .set #[] 0 (.fresh 0 0 (!w.params.followText "set-order")) }
theorem bare_ok (w : World) (h : Heap) : SetR w (h.push (bareSet w)) h.objs.size (fun _ => false) 0 := by
  have led : w.params.followText "set-order" = true ∨ (!w.params.followText "set-order") = true := by
    cases w.params.followText "set-order"
    · right; rfl
    · left; rfl
  refine ⟨bareSet w, #[], 0, _, Heap.get?_push_size _ rfl, ⟨rfl, rfl, rfl⟩, rfl, ?_, ?_, ?_, by decide, rfl, rfl, List.Pairwise.nil, led⟩
  · intro e he; simp at he
  · simp
  · intro k; simp
/-- the new set at D, filled turn by turn -/
def Fills (w : World) (J : It) (g : TG) (tt : TT) (te : TE) (vs : List Nat) (σ : L2.St) (D : Addr) (Q : VK) (W : Nat → Nat → Hp → Prop) : Prop :=
  ∀ i m H, W i m H → (J.stop i H ∧ Q (.ref D) H) ∨ (J.go i H ∧ ∃ N : Hp → Prop, (∀ H', N H' → ∃ m', m' < m ∧ W (i + 1) m' H') ∧
    ∀ x H', J.yld i H x H' → g x (wipe σ vs) H' fun σ2 H2 => wipe σ2 vs = wipe σ vs ∧ tt σ2 H2 fun b H3 => if b = true then te σ2 H3 fun y H4 => rSAdd w (.ref D) [y] H4 fun _ H5 => N H5 else N H3)
def tSetI (w : World) (wi : TI) (g : TG) (tt : TT) (te : TE) (vs : List Nat) : TE := fun σ H Q => wi σ H fun J H1 => ∀ D, H1 D = none →
  ∃ W : Nat → Nat → Hp → Prop, (∃ m, W 0 m (upd H1 D (SetO w D (fun _ => false) 0))) ∧ Fills w J g tt te vs σ D Q W
section
variable {X : Cx}
/-- what a turn leaves known -/
def Known (X : Cx) (Z : Cx) (σw : L2.St) (fp : List Addr) (tn : Nat → Heap → Prop) (W : Nat → Nat → Hp → Prop) (m : Nat) (s : Shared) : Prop :=
  ∃ (i : Nat) (H : Hp), Inv Z [] σw H s ∧ tn i s.heap ∧ (∀ b ∈ fp, H b = none) ∧ W i m H
theorem fill_set {elt tg iter : Expr} {ifs : List Expr} {scope : Scope} {own : List (PySem.Str × Nat)} {pos : Pos} {g : TG} {tt : TT} {te : TE} {pins : List (Addr × Obj)} {σ : L2.St} {H3 : Hp} {s3 : Shared} {it D : Addr} {fp : List Addr} {tn : Nat → Heap → Prop} {J : It} {m0 : Nat} {W : Nat → Nat → Hp → Prop} {Q : VK}
    (calm : X.calm = true) (nod : X.N.Nodup) (blk : BlkOk X.N X.env.scope scope own)
    (target : ∀ (s : Shared) (H : Hp) (C : Addr) (cl : List (PySem.Str × Addr)) (fp : List Addr), PG (X.blk s H scope (compEnvC scope cl C X.env) fp) tg g)
    (tests : ∀ (s : Shared) (H : Hp) (C : Addr) (cl : List (PySem.Str × Addr)) (fp : List Addr), PTs (X.blk s H scope (compEnvC scope cl C X.env) fp) ifs tt)
    (item : ∀ (s : Shared) (H : Hp) (C : Addr) (cl : List (PySem.Str × Addr)) (fp : List Addr), PE (X.blk s H scope (compEnvC scope cl C X.env) fp) elt te)
    (T : Turn X.prog X.w X.K tg J fp it tn) (I3 : Inv X pins σ H3 s3) (off : ∀ b ∈ fp, FpOk X pins H3 b ∧ b < s3.heap.objs.size) (st3 : tn 0 s3.heap) (w0 : W 0 m0 H3) (turn : Fills X.w J g tt te (own.map (·.2)) σ D Q W) :
    codeAny (model X.prog X.w) X.A (.compStart (.SetComp elt [⟨tg, iter, ifs, 0⟩] scope pos) 0 (.ref it) (.ref D) (compEnvC scope (cellsFrom (s3.heap.objs.size + 1) scope.names (cloFrom X.env.cells scope.names [])) s3.heap.objs.size X.env))
      (compPost (model X.prog X.w) X.A X.xe none (EP X pins σ Q) (.ref D) s3.heap.objs.size) { s3 with heap := pushCells (s3.heap.push { cls := .type "dict", data := .dict #[] }) scope.names } := by
  have I4 := block_start I3 blk nod off
  have pg := target s3 H3 s3.heap.objs.size (cellsFrom (s3.heap.objs.size + 1) scope.names (cloFrom X.env.cells scope.names [])) fp
  have pt := tests s3 H3 s3.heap.objs.size (cellsFrom (s3.heap.objs.size + 1) scope.names (cloFrom X.env.cells scope.names [])) fp
  have pe := item s3 H3 s3.heap.objs.size (cellsFrom (s3.heap.objs.size + 1) scope.names (cloFrom X.env.cells scope.names [])) fp
  have st4 : tn 0 (pushCells (s3.heap.push { cls := .type "dict", data := .dict #[] }) scope.names) := T.keep _ _ _ st3 fun _ _ _ e => pushCells_keeps _ _ _ _ (Heap.get?_push_of_some _ e)
  obtain ⟨ce, ece⟩ : ∃ ce : Env, ce = compEnvC scope (cellsFrom (s3.heap.objs.size + 1) scope.names (cloFrom X.env.cells scope.names [])) s3.heap.objs.size X.env := ⟨_, rfl⟩
  have loc : ce.locals = s3.heap.objs.size := by rw [ece]; rfl
  rw [← ece] at I4 pg pt pe ⊢
  -- the places that the walk keeps
  have held : ∀ {σ' : L2.St} {H' : Hp} {s' : Shared}, Inv (X.blk s3 H3 scope ce fp) [] σ' H' s' → (∀ b ∈ fp, H' b = none) → ∀ b ∈ fp, FpOk (X.blk s3 H3 scope ce fp) [] H' b := by
    intro σ' H' s' I' none' b hb
    refine ⟨none' b hb, (I'.ok.exf b hb).1, I'.ok.exfs b hb, .inl hb, (I'.ok.exf b hb).2, fun p hp => ?_⟩
    simp at hp
  have all : codeAny (model X.prog X.w) X.A (.compLoop (.SetComp elt [⟨tg, iter, ifs, 0⟩] scope pos) 0 (.ref it) (.ref D) ce) (compPost (model X.prog X.w) X.A X.xe none (EP X pins σ Q) (.ref D) s3.heap.objs.size) { s3 with heap := pushCells (s3.heap.push { cls := .type "dict", data := .dict #[] }) scope.names } := by
    refine compLoopS_any (Known X (X.blk s3 H3 scope ce fp) (wipe σ (own.map (·.2))) fp tn W) (fun m s5 known => ?_) m0 ⟨0, H3, I4, st4, fun b hb => (off b hb).1.1, w0⟩
    obtain ⟨i, H5, I5, st5, none5, w5⟩ := known
    cases turn i m H5 w5 with
    | inl ended =>
      refine thnF (T.done (X.blk s3 H3 scope ce fp) rfl rfl rfl calm i [] s5 _ H5 (fun _ _ => False) I5 (held I5 none5) st5 ended.1) fun r s6 hr => ?_
      obtain ⟨rfl, I6⟩ := hr
      have back : Inv X pins σ H5 s6 := I3.call' (ch := fp) I6.os I6.base I6.hok I6.bare fun b hb => by
        obtain ⟨⟨_, f1, f2, f3, f4, f5⟩, _⟩ := off b hb
        exact ⟨f3, f1, f4, f5⟩
      have noL : H5 s3.heap.objs.size = none := by rw [← loc]; exact I6.free
      obtain ⟨mm, names, _⟩ := I6.loc
      have names' : s6.heap.Ns s3.heap.objs.size mm := by rw [← loc]; exact names
      obtain ⟨f0, f1, f2, f3, f4, f5⟩ := I3.fpOk (Nat.le_refl _) noL
      exact ⟨mm, names', fun h' same => ⟨.ref D, H5, back.turned (t' := s6.toks) (fun b o hb e => (same.2 b hb).trans e) f0 f1 f3 f4 f5, rfl, ended.2⟩⟩
    | inr goes =>
      obtain ⟨go, N, hN, step⟩ := goes
      refine thnF (T.item (X.blk s3 H3 scope ce fp) rfl rfl rfl calm i [] s5 _ H5 (fun _ _ => False) I5 (held I5 none5) st5 go) fun r s6 hr => ?_
      obtain ⟨u, rfl, h6⟩ := hr
      refine thnF h6 fun _ s7 h7 => ?_
      obtain ⟨x, H7, I7, r7, y7, st7, none7⟩ := h7
      refine thnF (pg.run _ s7 _ H7 x u _ (I7.pinned (held I7 none7) (T.obj _ _ st7)) r7 (step x H7 y7)) fun _ s8 h8 => ?_
      obtain ⟨σ8, H8, I8, wiped, q8⟩ := h8
      refine thnF (pt.run _ s8 σ8 H8 _ I8 q8) fun b s9 h9 => ?_
      obtain ⟨H9, I9, q9⟩ := h9
      have next : ∀ {s' : Shared} {H' : Hp}, Inv (X.blk s3 H3 scope ce fp) ([] ++ pinsAt fp s7.heap) σ8 H' s' → N H' → ∃ m', m' < m ∧ Known X (X.blk s3 H3 scope ce fp) (wipe σ (own.map (·.2))) fp tn W m' s' := by
        intro s' H' I' nx
        obtain ⟨m', lt, w'⟩ := hN H' nx
        have kept : ∀ b ∈ fp, ∀ o, s7.heap.get? b = some o → s'.heap.get? b = some o ∧ H' b = none := by
          intro b hb o e
          obtain ⟨z1, z2, _⟩ := I'.pin (b, o) (List.mem_append_right _ (List.mem_append_right _ (mem_pinsAt hb e)))
          exact ⟨z1, z2⟩
        have len : (wipe σ (own.map (·.2))).length = σ8.length := by rw [← wiped, wipe_length]
        refine ⟨m', lt, i + 1, H', (I'.unpinned (pins := [])).weak len (fun j v e => ?_), T.keep _ _ _ st7 fun b hb o e => (kept b hb o e).1, fun b hb => ?_, w'⟩
        · rw [← wiped] at e
          exact (wipe_some e).1
        · obtain ⟨o, e, _⟩ := T.obj _ _ st7 b hb
          exact (kept b hb o e).2
      cases b with
      | false =>
        rw [if_neg Bool.false_ne_true] at q9 ⊢
        exact next I9 q9
      | true =>
        rw [if_pos rfl] at q9 ⊢
        refine thnF (pe.run _ s9 σ8 H9 _ I9 q9) fun z s10 h10 => ?_
        obtain ⟨yv, H10, I10, r10, adds⟩ := h10
        refine thnF (mt_sadd (X := X.blk s3 H3 scope ce fp) _ s10 σ8 H10 (.ref D) [yv] (.ref D) [z] _ I10 rfl (.cons r10 .nil) adds) fun _ s11 h11 => ?_
        obtain ⟨_, H11, I11, _, nx⟩ := h11
        exact next I11 nx
  exact codeAny_compStart_set all (T.self X.A 0 _ _ _ st4 all)
theorem pe_setI {elt tg iter : Expr} {ifs : List Expr} {scope : Scope} {own : List (PySem.Str × Nat)} {pos : Pos} {wi : TI} {g : TG} {tt : TT} {te : TE} (calm : X.calm = true) (nod : X.N.Nodup) (walked : PI X tg iter wi) (blk : BlkOk X.N X.env.scope scope own)
    (target : ∀ (s : Shared) (H : Hp) (C : Addr) (cl : List (PySem.Str × Addr)) (fp : List Addr), PG (X.blk s H scope (compEnvC scope cl C X.env) fp) tg g)
    (tests : ∀ (s : Shared) (H : Hp) (C : Addr) (cl : List (PySem.Str × Addr)) (fp : List Addr), PTs (X.blk s H scope (compEnvC scope cl C X.env) fp) ifs tt)
    (item : ∀ (s : Shared) (H : Hp) (C : Addr) (cl : List (PySem.Str × Addr)) (fp : List Addr), PE (X.blk s H scope (compEnvC scope cl C X.env) fp) elt te) (plain : ∀ x, foldedSetIterable iter X.env x = pure x := by intro _; rfl) :
    PE X (.SetComp elt [⟨tg, iter, ifs, 0⟩] scope pos) (tSetI X.w wi g tt te (own.map (·.2))) := by
  refine ⟨fun pins s σ H Q I asked => ?_⟩
  rw [eval_SetComp]
  have caught : ∀ y ∈ scope.names, y.2 = .free → ∃ c, X.env.cells.lookup y.1 = some c := by
    intro y hy e
    cases blk.free y hy e with
    | inl k => exact I.ok.has _ (.inl k)
    | inr k => exact I.ok.has _ (.inr k)
  refine wpAny_comprehension_free (use := none) rfl plain (closure_ok caught) blk.kind (fun y hy e => by rw [blk.uniq y hy, e]) ?_
  refine thn (walked.run pins s σ H _ I asked) fun _ _ h1 => thn h1 fun _ s2 h2 => ?_
  obtain ⟨it, fp, tn, J, H2, rfl, I2, T, st2, off2, fill⟩ := h2
  refine newSet_ok (newEnv_comp ?_)
  have free0 : H2 s2.heap.objs.size = none := I2.hok.fresh (Nat.le_refl _)
  obtain ⟨W, ⟨m0, w0⟩, turn⟩ := fill s2.heap.objs.size free0
  have I3 : Inv X pins σ (upd H2 s2.heap.objs.size (SetO X.w s2.heap.objs.size (fun _ => false) 0)) { s2 with heap := s2.heap.push (bareSet X.w) } :=
    I2.laid (t' := s2.toks) (fun _ _ e => Heap.get?_push_of_some _ e) (Nat.le_refl _) (setO_new (bare_ok X.w s2.heap))
  have below : ∀ b ∈ fp, b < s2.heap.objs.size := by
    intro b hb
    obtain ⟨o, e, _⟩ := T.obj _ _ st2 b hb
    exact Heap.lt_size e
  have off3 : ∀ b ∈ fp, FpOk X pins (upd H2 s2.heap.objs.size (SetO X.w s2.heap.objs.size (fun _ => false) 0)) b ∧ b < (s2.heap.push (bareSet X.w)).objs.size := by
    intro b hb
    refine ⟨⟨?_, (off2 b hb).2⟩, by rw [Heap.size_push]; exact Nat.lt_succ_of_lt (below b hb)⟩
    rw [upd_ne (Nat.ne_of_lt (below b hb))]
    exact (off2 b hb).1
  exact fill_set calm nod blk target tests item T I3 off3 (T.keep _ _ _ st2 fun _ _ _ e => Heap.get?_push_of_some _ e) w0 turn
end
end WS
set_option Elab.async false
set_option linter.all false
set_option maxRecDepth 100000
set_option maxHeartbeats 2000000
/-! t[::-1]; tuple * int for 0 and 1. -/
namespace WR
open PySem PySem.Spec PyProof.Rows L2
section
variable {prog : Program} {w : World} {A : Around} {E : Value → Shared → Prop} {s : Shared}
theorem adjust_back (n : Nat) : Builtin.Slice.sliceAdjust none none (-1) (n : Int) = ((n : Int) - 1, -1) := by
  unfold Builtin.Slice.sliceAdjust
  simp
theorem places_back (n : Nat) : Builtin.Slice.slicePlaces ((n : Int) - 1) (-1) (-1) = n := by
  unfold Builtin.Slice.slicePlaces
  have h1 : ¬ ((-1 : Int) > 0) := by omega
  simp only [h1, if_false]
  rw [show (- -1 : Int) = 1 by decide, Int.ediv_one]
  split <;> omega
theorem fm_congr {α β : Type} {f g : α → Option β} : ∀ {l : List α}, (∀ m ∈ l, f m = g m) → l.filterMap f = l.filterMap g
  | [], _ => rfl
  | a :: t, h => by
    rw [List.filterMap_cons, List.filterMap_cons, h a List.mem_cons_self, fm_congr fun m hm => h m (List.mem_cons_of_mem _ hm)]
theorem pick_back (xs : Array Value) : ((List.range xs.size).filterMap fun (m : Nat) => xs[((xs.size : Int) - 1 + (m : Int) * (-1)).toNat]?).toArray = xs.toList.reverse.toArray := by
  have e : (List.range xs.size).filterMap (fun (m : Nat) => xs[((xs.size : Int) - 1 + (m : Int) * (-1)).toNat]?) = ((List.range xs.size).map fun k => xs.size - 1 - k).filterMap (xs[·]?) := by
    rw [List.filterMap_map]
    refine fm_congr fun m hm => ?_
    have hm2 := List.mem_range.mp hm
    have : ((xs.size : Int) - 1 + (m : Int) * (-1)).toNat = xs.size - 1 - m := by omega
    rw [this]
    rfl
  rw [e, PySem.W.krv_range, List.filterMap_reverse, PySem.W.krv_all]
theorem sliceApplied_back {sl : Addr} {vl vu vs : Value} {n : Nat} {Q : Int × Int × Nat → Shared → Prop} (hs : s.heap.IsSliceOf sl vl vu vs) (pl : IsPart vl none) (pu : IsPart vu none) (ps : IsPart vs (some (-1)))
    (h : Q ((n : Int) - 1, -1, n) s) : wpAny (model prog w) A (Builtin.Slice.sliceApplied (.ref sl) (pure (n : Int))) Q E s := by
  obtain ⟨os, hos, hcs, hds⟩ := id hs
  unfold Builtin.Slice.sliceApplied Builtin.Slice.sliceFields
  refine wpAny_bind (wpAny_bind (wpAny_field hos hds (x := vl) rfl (wpAny_bind (wpAny_field hos hds (x := vu) rfl (wpAny_bind (wpAny_field hos hds (x := vs) rfl (wpAny_pure ?_)))))))
  refine wpAny_bind (HT.slicePart_ ps ?_)
  show wpAny _ _ (if ((-1 : Int) == 0) = true then _ else _) _ _ s
  rw [if_neg (by decide)]
  refine wpAny_bind (HT.slicePart_ pl (wpAny_bind (HT.slicePart_ pu (wpAny_bind (wpAny_pure ?_)))))
  show wpAny _ _ (match Builtin.Slice.sliceAdjust none none (-1) (n : Int) with | (lo, hi) => pure (lo, (-1 : Int), Builtin.Slice.slicePlaces lo hi (-1))) _ _ s
  rw [adjust_back n]
  show wpAny _ _ (pure ((n : Int) - 1, (-1 : Int), Builtin.Slice.slicePlaces ((n : Int) - 1) (-1) (-1))) _ _ s
  rw [places_back]
  exact wpAny_pure h
theorem getItem_tuple_back {t sl : Addr} {items : Array Value} {vl vu vs : Value} {Q : Value → Shared → Prop} (ht : IsTup s.heap t items) (hs : s.heap.IsSliceOf sl vl vu vs) (pl : IsPart vl none) (pu : IsPart vu none) (ps : IsPart vs (some (-1)))
    (h : Q (.ref s.heap.objs.size) { s with heap := s.heap.push { cls := .type "tuple", data := .seq items.toList.reverse.toArray } })
    (hsz : items.size ≤ sizeLine) : wpAny (model prog w) A (getItem (.ref t) (.ref sl)) Q E s := by
  have htake : sizeOk (.seq items.toList.reverse.toArray) := by
    show items.toList.reverse.toArray.size ≤ sizeLine
    rw [List.size_toArray, List.length_reverse, Array.length_toList]
    exact hsz
  obtain ⟨os, hos, hcs, hds⟩ := id hs
  have hTs : s.TypeIs (.ref sl) "slice" := ⟨os, hos, hcs⟩
  unfold getItem
  try with_reducible refine wpAny_holding ?_
  first | refine wpAny_bind (wpAny_pure ?_) | skip
  refine wpAny_bind (wpAny_sequenceKey ht.typeIs (by decide) ?_)
  refine wpAny_bind (wpAny_callSpecial?_slot (name := Str.ofString "__getitem__") ht.typeIs PyProof.Rows.slot_tuple_getitem
    (wpAny_call_entry PyProof.Rows.slot_tuple_getitem ht.typeIs entry_tuple_getitem ?_ (args_tuple_getitem _ _)))
  show wpAny _ _ (Builtin.Tuple.tupleItemsOf (.ref t) >>= _) _ _ s
  refine wpAny_bind (tupleItemsOf_ ht ?_)
  refine wpAny_bind (wpAny_typeOf hTs ?_)
  rw [if_pos (by decide)]
  refine wpAny_bind (sliceApplied_back hs pl pu ps ?_)
  have hno : ¬ ((((items.size : Int) - 1) == 0 && (-1 : Int) == 1 && items.size == items.size) = true) := by
    intro q
    rw [Bool.and_eq_true, Bool.and_eq_true] at q
    exact absurd q.1.2 (by decide)
  show wpAny _ _ (if (((items.size : Int) - 1) == 0 && (-1 : Int) == 1 && items.size == items.size) = true then _ else _) _ _ s
  rw [if_neg hno, pick_back]
  first
    | exact wpAny_bind (m := Builtin.Tuple.tupleExact _) (wpAny_newObj_type (wpAny_pure ⟨_, rfl, wpAny_pure h⟩) htake)
    | exact wpAny_bind (m := Builtin.Tuple.tupleExact _) (wpAny_newObj_type (wpAny_bind (wpAny_pure (wpAny_pure ⟨_, rfl, wpAny_pure h⟩))) htake)
end
section
variable {X : Cx}
def tRevT (K : PySem.W.Frag) (te : TE) : TE := fun σ H Q => te σ H fun x H1 => ∃ a xs, x = .ref a ∧ SqT K H1 a xs ∧ ∀ p, H1 p = none → Q (.ref p) (upd H1 p (.tup xs.reverse))
theorem pe_revT {e : Expr} {te : TE} {k : Nat} {p1 p2 p3 pos : Pos} (he : PE X e te) : PE X (.Subscript e (.Slice none none (some (.UnaryOp .USub (.Constant (.int 1) k p1) p2)) p3) pos) (tRevT X.K te) := by
  refine ⟨fun pins s σ H Q I h => ?_⟩
  refine Subscript_ (thn (he.run pins s σ H _ I h) fun v s1 ⟨x, H1, I1, r1, q1⟩ => ?_)
  obtain ⟨a, xs, ex, hx, q⟩ := q1
  subst ex
  cases r1
  have hst : PO X (some (.UnaryOp .USub (.Constant (.int 1) k p1) p2)) (tPart (tUn (rU fun i => .int (-i)) (tC (.int 1)))) := po_some (pe_un un_neg pe_int)
  refine wpAny_Slice (thn (po_none.run pins s1 σ H1 (fun o H2 => o = none ∧ H2 = H1) I1 ⟨rfl, rfl⟩) fun vl s2 ⟨l, H2, I2, pl, el, e2⟩ => ?_)
  subst el e2
  refine thn (po_none.run pins s2 σ H2 (fun o H3 => o = none ∧ H3 = H2) I2 ⟨rfl, rfl⟩) fun vu s3 ⟨u, H3, I3, pu, eu, e3⟩ => ?_
  subst eu e3
  refine thn (hst.run pins s3 σ H3 (fun o H4 => o = some (-1) ∧ H4 = H3) I3 ⟨1, rfl, -1, rfl, rfl, rfl⟩) fun vs s4 ⟨o, H4, I4, ps, eo, e4⟩ => ?_
  subst eo e4
  have I5 : Inv X pins σ H4 { s4 with heap := s4.heap.push { cls := .type "slice", data := .fields #[vl, vu, vs] } } := I4.kept (t' := s4.toks) fun b ob q => Heap.get?_push_of_some _ q
  obtain ⟨its, r, ht, hz⟩ := I5.tuple hx
  have hlen := r.length
  show wpAny (model X.prog X.w) X.A (subscriptTail e (.Slice none none (some (.UnaryOp .USub (.Constant (.int 1) k p1) p2)) p3) (.ref a) (.ref s4.heap.objs.size)) (EP X pins σ Q) X.xe { s4 with heap := s4.heap.push { cls := .type "slice", data := .fields #[vl, vu, vs] } }
  refine tail_any (ops := [.ref a, .ref s4.heap.objs.size]) ht.typeIs (PyProof.Rows.slot_tuple_getitem.lookup) ?_ (by with_unfolding_all rfl)
  refine getItem_tuple_back ht (Heap.IsSliceOf.new _ vl vu vs) pl pu ps ?_ (by rw [List.size_toArray]; omega)
  refine ⟨.ref _, _, I5.laid (t' := s4.toks) (o := .tup xs.reverse) (fun b ob q => Heap.get?_push_of_some _ q) (Nat.le_refl _) ?_, rfl, q _ (I5.hok.fresh (Nat.le_refl _))⟩
  exact ⟨by rw [List.length_reverse]; exact hz, _, r.reverse, IsTup.new _ _⟩
end

theorem tuple_mulS (l : Addr) (items : Array Value) (n : Nat) (dd : Option Addr) (sl : Array (Option Value)) (x : Int) (u : Tok) (c0 : (decide (x < -(2 ^ 63)) || decide (x ≥ 2 ^ 63)) = false) (c1 : (items.isEmpty || x == 1) = true) :
    Meets (Builtin.«tuple.__mul__» ⟨[.ref l, .int x u], []⟩) (fun _ R s => s.heap.get? l = some { cls := .type "tuple", dict := dd, data := .seq items n, slots := sl } ∧
      R (.ok (.ret (Value.ref l))) { s with heap := s.heap, toks := s.toks }) :=
  .of_wp fun prog w A R s h => by
    obtain ⟨hp, g, d, tk, os⟩ := s
    obtain ⟨hl, h⟩ := h
    have f1 := AutoSeq1.idx_int
    wp_walk using wpAny_loadPart' hl
    repeat (first
      | (refine wpAny_ite_false (decide_eq_false (by rw [c0]; exact Bool.false_ne_true)) ?_; wp_walk using wpAny_loadPart' hl)
      | (refine wpAny_ite_true (decide_eq_true c1) ?_; wp_walk using wpAny_loadPart' hl)
      | (refine wpAny_ite_true c1 ?_; wp_walk using wpAny_loadPart' hl))
    exact ⟨_, rfl, h⟩
theorem tuple_mul0 (l : Addr) (items : Array Value) (n : Nat) (dd : Option Addr) (sl : Array (Option Value)) (x : Int) (u : Tok) (c0 : (decide (x < -(2 ^ 63)) || decide (x ≥ 2 ^ 63)) = false) (c1 : (items.isEmpty || x == 1) = false) (c2 : (decide (x ≤ 0) || items.isEmpty) = true) :
    Meets (Builtin.«tuple.__mul__» ⟨[.ref l, .int x u], []⟩) (fun _ R s => s.heap.get? l = some { cls := .type "tuple", dict := dd, data := .seq items n, slots := sl } ∧
      R (.ok (.ret (Value.ref s.heap.objs.size))) { s with heap := s.heap.push { cls := Value.type "tuple", data := Data.seq #[] }, toks := s.toks }) :=
  .of_wp fun prog w A R s h => by
    obtain ⟨hp, g, d, tk, os⟩ := s
    obtain ⟨hl, h⟩ := h
    have f1 := AutoSeq1.idx_int
    wp_walk using wpAny_loadPart' hl
    repeat (first
      | (refine wpAny_ite_false (decide_eq_false (by rw [c0]; exact Bool.false_ne_true)) ?_; wp_walk using wpAny_loadPart' hl)
      | (refine wpAny_ite_false (decide_eq_false (by rw [c1]; exact Bool.false_ne_true)) ?_; wp_walk using wpAny_loadPart' hl)
      | (refine wpAny_ite_true (decide_eq_true c2) ?_; wp_walk using wpAny_loadPart' hl))
    exact ⟨_, rfl, h⟩
/-- some tuple of these values, all else as it stood -/
def NewT (K : PySem.W.Frag) (H : Hp) (Q : VK) (xs : List V) : Prop := ∀ p H', Same H H' → SqT K H' p xs → Q (.ref p) H'
theorem same_upd {H : Hp} {p : Addr} {o : HO} (hp : H p = none) : Same H (upd H p o) := fun b u e => by
  rw [upd_ne (ne_of_none e hp)]
  exact e
theorem Same.seqT {K : PySem.W.Frag} {H H' : Hp} {a : Addr} {xs : List V} (e : Same H H') (h : SqT K H a xs) : SqT K H' a xs := by
  rcases h with h | h
  · left
    rcases h with h | ⟨o, h⟩
    · exact .inl (e _ _ h)
    · exact .inr ⟨o, e _ _ h⟩
  · exact .inr h
theorem NewT.self {K : PySem.W.Frag} {H : Hp} {Q : VK} {xs : List V} {a : Addr} (k : NewT K H Q xs) (h : SqT K H a xs) : Q (.ref a) H := k a H (Same.refl H) h
theorem NewT.new {K : PySem.W.Frag} {H : Hp} {Q : VK} {xs : List V} (k : NewT K H Q xs) {p : Addr} (hp : H p = none) : Q (.ref p) (upd H p (.tup xs)) := k p _ (same_upd hp) (SqT.of upd_same)
section
variable {X : Cx}
def rSlU (K : PySem.W.Frag) : V → Option Int → Option Int → Hp → VK → Prop := fun x lo hi H Q => ∃ a xs, x = .ref a ∧ SqT K H a xs ∧ NewT K H Q (cutV xs lo hi)
theorem sl_tupU : SlR X (rSlU X.K) := by
  intro pins s σ H x v vl vu lo hi sl Q I rx hs pl pu h
  obtain ⟨a, xs, rfl, hx, k⟩ := h
  refine sl_tupA pins s σ H _ v vl vu lo hi sl Q I rx hs pl pu ⟨a, xs, rfl, hx, fun e => ?_, fun _ p hp => k.new hp⟩
  refine k.self ?_
  have : cutV xs lo hi = xs := by
    unfold cutV
    rw [e.1, e.2, List.drop_zero, Nat.sub_zero, List.take_of_length_le (Nat.le_refl _)]
  rw [this]
  exact hx
def rCatU (K : PySem.W.Frag) : R2 := fun x y H Q => ∃ a b xs ys, x = .ref a ∧ y = .ref b ∧ SqT K H a xs ∧ SqT K H b ys ∧ xs.length + ys.length ≤ sizeLine ∧ NewT K H Q (xs ++ ys)
theorem op_catU : OpR X (binaryOp .Add) (rCatU X.K) := by
  intro pins s σ H x y v u Q I rx ry h
  obtain ⟨a, b, xs, ys, rfl, rfl, ha, hb, hz, k⟩ := h
  by_cases hx : xs = []
  · subst hx
    cases rx
    cases ry
    obtain ⟨its, r1, p1, _⟩ := I.tuple ha
    obtain ⟨its2, r2, p2, _⟩ := I.tuple hb
    cases r1
    obtain ⟨⟨cls, dd, data, sl⟩, ho, hc, n, hd⟩ := id p1
    obtain ⟨⟨cls2, dd2, data2, sl2⟩, ho2, hc2, n2, hd2⟩ := id p2
    simp only at hc hd hc2 hd2
    subst hc hd hc2 hd2
    exact concat_meets ⟨_, ho, rfl⟩ ⟨_, ho2, rfl⟩ noFill_tuple_add seq_tuple_add PySem.F.slot_tuple_add PySem.F.entry_tuple_add (PySem.F.args_tuple_add_2 _ _)
      (tuple_addW0 a b _ its2.toArray n n2 dd dd2 sl sl2 (by simp)) ⟨ho, ho2, ⟨.ref b, H, I, rfl, k.self hb⟩⟩
  · refine op_catT pins s σ H _ _ v u Q I rx ry ⟨a, b, xs, ys, rfl, rfl, ha, hb, hx, hz, fun e => ?_, fun _ p hp => k.new hp⟩
    subst e
    rw [List.append_nil] at k
    exact k.self ha
def rRepU (K : PySem.W.Frag) : R2 := fun x y H Q => ∃ l k xs, x = .ref l ∧ y = .int k ∧ SqT K H l xs ∧ 0 ≤ k ∧ k ≤ 1000 ∧ xs.length ≤ 1000 ∧ NewT K H Q (List.replicate k.toNat xs).flatten
theorem op_repU : OpR X (binaryOp .Mult) (rRepU X.K) := by
  intro pins s σ H x y v u Q I rx ry h
  obtain ⟨l, k, xs, rfl, rfl, hT, h1, h2, hz, kq⟩ := h
  by_cases hne : xs ≠ [] ∧ 2 ≤ k
  · exact op_repT pins s σ H _ _ v u Q I rx ry ⟨l, k, xs, rfl, rfl, hT, hne.1, hne.2, h2, hz, fun p hp => kq.new hp⟩
  cases rx
  obtain ⟨t, rfl⟩ := ry
  obtain ⟨its, r, ⟨⟨cls, dd, data, sl⟩, ho, hc, n, hd⟩, hs⟩ := I.tuple hT
  simp only at hc hd
  subst hc hd
  have c0 : (decide (k < -(2 ^ 63)) || decide (k ≥ 2 ^ 63)) = false := by
    rw [decide_eq_false (by omega), decide_eq_false (by omega)] <;> rfl
  by_cases hs1 : (its.toArray.isEmpty || k == 1) = true
  · refine wpAny_binaryOp_repeat_ref (T := "tuple") (U := "int") (by decide) ⟨_, ho, rfl⟩ (fun s' => typeIs_int s' k t) noFill_tuple_mul F.fills_int_mul F.slot_int_rmul repeat_tuple F.slot_int_index.lookup
      (call_meets F.slot_int_rmul (typeIs_int s k t) F.entry_int_rmul (F.args_int_rmul_2 _ _) (int_rmul_tuple k t l its.toArray n dd sl)
        ⟨ho, rfl, ⟨_, ho, rfl⟩, call_meets F.slot_tuple_mul ⟨_, ho, rfl⟩ F.entry_tuple_mul (F.args_tuple_mul_2 _ _) (tuple_mulS l its.toArray n dd sl k t c0 hs1) ⟨ho, ?_⟩⟩)
    refine ⟨.ref l, H, I, rfl, kq.self ?_⟩
    rw [Bool.or_eq_true] at hs1
    rcases hs1 with e | e
    · have ei : its = [] := by simpa using e
      have ex : xs = [] := by
        have := r.length
        rw [ei] at this
        exact List.eq_nil_of_length_eq_zero this
      subst ex
      have : (List.replicate k.toNat ([] : List V)).flatten = [] := by simp
      rw [this]
      exact hT
    · have : k = 1 := eq_of_beq e
      subst this
      have : (List.replicate (1 : Int).toNat xs).flatten = xs := by simp
      rw [this]
      exact hT
  · have hs1' : (its.toArray.isEmpty || k == 1) = false := by
      cases e : (its.toArray.isEmpty || k == 1) with
      | false => rfl
      | true => exact absurd e hs1
    have hxs : xs ≠ [] := fun e => by
      subst e
      cases r
      exact hs1 rfl
    have k1 : k ≠ 1 := fun e => by
      rw [e] at hs1'
      simp at hs1'
    have k0 : k = 0 := by
      have : ¬ 2 ≤ k := fun e => hne ⟨hxs, e⟩
      omega
    subst k0
    refine wpAny_binaryOp_repeat_ref (T := "tuple") (U := "int") (by decide) ⟨_, ho, rfl⟩ (fun s' => typeIs_int s' 0 t) noFill_tuple_mul F.fills_int_mul F.slot_int_rmul repeat_tuple F.slot_int_index.lookup
      (call_meets F.slot_int_rmul (typeIs_int s 0 t) F.entry_int_rmul (F.args_int_rmul_2 _ _) (int_rmul_tuple 0 t l its.toArray n dd sl)
        ⟨ho, rfl, ⟨_, ho, rfl⟩, call_meets F.slot_tuple_mul ⟨_, ho, rfl⟩ F.entry_tuple_mul (F.args_tuple_mul_2 _ _) (tuple_mul0 l its.toArray n dd sl 0 t c0 hs1' rfl) ⟨ho, ?_⟩⟩)
    refine ⟨.ref s.heap.objs.size, _, I.laid (t' := s.toks) (o := .tup []) (fun b ob q => Heap.get?_push_of_some _ q) (Nat.le_refl _) ?_, rfl, kq.new (xs := []) (I.hok.fresh (Nat.le_refl _))⟩
    exact ⟨Nat.zero_le _, [], .nil, IsTup.new _ _⟩
end
end WR
set_option Elab.async false
set_option linter.all false
set_option maxRecDepth 100000
set_option maxHeartbeats 1000000
/-! Tuples that have no dict of their own: a method of theirs can be called (t.count(x)). tuple(..), slices, + and * make such. -/
namespace WB
open PySem PySem.Spec PyProof PyProof.Rows L2 WR
/-- no dict of its own -/
def Bare (H : Hp) (a : Addr) : Prop := ∃ (o : Obj) (u : HO), H a = some (.frz o u) ∧ o.dict = none
structure SqB (K : PySem.W.Frag) (H : Hp) (a : Addr) (xs : List V) : Prop where
  sq : SqT K H a xs
  bare : Bare H a
instance {K : PySem.W.Frag} {H : Hp} {a : Addr} {xs : List V} : Coe (SqB K H a xs) (SqT K H a xs) := ⟨SqB.sq⟩
theorem SqB.same {K : PySem.W.Frag} {H H' : Hp} {a : Addr} {xs : List V} (s : Same H H') (h : SqB K H a xs) : SqB K H' a xs := by
  obtain ⟨h1, h2⟩ := h
  refine ⟨WR.Same.seqT s h1, ?_⟩
  obtain ⟨o, u, e, d⟩ := h2
  exact ⟨o, u, s _ _ e, d⟩
/-- some such tuple of these values, all else as it stood -/
def NewB (K : PySem.W.Frag) (H : Hp) (Q : VK) (xs : List V) : Prop := ∀ p H', Same H H' → SqB K H' p xs → Q (.ref p) H'
theorem NewB.self {K : PySem.W.Frag} {H : Hp} {Q : VK} {xs : List V} {a : Addr} (k : NewB K H Q xs) (h : SqB K H a xs) : Q (.ref a) H := k a H (Same.refl H) h
theorem NewB.new {K : PySem.W.Frag} {H : Hp} {Q : VK} {xs : List V} (k : NewB K H Q xs) {p : Addr} (hp : H p = none) {o : Obj} (d : o.dict = none) : Q (.ref p) (upd H p (.frz o (.tup xs))) :=
  k p _ (same_upd hp) ⟨.inl (.inr ⟨o, upd_same⟩), ⟨o, _, upd_same, d⟩⟩
section
variable {X : Cx} {pins : List (Addr × Obj)} {σ : L2.St} {H : Hp} {s : Shared} {Q : VK} {xs : List V} {its : List Value}
/-- a new tuple of these -/
theorem born (I : Inv X pins σ H s) {h1 : Heap} (kp : ∀ b o, s.heap.get? b = some o → h1.get? b = some o) (r : Vals xs its) (hz : xs.length ≤ sizeLine) (k : NewB X.K H Q xs) :
    ∃ (v : V) (H2 : Hp), Inv X pins σ H2 { s with heap := h1.push { cls := .type "tuple", data := .seq its.toArray } } ∧ RelV v (.ref h1.objs.size) ∧ Q v H2 := by
  have J : Inv X pins σ H { s with heap := h1 } := I.kept (t' := s.toks) kp
  have hn := J.hok.fresh (Nat.le_refl h1.objs.size)
  have new : (h1.push { cls := .type "tuple", data := .seq its.toArray }).get? h1.objs.size = some { cls := .type "tuple", data := .seq its.toArray } := Heap.get?_push_size _ rfl
  exact ⟨.ref _, _, J.laid (t' := s.toks) (o := .frz { cls := .type "tuple", data := .seq its.toArray } (.tup xs)) (fun _ _ e => Heap.get?_push_of_some _ e) (Nat.le_refl _) ⟨new, hz, its, r, IsTup.new _ _⟩, rfl, k.new hn rfl⟩
theorem call_tupB : CallR X (.type "tuple") (fun xs H Q => ∃ p ys, xs = [.ref p] ∧ ((SqL X.K H p ys ∧ NewB X.K H Q ys) ∨ (SqB X.K H p ys ∧ Q (.ref p) H))) := by
  intro pins s σ H vs us Q I r h
  obtain ⟨p, ys, rfl, h⟩ := h
  obtain ⟨u, rfl, rx⟩ := vals1 r
  cases rx
  rcases h with ⟨hq, q⟩ | ⟨hq, q⟩
  · obtain ⟨its, rv, pl, hz⟩ := I.list hq
    exact call_tuple_list pl.isList (fun h1 kp => born I kp rv hz q) (by rw [List.size_toArray, ← rv.length]; exact hz)
  · obtain ⟨its, rv, pl, _⟩ := I.tuple hq.sq
    exact call_tuple_same pl ⟨.ref p, H, I, rfl, q⟩
/-- a display -/
theorem pe_tupB {es : List Expr} {t : TA} {pos : Pos} {x1} (h : PA X es t) : PE X (.Tuple es x1 pos) (fun σ H Q => t σ H fun xs H1 => xs.length ≤ sizeLine ∧ NewB X.K H1 Q xs) := by
  constructor
  intro pins s σ H Q I hq
  refine wpAny_Tuple_spliced (thn (h.run pos pins s σ H _ I hq) fun us s1 z => ?_)
  obtain ⟨xs, H1, I1, r, z, q⟩ := z
  exact ⟨by rw [← r.length]; exact z, born I1 (fun _ _ e => e) r z q⟩
def rSlB (K : PySem.W.Frag) : V → Option Int → Option Int → Hp → VK → Prop := fun x lo hi H Q => ∃ a xs, x = .ref a ∧ SqB K H a xs ∧ NewB K H Q (cutV xs lo hi)
theorem sl_tupB : SlR X (rSlB X.K) := by
  intro pins s σ H x v vl vu lo hi sl Q I rx hs pl pu h
  obtain ⟨a, xs, rfl, hx, k⟩ := h
  cases rx
  obtain ⟨its, r, ht, hz⟩ := I.tuple hx.sq
  have hlen : its.toArray.size = xs.length := List.size_toArray.trans r.length.symm
  refine ⟨"tuple", _, PyProof.Rows.slot_tuple_getitem.lookup, ht.typeIs, ?_⟩
  by_cases hw : HT.sIx xs.length 0 lo = 0 ∧ HT.sIx xs.length xs.length hi = xs.length
  · have e : cutV xs lo hi = xs := by
      unfold cutV
      rw [hw.1, hw.2, List.drop_zero, Nat.sub_zero, List.take_of_length_le (Nat.le_refl _)]
    rw [e] at k
    exact getItem_tuple_whole ht hs pl pu (hlen.symm ▸ hw) ⟨.ref a, H, I, rfl, k.self hx⟩
  · refine HT.getItem_tuple_cut ht hs pl pu (hlen.symm ▸ hw) ?_ (hlen.symm ▸ hz)
    rw [hlen]
    exact born I (fun _ _ e => e) ((r.drop _).take _) (Nat.le_trans (cutV_length xs lo hi) hz) k
def rCatB (K : PySem.W.Frag) : R2 := fun x y H Q => ∃ a b xs ys, x = .ref a ∧ y = .ref b ∧ SqB K H a xs ∧ SqB K H b ys ∧ xs.length + ys.length ≤ sizeLine ∧ NewB K H Q (xs ++ ys)
theorem op_catB : OpR X (binaryOp .Add) (rCatB X.K) := by
  intro pins s σ H x y v u Q I rx ry h
  obtain ⟨a, b, xs, ys, rfl, rfl, ha, hb, hz, k⟩ := h
  by_cases hx : xs = []
  · subst hx
    exact op_catA pins s σ H _ _ v u Q I rx ry ⟨a, b, [], ys, rfl, rfl, ha.sq, hb.sq, hz, fun _ => k.self hb, fun z => absurd rfl z, fun z => absurd rfl z⟩
  cases rx
  cases ry
  obtain ⟨its, r1, p1, _⟩ := I.tuple ha.sq
  obtain ⟨its2, r2, p2, _⟩ := I.tuple hb.sq
  refine HT.cat_tup p1 p2 (fun z => hx (r1.nil_iff.mp z)) (fun z => ?_) (fun z => ?_) (r1.length ▸ r2.length ▸ hz)
  · have e := r2.nil_iff.mp z
    subst e
    rw [List.append_nil] at k
    exact ⟨.ref a, H, I, rfl, k.self ha⟩
  · exact born I (fun _ _ e => e) (r1.append r2) (by rw [List.length_append]; exact hz) k
def rRepB (K : PySem.W.Frag) : R2 := fun x y H Q => ∃ l k xs, x = .ref l ∧ y = .int k ∧ SqB K H l xs ∧ 0 ≤ k ∧ k ≤ 1000 ∧ xs.length ≤ 1000 ∧ NewB K H Q (List.replicate k.toNat xs).flatten
theorem op_repB : OpR X (binaryOp .Mult) (rRepB X.K) := by
  intro pins s σ H x y v u Q I rx ry h
  obtain ⟨l, k, xs, rfl, rfl, hT, h1, h2, hz, kq⟩ := h
  cases rx
  obtain ⟨t, rfl⟩ := ry
  obtain ⟨its, r, ⟨⟨cls, dd, data, sl⟩, ho, hc, n, hd⟩, hs⟩ := I.tuple hT.sq
  simp only at hc hd
  subst hc hd
  have c0 : (decide (k < -(2 ^ 63)) || decide (k ≥ 2 ^ 63)) = false := by
    rw [decide_eq_false (by omega), decide_eq_false (by omega)] <;> rfl
  have hle : its.length = xs.length := r.length.symm
  have big : k.toNat * xs.length ≤ 1000 * 1000 := Nat.mul_le_mul (by omega) hz
  have flat : (List.replicate k.toNat xs).flatten.length ≤ sizeLine := by
    rw [PyProof.Rows.lm_len_rep_flat, sizeLine_eq]
    omega
  -- what the slot says is what the operator says
  have slot : ∀ {E : Value → Shared → Prop} {Qv : Value → Shared → Prop}, wpAny (model X.prog X.w) X.A (call (.builtin "tuple.__mul__") [.ref l, .int k t]) Qv E s → wpAny (model X.prog X.w) X.A (binaryOp .Mult (.ref l) (.int k t)) Qv E s := fun hh =>
    wpAny_binaryOp_repeat_ref (T := "tuple") (U := "int") (by decide) ⟨_, ho, rfl⟩ (fun s' => typeIs_int s' k t) noFill_tuple_mul F.fills_int_mul F.slot_int_rmul repeat_tuple F.slot_int_index.lookup
      (call_meets F.slot_int_rmul (typeIs_int s k t) F.entry_int_rmul (F.args_int_rmul_2 _ _) (int_rmul_tuple k t l its.toArray n dd sl) ⟨ho, rfl, ⟨_, ho, rfl⟩, hh⟩)
  refine slot ?_
  by_cases hs1 : (its.toArray.isEmpty || k == 1) = true
  · refine call_meets F.slot_tuple_mul ⟨_, ho, rfl⟩ F.entry_tuple_mul (F.args_tuple_mul_2 _ _) (tuple_mulS l its.toArray n dd sl k t c0 hs1) ⟨ho, ?_⟩
    have e : (List.replicate k.toNat xs).flatten = xs := by
      rcases Bool.or_eq_true_iff.mp hs1 with e | e
      · have e0 : xs = [] := List.eq_nil_of_length_eq_zero (by rw [← hle]; simpa using e)
        rw [e0]
        simp
      · rw [show k = 1 from eq_of_beq e]
        simp
    rw [e] at kq
    exact ⟨.ref l, H, I, rfl, kq.self hT⟩
  · have hs2 := Bool.eq_false_iff.mpr hs1
    obtain ⟨n1, n2⟩ := Bool.or_eq_false_iff.mp hs2
    by_cases k0 : k = 0
    · subst k0
      refine call_meets F.slot_tuple_mul ⟨_, ho, rfl⟩ F.entry_tuple_mul (F.args_tuple_mul_2 _ _) (tuple_mul0 l its.toArray n dd sl 0 t c0 hs2 rfl) ⟨ho, ?_⟩
      exact born (its := []) I (fun _ _ e => e) .nil (Nat.zero_le _) kq
    · have c2 : (decide (k ≤ 0) || its.toArray.isEmpty) = false := by rw [n1, Bool.or_false, decide_eq_false (by omega)]
      have hsz : its.toArray.size = xs.length := List.size_toArray.trans hle
      have c3 : ((its.toArray.size : Nat) : Int) * k ≤ 1000000 := by
        rw [hsz]
        have : ((xs.length : Nat) : Int) * k ≤ 1000 * 1000 := Int.mul_le_mul (by omega) h2 h1 (by omega)
        omega
      have c4 : Builtin.Tuple.tupleTooMany (((its.toArray.size : Nat) : Int) * k) = false := by
        unfold Builtin.Tuple.tupleTooMany
        rw [sizeLine_eq, decide_eq_false (by omega)]
      have many : (List.replicate k.toNat its).flatten.length ≤ sizeLine := by rw [PyProof.Rows.lm_len_rep_flat, hle, sizeLine_eq]; omega
      refine call_meets F.slot_tuple_mul ⟨_, ho, rfl⟩ F.entry_tuple_mul (F.args_tuple_mul_2 _ _) (tuple_mulW l its.toArray n dd sl k t c0 hs2 c2 (by omega) c4 (by rw [size_rep, List.size_toArray]; exact many)) ⟨ho, ?_⟩
      rw [size_rep]
      exact born I (fun _ _ e => e) (r.rep k.toNat) flat kq
end
end WB
set_option Elab.async false
set_option linter.all false
set_option maxRecDepth 100000
set_option maxHeartbeats 2000000
/-! Words: rows of letters. -/
namespace W03
open PySem L2 PySem.Spec PyProof.Rows WR WB
def top (i : Nat) : Stmt := PySem.Challenge.pw_handlerims_k03_texts_bent_at_any_item.main.body.getD i (.Pass ⟨0, 0, 0, 0⟩)
abbrev sShr : Stmt := top 10
abbrev sRnd : Stmt := top 11

theorem gen_heap {P : Hp → Prop} {H : Hp} (h : ∀ H3, H3 = H → P H3) : P H := h H rfl
theorem yes_te {σ : L2.St} {H : Hp} {A B : Hp → Prop} (h : A H) : tYes σ H (fun b H3 => if b = true then A H3 else B H3) := by
  show (if (true : Bool) = true then A H else B H)
  exact iteT h
/-! ### a def that the module's name x holds, with its promise -/
structure Cal (P : Program) (w : World) (K : PySem.W.Frag) (mg : Str → Option Value) (base : Heap) (x : Str) (k : Nat) (ps : List Str) (sp : Sp) : Prop where
  ex : ∃ (f : Addr) (fd : FuncData), FnOk P w K mg base CX0 k f fd ps sp ∧ mg x = some (.ref f) ∧ PySem.W.keepIn K (.ref f) = true ∧ Binds K fd ps []
section
variable {X : Cx} {x : Str} {k j : Nat} {ps : List Str} {sp : Sp} {p pos : Pos} {e : Expr} {es : List Expr} {t : TA}
theorem pe_cal (C : Cal X.prog X.w X.K X.mg X.base x k ps sp) (hr : Room j X.A) (hkj : k ≤ j) (hg : Gl X x) (ha : PA X (e :: es) t) (hdb : (x == ("__debug__" : Str)) = false := by decide)
    (he : starEach (e :: es) X.env = (false, eval e X.env) :: starEach es X.env := by rfl) (hpl : (backTo pos (starEach es X.env)).any (·.1) = false := by rfl) :
    PE X (.Call (.Name x p) (e :: es) [] pos) (tCall sp [] E0 t) := by
  obtain ⟨f, fd, F, hm, hk, hb⟩ := C.ex
  exact pe_call F (hr.mono hkj) hg hm hk hb .nil pass0 ha hdb he hpl
end
/-! ### comprehensions that change nothing -/
theorem lc_in {wi : TI} {g : TG} {tt : TT} {te : TE} {vs : List Nat} {σ : L2.St} {H : Hp} {Q : VK} (h : wi σ H fun J H1 => tLc (fun _ H R => R J H) g tt te vs σ H1 Q) : tLc wi g tt te vs σ H Q := h
theorem lcp {J : It} {xs : List V} {G : Hp → Prop} (w : Walk J xs.length G (YAt xs)) {g : TG} {tt : TT} {te : TE} {vs : List Nat} {σ : L2.St} {H1 : Hp} {Q : VK} (f : V → Bool) (v : V → V) (hz : xs.length < 40000) (hG : ∀ H, Same H1 H → G H)
    (hs : ∀ x, x ∈ xs → ∀ H, Same H1 H → ∀ (Qy : V → Hp → Prop) (Qn : Hp → Prop), (f x = true → ∀ H', Same H H' → Qy (v x) H') → (f x = false → ∀ H', Same H H' → Qn H') →
      g x (wipe σ vs) H fun σ2 H2 => wipe σ2 vs = wipe σ vs ∧ tt σ2 H2 fun b H3 => if b = true then te σ2 H3 Qy else Qn H3)
    (hd : ∀ (D : Addr) H', H1 D = none → Same H1 H' → H' D = some (.lst ((xs.filter f).map v)) → Q (.ref D) H') : tLc (fun _ H R => R J H) g tt te vs σ H1 Q := by
  intro D hD
  refine lc_it w (fun i H => Same H1 H ∧ H D = some (.lst (((xs.take i).filter f).map v))) ⟨fun b o e => by rw [upd_ne (ne_of_none e hD)]; exact e, upd_same⟩ (fun i H _ q => hG H q.1) ?_ ?_
  · rintro i x H H' hi q ⟨rfl, hx⟩
    have hm : x ∈ xs := List.mem_of_getElem? hx
    have et : xs.take (i + 1) = xs.take i ++ [x] := by
      have hx2 : xs[i] = x := (List.getElem?_eq_some_iff.mp hx).2
      rw [List.take_succ_eq_append_getElem hi, hx2]
    refine hs x hm H' q.1 _ _ (fun hf H2 s2 => ⟨_, s2 _ _ q.2, ?_, ?_, ?_⟩) (fun hf H2 s2 => ⟨fun b o e => s2 b o (q.1 b o e), ?_⟩)
    · refine Evl.sz_lt ?_
      rw [List.length_map]
      have := List.length_filter_le f (xs.take i)
      rw [List.length_take] at this
      omega
    · intro b o e
      rw [upd_ne (ne_of_none e hD)]
      exact s2 b o (q.1 b o e)
    · rw [upd_same, et, List.filter_append, List.map_append, List.filter_cons, if_pos hf]
      rfl
    · rw [et, List.filter_append, List.filter_cons, if_neg (by rw [hf]; decide)]
      show H2 D = some (.lst (((xs.take i).filter f ++ []).map v))
      rw [List.append_nil]
      exact s2 _ _ q.2
  · intro H q
    have q2 := q.2
    rw [List.take_length] at q2
    exact hd D H hD q.1 q2

theorem ret_cb {r : List V → Hp → VK → Prop} {te : TE} {D : Ends} {σ : L2.St} {H : Hp} (h : te σ H fun x H1 => r [x] H1 D.rt) : tRet (tCB r (tCons te tNil)) D σ H := h
theorem ret_e {te : TE} {D : Ends} {σ : L2.St} {H : Hp} (h : te σ H D.rt) : tRet te D σ H := h
theorem iteT' {c : Bool} {A B : Prop} (hc : c = true) (h : A) : if c = true then A else B := by rw [if_pos hc]; exact h
abbrev iv (ns : List Int) : List V := ns.map V.int
def SqE (K : PySem.W.Frag) (H : Hp) (a : Addr) (xs : List V) : Prop := SqL K H a xs ∨ SqT K H a xs
theorem SqE.same {K : PySem.W.Frag} {H H' : Hp} {a : Addr} {xs : List V} (h : SqE K H a xs) (s : Same H H') : SqE K H' a xs := by
  rcases h with h | h
  · exact .inl (s.seq h)
  · exact .inr (WR.Same.seqT s h)
def SqW (K : PySem.W.Frag) (H : Hp) (a : Addr) (xs : List V) : Prop := SqL K H a xs ∨ SqB K H a xs
theorem SqW.same {K : PySem.W.Frag} {H H' : Hp} {a : Addr} {xs : List V} (h : SqW K H a xs) (s : Same H H') : SqW K H' a xs := by
  rcases h with h | h
  · exact .inl (s.seq h)
  · exact .inr (SqB.same s h)
theorem SqW.e {K : PySem.W.Frag} {H : Hp} {a : Addr} {xs : List V} (h : SqW K H a xs) : SqE K H a xs := h.imp id SqB.sq
def spShr (K : PySem.W.Frag) : Sp := fun vs H Q _ => ∃ (a : Addr) (ns : List Int), vs = [.ref a] ∧ SqE K H a (iv ns) ∧ ns.length ≤ 1000 ∧ NewB K H Q (iv (Fr.shr ns))
def spRnd (K : PySem.W.Frag) : Sp := fun vs H Q _ => ∃ (a : Addr) (ns : List Int), vs = [.ref a] ∧ SqE K H a (iv ns) ∧ ns.length ≤ 1000 ∧ Fr.NZ ns ∧ NewB K H Q (iv (Fr.rnd ns))
structure TxA (mg : Str → Option Value) : Prop where
  tuple : mg "tuple" = none
  len : mg "len" = none
section
variable {P : Program} {w : World} {K : PySem.W.Frag} {mg : Str → Option Value} {base : Heap}
theorem scShr : FnScope ["letters", "left", "letter"] ["letters"] (defScope sShr) := ⟨rfl, rfl, rfl, by decide +kernel, rfl, by decide +kernel, by decide +kernel⟩
theorem act_take {ns : List Int} {i : Nat} {x : Int} (h : ns[i]? = some x) : Fr.act [] (ns.take (i + 1)) = Fr.push (Fr.act [] (ns.take i)) x := by
  have hi : i < ns.length := (List.getElem?_eq_some_iff.mp h).1
  have hx : ns[i] = x := (List.getElem?_eq_some_iff.mp h).2
  rw [List.take_succ_eq_append_getElem hi, hx, Fr.act_snoc]
theorem act_len : ∀ (ns s : List Int), (Fr.act s ns).length ≤ s.length + ns.length
  | [], s => by simp [Fr.act]
  | a :: t, s => by
    rw [Fr.act_cons]
    have h1 := act_len t (Fr.push s a)
    have h2 : (Fr.push s a).length ≤ s.length + 1 := by
      cases s with
      | nil => simp [Fr.push]
      | cons b u =>
        show (if b = -a then u else a :: b :: u).length ≤ _
        split <;> simp <;> omega
    simp only [List.length_cons]
    omega
theorem shr_len (ns : List Int) : (Fr.shr ns).length ≤ ns.length := by
  unfold Fr.shr
  rw [List.length_reverse]
  simpa using act_len ns []
theorem ok_shr {f : Addr} {fd : FuncData} (F : Fun K "shortened_letters" "shortened_letters" sShr f fd) (T : TxA mg) : FnOk P w K mg base CX0 1 f fd ["letters"] (spShr K) := by
  refine F.ok scShr (fun vs H Q E h => ?_) (fun cdv A outer s H vs Q E hr h => ?_)
  · obtain ⟨a, ns, rfl, _⟩ := h
    rfl
  · obtain ⟨a, ns, rfl, hS, hlen, k⟩ := h
    rcases hS with hS | hS
    · refine ⟨_, pss_cons (ps_set (i := 1) scShr.nd rfl (Or.inl rfl) (pe_lst pa_nil))
        (pss_cons (ps_for PassesOwn.never rfl (pi_list (pv 0)) (pg_name (i := 2) scShr.nd rfl (Or.inl rfl))
          (pss_one (ps_if (PW.pt (pw_and (pt_truth (pv 1) (by intro _; rfl)) (pw_and1 (pt_cmpR op_eq (pe_ix ix_list (pv 1) (pe_un un_neg pe_int) (fun _ _ => rfl)) (pe_un un_neg (pv 2)) (nomark _)))))
            (pss_one (ps_expr (pe_bm0 PySem.F.plainAttrs_list PySem.F.slot_list_pop PySem.F.type_list_pop mt_pop (pv 1))))
            (pss_one (ps_expr (pe_bm PySem.F.plainAttrs_list PySem.F.slot_list_append PySem.F.type_list_append mt_append (pv 1) (pa_cons (pv 2) pa_nil)))))))
        (pss_one (ps_ret (pe_callTy call_tupB (by rfl) T.tuple (by decide +kernel) (pa_cons (pv 1) pa_nil))))), ?_⟩
      refine ⟨Nat.zero_le _, fun l hl => ?_⟩
      refine ⟨_, rfl, a, rfl, ⟨_, (by have s := same_upd (o := HO.lst []) hl; exact (s.seq hS))⟩, for_list (K := K) (a := a) (xs := iv ns) (fun i σ H1 => ∃ v, σ = [some (.ref a), some (.ref l), v] ∧ Same H H1 ∧ H1 l = some (.lst (iv (Fr.act [] (ns.take i)).reverse)))
        ⟨none, rfl, same_upd hl, by rw [upd_same]; rfl⟩ (fun i σ H1 _ ⟨_, _, s, _⟩ => (s.seq hS)) ?_ ?_⟩
      · rintro i y σ H1 hi ⟨v, rfl, sm, hL⟩
        obtain ⟨x, hx, rfl⟩ : ∃ x, ns[i]? = some x ∧ y = V.int x := by
          rw [List.getElem?_map] at hi
          cases e : ns[i]? with
          | none => rw [e] at hi; cases hi
          | some x => rw [e] at hi; exact ⟨x, rfl, (Option.some.inj hi).symm⟩
        have hi2 : i < ns.length := (List.getElem?_eq_some_iff.mp hx).1
        have nx := act_take hx
        have hsz : (Fr.act [] (ns.take i)).length ≤ 1000 := by
          have := act_len (ns.take i) []
          rw [List.length_take] at this
          simp at this
          omega
        have put : ∀ xs, Same H (L2.upd H1 l (.lst xs)) := fun xs b o e => by
          rw [upd_ne (ne_of_none e hl)]
          exact sm b o e
        refine ⟨_, rfl, _, .inl ⟨_, SqL.of hL, rfl⟩, ?_⟩
        cases est : Fr.act [] (ns.take i) with
        | nil =>
          rw [est] at hL nx
          refine iteF ?_
          refine iteF ?_
          refine ⟨_, rfl, .inl ⟨rfl, _, SqL.of hL⟩, _, rfl, l, _, _, rfl, rfl, hL, Evl.sz_lt (by simp), ?_⟩
          refine ⟨_, rfl, put _, ?_⟩
          rw [upd_same, nx]
          rfl
        | cons b t =>
          rw [est] at hL nx hsz
          have eL : iv (b :: t).reverse = iv t.reverse ++ [V.int b] := by simp [iv]
          refine iteT' (by simp [iv]) ?_
          refine ⟨_, rfl, _, rfl, l, _, _, _, rfl, rfl, SqL.of hL, (by rw [eL]; exact atI_last _ _), _, rfl, x, rfl, rfl, _, rfl, ?_⟩
          refine ite2 (fun hb => ?_) (fun hb => ?_)
          · have eb : b = -x := by
              have := of_decide_eq_true hb
              injection this
            refine ⟨_, rfl, .inl ⟨rfl, _, SqL.of hL⟩, l, _, V.int b, rfl, rfl, hL, (by rw [eL]; simp), ?_⟩
            refine ⟨_, rfl, put _, ?_⟩
            rw [upd_same, nx]
            have : Fr.push (b :: t) x = t := by simp [Fr.push, eb]
            rw [this, eL, List.dropLast_concat]
          · have eb : ¬ b = -x := fun e => hb (decide_eq_true (by rw [e]))
            refine ⟨_, rfl, .inl ⟨rfl, _, SqL.of hL⟩, _, rfl, l, _, _, rfl, rfl, hL, Evl.sz_lt (by simp [iv] at hsz ⊢; omega), ?_⟩
            refine ⟨_, rfl, put _, ?_⟩
            rw [upd_same, nx]
            have : Fr.push (b :: t) x = x :: b :: t := by simp [Fr.push, eb]
            rw [this]
            simp [iv]
      · rintro σ H1 ⟨v, rfl, sm, hL⟩
        rw [List.take_of_length_le (by simp)] at hL
        exact ⟨_, rfl, l, _, rfl, .inl ⟨SqL.of hL, fun p H3 s3 b3 => k p H3 (sm.trans s3) b3⟩⟩
    · refine ⟨_, pss_cons (ps_set (i := 1) scShr.nd rfl (Or.inl rfl) (pe_lst pa_nil))
        (pss_cons (ps_for PassesOwn.never rfl (pi_tup (pv 0)) (pg_name (i := 2) scShr.nd rfl (Or.inl rfl))
          (pss_one (ps_if (PW.pt (pw_and (pt_truth (pv 1) (by intro _; rfl)) (pw_and1 (pt_cmpR op_eq (pe_ix ix_list (pv 1) (pe_un un_neg pe_int) (fun _ _ => rfl)) (pe_un un_neg (pv 2)) (nomark _)))))
            (pss_one (ps_expr (pe_bm0 PySem.F.plainAttrs_list PySem.F.slot_list_pop PySem.F.type_list_pop mt_pop (pv 1))))
            (pss_one (ps_expr (pe_bm PySem.F.plainAttrs_list PySem.F.slot_list_append PySem.F.type_list_append mt_append (pv 1) (pa_cons (pv 2) pa_nil)))))))
        (pss_one (ps_ret (pe_callTy call_tupB (by rfl) T.tuple (by decide +kernel) (pa_cons (pv 1) pa_nil))))), ?_⟩
      refine ⟨Nat.zero_le _, fun l hl => ?_⟩
      refine ⟨_, rfl, a, rfl, ⟨_, (by have s := same_upd (o := HO.lst []) hl; exact (WR.Same.seqT s hS))⟩, for_tup (K := K) (a := a) (xs := iv ns) (fun i σ H1 => ∃ v, σ = [some (.ref a), some (.ref l), v] ∧ Same H H1 ∧ H1 l = some (.lst (iv (Fr.act [] (ns.take i)).reverse)))
        ⟨none, rfl, same_upd hl, by rw [upd_same]; rfl⟩ (fun i σ H1 _ ⟨_, _, s, _⟩ => (WR.Same.seqT s hS)) ?_ ?_⟩
      · rintro i y σ H1 hi ⟨v, rfl, sm, hL⟩
        obtain ⟨x, hx, rfl⟩ : ∃ x, ns[i]? = some x ∧ y = V.int x := by
          rw [List.getElem?_map] at hi
          cases e : ns[i]? with
          | none => rw [e] at hi; cases hi
          | some x => rw [e] at hi; exact ⟨x, rfl, (Option.some.inj hi).symm⟩
        have hi2 : i < ns.length := (List.getElem?_eq_some_iff.mp hx).1
        have nx := act_take hx
        have hsz : (Fr.act [] (ns.take i)).length ≤ 1000 := by
          have := act_len (ns.take i) []
          rw [List.length_take] at this
          simp at this
          omega
        have put : ∀ xs, Same H (L2.upd H1 l (.lst xs)) := fun xs b o e => by
          rw [upd_ne (ne_of_none e hl)]
          exact sm b o e
        refine ⟨_, rfl, _, .inl ⟨_, SqL.of hL, rfl⟩, ?_⟩
        cases est : Fr.act [] (ns.take i) with
        | nil =>
          rw [est] at hL nx
          refine iteF ?_
          refine iteF ?_
          refine ⟨_, rfl, .inl ⟨rfl, _, SqL.of hL⟩, _, rfl, l, _, _, rfl, rfl, hL, Evl.sz_lt (by simp), ?_⟩
          refine ⟨_, rfl, put _, ?_⟩
          rw [upd_same, nx]
          rfl
        | cons b t =>
          rw [est] at hL nx hsz
          have eL : iv (b :: t).reverse = iv t.reverse ++ [V.int b] := by simp [iv]
          refine iteT' (by simp [iv]) ?_
          refine ⟨_, rfl, _, rfl, l, _, _, _, rfl, rfl, SqL.of hL, (by rw [eL]; exact atI_last _ _), _, rfl, x, rfl, rfl, _, rfl, ?_⟩
          refine ite2 (fun hb => ?_) (fun hb => ?_)
          · have eb : b = -x := by
              have := of_decide_eq_true hb
              injection this
            refine ⟨_, rfl, .inl ⟨rfl, _, SqL.of hL⟩, l, _, V.int b, rfl, rfl, hL, (by rw [eL]; simp), ?_⟩
            refine ⟨_, rfl, put _, ?_⟩
            rw [upd_same, nx]
            have : Fr.push (b :: t) x = t := by simp [Fr.push, eb]
            rw [this, eL, List.dropLast_concat]
          · have eb : ¬ b = -x := fun e => hb (decide_eq_true (by rw [e]))
            refine ⟨_, rfl, .inl ⟨rfl, _, SqL.of hL⟩, _, rfl, l, _, _, rfl, rfl, hL, Evl.sz_lt (by simp [iv] at hsz ⊢; omega), ?_⟩
            refine ⟨_, rfl, put _, ?_⟩
            rw [upd_same, nx]
            have : Fr.push (b :: t) x = x :: b :: t := by simp [Fr.push, eb]
            rw [this]
            simp [iv]
      · rintro σ H1 ⟨v, rfl, sm, hL⟩
        rw [List.take_of_length_le (by simp)] at hL
        exact ⟨_, rfl, l, _, rfl, .inl ⟨SqL.of hL, fun p H3 s3 b3 => k p H3 (sm.trans s3) b3⟩⟩
end
end W03
set_option Elab.async false
set_option linter.all false
set_option maxRecDepth 100000
set_option maxHeartbeats 2000000
namespace W03
open PySem L2 PySem.Spec PyProof.Rows WR WB
section
variable {P : Program} {w : World} {K : PySem.W.Frag} {mg : Str → Option Value} {base : Heap}
theorem iteF' {c : Bool} {A B : Prop} (hc : c = false) (h : B) : if c = true then A else B := by rw [if_neg (by rw [hc]; exact Bool.false_ne_true)]; exact h
theorem iv_get {ns : List Int} {i : Nat} {x : Int} (h : ns[i]? = some x) : (iv ns)[i]? = some (V.int x) := by
  rw [List.getElem?_map, h]
  rfl
theorem con_get {u : List Int} {j : Nat} (h : j < u.length) : (Fr.con u)[u.length - 1 - j]? = some (-u[j]) := by
  unfold Fr.con
  rw [List.getElem?_map, List.getElem?_reverse (by omega)]
  have e : u.length - 1 - (u.length - 1 - j) = j := by omega
  rw [e, List.getElem?_eq_getElem h]
  rfl
theorem whole_len (u w : List Int) : (u ++ w ++ Fr.con u).length = 2 * u.length + w.length := by
  rw [List.length_append, List.length_append, Fr.con_length]
  omega
theorem whole_lo {u w : List Int} {j : Nat} (h : j < u.length) : (u ++ w ++ Fr.con u)[j]? = some u[j] := by
  rw [List.append_assoc, List.getElem?_append_left h, List.getElem?_eq_getElem h]
theorem whole_hi {u w : List Int} {j : Nat} (h : j < u.length) : (u ++ w ++ Fr.con u)[2 * u.length + w.length - 1 - j]? = some (-u[j]) := by
  rw [List.getElem?_append_right (by rw [List.length_append]; omega), List.length_append]
  have e : 2 * u.length + w.length - 1 - j - (u.length + w.length) = u.length - 1 - j := by omega
  rw [e, con_get h]
theorem mid_lo {u w : List Int} (hw : w ≠ []) : (u ++ w ++ Fr.con u)[u.length]? = w.head? := by
  have : 0 < w.length := List.length_pos_iff.mpr hw
  rw [List.append_assoc, List.getElem?_append_right (Nat.le_refl _), Nat.sub_self, List.getElem?_append_left this, List.head?_eq_getElem?]
theorem mid_hi {u w : List Int} (hw : w ≠ []) : (u ++ w ++ Fr.con u)[2 * u.length + w.length - 1 - u.length]? = w.getLast? := by
  have : 0 < w.length := List.length_pos_iff.mpr hw
  rw [List.append_assoc, List.getElem?_append_right (by omega)]
  have e : 2 * u.length + w.length - 1 - u.length - u.length = w.length - 1 := by omega
  rw [e, List.getElem?_append_left (by omega), List.getLast?_eq_getElem?]
theorem whole_cut (u w : List Int) : ((u ++ w ++ Fr.con u).drop u.length).take w.length = w := by
  rw [List.append_assoc, List.drop_left, List.take_left]
theorem scRnd : FnScope ["letters", "left", "skipped"] ["letters"] (defScope sRnd) := ⟨rfl, rfl, rfl, by decide +kernel, rfl, by decide +kernel, by decide +kernel⟩
theorem cut_nat {xs : List V} {i j : Nat} (hi : i ≤ xs.length) (hj : j ≤ xs.length) : cutV xs (some (i : Int)) (some (j : Int)) = (xs.drop i).take (j - i) := by
  unfold cutV
  rw [HT.sIx_nat, HT.sIx_nat, Nat.min_eq_left hi, Nat.min_eq_left hj]
theorem ok_rnd {f : Addr} {fd : FuncData} (F : Fun K "rounded_letters" "rounded_letters" sRnd f fd) (GS : Cal P w K mg base "shortened_letters" 1 ["letters"] (spShr K)) (T : TxA mg) : FnOk P w K mg base CX0 2 f fd ["letters"] (spRnd K) := by
  refine F.ok scRnd (fun vs H Q E h => ?_) (fun cdv A outer s H vs Q E hr h => ?_)
  · obtain ⟨a, ns, rfl, _⟩ := h
    rfl
  · obtain ⟨a, ns, rfl, hS, hlen, nz, k⟩ := h
    refine ⟨_, pss_cons (ps_set (i := 1) scRnd.nd rfl (Or.inl rfl) (pe_cal GS hr (by decide) (by rfl) (pa_cons (pv 0) pa_nil)))
      (pss_cons (ps_set (i := 2) scRnd.nd rfl (Or.inl rfl) pe_int)
      (pss_cons (ps_while PassesOwn.never (PW.pt (pw_and (pt_cmpR op_lt (pe_op op_mul pe_int (pv 2)) (pe_callB call_len_seq (by rfl) T.len PySem.boot_len (pa_cons (pv 1) pa_nil)) (nomark _))
          (pw_and1 (pt_cmpR op_eq (pe_ix ix_tup (pv 1) (pv 2) (fun _ _ => rfl)) (pe_un un_neg (pe_ix ix_tup (pv 1) (pe_op op_sub (pe_op op_sub (pe_callB call_len_seq (by rfl) T.len PySem.boot_len (pa_cons (pv 1) pa_nil)) pe_int) (pv 2)) (fun _ _ => rfl))) (nomark _)))))
        (pss_one (ps_aug (i := 2) scRnd.nd rfl (Or.inl rfl) pe_int ip_add)))
      (pss_one (ps_ret (pe_slice sl_tupB (pv 1) (po_some (pv 2)) (po_some (pe_op op_sub (pe_callB call_len_seq (by rfl) T.len PySem.boot_len (pa_cons (pv 1) pa_nil)) (pv 2)))))))), ?_⟩
    refine ⟨_, rfl, a, ns, rfl, hS, hlen, fun p H1 sm hPB => ?_⟩
    obtain ⟨u, m, e, c, z⟩ := Fr.parted (Fr.shr ns) nz.shr (Fr.rd_shr ns)
    have er : Fr.rnd ns = m := by
      unfold Fr.rnd
      rw [e, Fr.ends_eq c z]
    rw [er] at k
    have hl := shr_len ns
    rw [e] at hPB hl
    have hP := hPB.sq
    rw [whole_len] at hl
    have L : (iv (u ++ m ++ Fr.con u)).length = 2 * u.length + m.length := by rw [List.length_map, whole_len]
    refine ⟨fun n σ H' => ∃ j, n = u.length - j ∧ j ≤ u.length ∧ σ = [some (.ref a), some (.ref p), some (.int ((j : Nat) : Int))] ∧ H' = H1, ⟨_, 0, rfl, Nat.zero_le _, rfl, rfl⟩, ?_⟩
    rintro n σ H' ⟨j, rfl, hj, rfl, rfl⟩
    refine ⟨_, rfl, _, _, rfl, rfl, .inl ⟨by decide, by decide⟩, _, rfl, p, _, rfl, .inr hP, _, _, rfl, rfl, _, rfl, ?_⟩
    have hback : ((iv (u ++ m ++ Fr.con u)).length : Int) - 1 - (j : Int) = ((2 * u.length + m.length - 1 - j : Nat) : Int) ∨ 2 * u.length + m.length = 0 := by
      rw [L]
      by_cases h0 : 2 * u.length + m.length = 0
      · exact .inr h0
      · left; omega
    by_cases hlt : j < u.length
    · refine iteT' (decide_eq_true (by rw [L]; omega)) ?_
      have hb := hback.resolve_right (by omega)
      refine ⟨_, rfl, _, rfl, p, _, _, _, rfl, rfl, hP, atI_nat (iv_get (whole_lo hlt)), ?_⟩
      refine ⟨_, rfl, _, rfl, p, _, rfl, .inr hP, _, _, rfl, rfl, _, rfl, _, _, rfl, rfl, p, _, _, _, rfl, rfl, hP, (by rw [hb]; exact atI_nat (iv_get (whole_hi hlt))), _, rfl, rfl, _, rfl, ?_⟩
      refine iteT' (decide_eq_true (by show V.int _ = V.int (- -_); rw [Int.neg_neg])) ?_
      refine ⟨fun σ' H'' => ∃ j', u.length - (j + 1) = u.length - j' ∧ j' ≤ u.length ∧ σ' = [some (.ref a), some (.ref p), some (.int ((j' : Nat) : Int))] ∧ H'' = H', fun σ' H'' ⟨j', q1, q2, q3, q4⟩ => ⟨_, by omega, j', q1, q2, q3, q4⟩, ?_⟩
      refine ⟨_, rfl, _, _, rfl, rfl, ?_⟩
      exact ⟨j + 1, rfl, hlt, by rfl, rfl⟩
    · have hj2 : j = u.length := by omega
      subst hj2
      have fin : NewB K H' Q (cutV (iv (u ++ m ++ Fr.con u)) (some ((u.length : Nat) : Int)) (some (((iv (u ++ m ++ Fr.con u)).length : Int) - ((u.length : Nat) : Int)))) := by
        have e1 : ((iv (u ++ m ++ Fr.con u)).length : Int) - ((u.length : Nat) : Int) = ((u.length + m.length : Nat) : Int) := by rw [L]; omega
        rw [e1, cut_nat (by rw [L]; omega) (by rw [L]; omega)]
        have e2 : u.length + m.length - u.length = m.length := by omega
        rw [e2]
        have e3 : ((iv (u ++ m ++ Fr.con u)).drop u.length).take m.length = iv m := by
          rw [← List.map_drop, ← List.map_take, whole_cut]
        rw [e3]
        exact fun q H2 s2 h2 => k q H2 (sm.trans s2) h2
      by_cases hm : m = []
      · have hu := z hm
        refine iteF' (decide_eq_false (by rw [L, hm, hu]; simp)) ?_
        refine iteF ?_
        exact ⟨_, rfl, _, rfl, _, rfl, _, rfl, p, _, rfl, .inr hP, _, rfl, _, _, rfl, rfl, _, rfl, p, _, rfl, hPB, fin⟩
      · refine iteT' (decide_eq_true (by have := List.length_pos_iff.mpr hm; rw [L]; omega)) ?_
        have hb := hback.resolve_right (by have := List.length_pos_iff.mpr hm; omega)
        obtain ⟨x, hx⟩ : ∃ x, m.head? = some x := by
          cases m with
          | nil => exact absurd rfl hm
          | cons x t => exact ⟨x, rfl⟩
        obtain ⟨y, hy⟩ : ∃ y, m.getLast? = some y := ⟨_, List.getLast?_eq_some_getLast hm⟩
        have lo := (mid_lo (u := u) hm).trans hx
        have hi := (mid_hi (u := u) hm).trans hy
        refine ⟨_, rfl, _, rfl, p, _, _, _, rfl, rfl, hP, atI_nat (iv_get lo), ?_⟩
        refine ⟨_, rfl, _, rfl, p, _, rfl, .inr hP, _, _, rfl, rfl, _, rfl, _, _, rfl, rfl, p, _, _, _, rfl, rfl, hP, (by rw [hb]; exact atI_nat (iv_get hi)), _, rfl, rfl, _, rfl, ?_⟩
        refine iteF' (decide_eq_false fun q => ?_) ?_
        · have q2 : V.int x = V.int (-y) := q
          injection q2 with q3
          exact c.2 x y hx hy q3
        exact ⟨_, rfl, _, rfl, _, rfl, _, rfl, p, _, rfl, .inr hP, _, rfl, _, _, rfl, rfl, _, rfl, p, _, rfl, hPB, fin⟩
end
end W03
set_option Elab.async false
set_option linter.all false
set_option maxRecDepth 100000
set_option maxHeartbeats 2000000
namespace W03
open PySem L2 PySem.Spec PyProof.Rows WR WS WR WB
abbrev sKinds : Stmt := top 12
theorem pigeon : ∀ (m : Nat) (L : List Int), L.Nodup → (∀ k ∈ L, 1 ≤ k ∧ k ≤ (m : Int)) → L.length ≤ m
  | 0, L, _, h => by
    cases L with
    | nil => simp
    | cons a t =>
      have := h a (by simp)
      omega
  | m + 1, L, nd, h => by
    by_cases hm : ((m + 1 : Nat) : Int) ∈ L
    · have ih := pigeon m (L.erase ((m + 1 : Nat) : Int)) (nd.erase _) fun k hk => by
        have h1 := (nd.mem_erase_iff).mp hk
        have h2 := h k h1.2
        have h3 := h1.1
        omega
      rw [List.length_erase_of_mem hm] at ih
      omega
    · have ih := pigeon m L nd fun k hk => by
        have h2 := h k hk
        have : k ≠ ((m + 1 : Nat) : Int) := fun e => hm (e ▸ hk)
        omega
      omega
theorem sci {w : World} {J : It} {xs : List V} {G : Hp → Prop} (wk : Walk J xs.length G (YAt xs)) {g : TG} {tt : TT} {te : TE} {vs : List Nat} {σ : L2.St} {H1 : Hp} {Q : VK} (v : V → Int)
    (hv : ∀ x ∈ xs, 1 ≤ v x ∧ v x ≤ 26) (hG : ∀ H, Same H1 H → G H)
    (hs : ∀ x, x ∈ xs → ∀ H, Same H1 H → ∀ (Qy : V → Hp → Prop) (Qn : Hp → Prop), Qy (.int (v x)) H →
      g x (wipe σ vs) H fun σ2 H2 => wipe σ2 vs = wipe σ vs ∧ tt σ2 H2 fun b H3 => if b = true then te σ2 H3 Qy else Qn H3)
    (hd : ∀ (D : Addr) (S : Int → Bool) (n : Nat) H', H1 D = none → Same H1 H' → H' D = some (SetO w D S n) → n ≤ 26 → (∀ k, S k = true ↔ ∃ x ∈ xs, k = v x) → Q (.ref D) H') : tSetI w (fun _ H R => R J H) g tt te vs σ H1 Q := by
  intro D hD
  refine ⟨fun i m H => m = xs.length - i ∧ i ≤ xs.length ∧ Same H1 H ∧ ∃ (S : Int → Bool) (L : List Int), H D = some (SetO w D S L.length) ∧ L.Nodup ∧ (∀ k, S k = true ↔ k ∈ L) ∧ ∀ k, k ∈ L ↔ ∃ x ∈ xs.take i, k = v x, ?_, ?_⟩
  · refine ⟨_, rfl, Nat.zero_le _, same_upd hD, fun _ => false, [], by rw [upd_same]; rfl, List.nodup_nil, fun k => by simp, fun k => by simp⟩
  · rintro i m H ⟨rfl, hi, sm, S, L, hS, nd, hL, hm⟩
    have bound : L.length ≤ 26 := pigeon 26 L nd fun k hk => by
      obtain ⟨x, hx, e⟩ := (hm k).mp hk
      have := hv x (List.mem_of_mem_take hx)
      omega
    by_cases hlt : i < xs.length
    · right
      refine ⟨wk.goes i H hlt (hG H sm), fun H' => Same H1 H' ∧ ∃ (S : Int → Bool) (L : List Int), H' D = some (SetO w D S L.length) ∧ L.Nodup ∧ (∀ k, S k = true ↔ k ∈ L) ∧ ∀ k, k ∈ L ↔ ∃ x ∈ xs.take (i + 1), k = v x, ?_, ?_⟩
      · rintro H' ⟨s2, q⟩
        exact ⟨xs.length - (i + 1), by omega, rfl, hlt, s2, q⟩
      · intro x H' hy
        obtain ⟨rfl, hx⟩ := wk.yields i H x H' hlt (hG H sm) hy
        have hmem : x ∈ xs := List.mem_of_getElem? hx
        have et : xs.take (i + 1) = xs.take i ++ [x] := by
          have hx2 : xs[i] = x := (List.getElem?_eq_some_iff.mp hx).2
          rw [List.take_succ_eq_append_getElem hlt, hx2]
        refine hs x hmem H' sm _ _ ?_
        refine ⟨D, v x, S, L.length, rfl, rfl, hS, ?_, ?_⟩
        · have : scanBound = 40000 ∨ 64 < scanBound := by right; decide
          have h64 : 64 < scanBound := by decide
          omega
        refine ⟨fun b o e => by rw [upd_ne (ne_of_none e hD)]; exact sm b o e, fun j => S j || decide (j = v x), if S (v x) = true then L else v x :: L, ?_, ?_, ?_, ?_⟩
        · rw [upd_same]
          by_cases c : S (v x) = true
          · rw [if_pos c, if_pos c]
          · rw [if_neg c, if_neg c]; rfl
        · by_cases c : S (v x) = true
          · rw [if_pos c]; exact nd
          · rw [if_neg c]
            exact List.nodup_cons.mpr ⟨fun h => c ((hL _).mpr h), nd⟩
        · intro k
          rw [Bool.or_eq_true, decide_eq_true_eq]
          by_cases c : S (v x) = true
          · rw [if_pos c, ← hL]
            constructor
            · rintro (h | rfl)
              · exact h
              · exact c
            · exact .inl
          · rw [if_neg c, List.mem_cons, ← hL]
            exact or_comm
        · intro k
          have e : (k ∈ if S (v x) = true then L else v x :: L) ↔ (k = v x ∨ k ∈ L) := by
            by_cases c : S (v x) = true
            · rw [if_pos c]
              constructor
              · exact .inr
              · rintro (rfl | h)
                · exact (hL _).mp c
                · exact h
            · rw [if_neg c, List.mem_cons]
          rw [e, hm, et]
          constructor
          · rintro (rfl | ⟨y, hy, rfl⟩)
            · exact ⟨x, by simp, rfl⟩
            · exact ⟨y, by simp [hy], rfl⟩
          · rintro ⟨y, hy, rfl⟩
            rw [List.mem_append, List.mem_singleton] at hy
            rcases hy with hy | rfl
            · exact .inr ⟨y, hy, rfl⟩
            · exact .inl rfl
    · left
      have hi2 : i = xs.length := by omega
      subst hi2
      rw [List.take_length] at hm
      exact ⟨wk.stops H (hG H sm), hd D S L.length H hD sm hS bound fun k => (hL k).trans (hm k)⟩
def kindsOk (ns ks : List Int) : Prop := ks.Pairwise (· < ·) ∧ ∀ k : Int, k ∈ ks ↔ ∃ x ∈ ns, k = (x.natAbs : Int)
/-- every letter of a kind from 1 to 26 -/
def Lts (ns : List Int) : Prop := ∀ x ∈ ns, 1 ≤ x.natAbs ∧ x.natAbs ≤ 26
def spKinds (K : PySem.W.Frag) : Sp := fun vs H Q _ => ∃ (a : Addr) (ns : List Int), vs = [.ref a] ∧ SqE K H a (iv ns) ∧ ns.length ≤ 1000 ∧ Lts ns ∧ ∀ ks, kindsOk ns ks → NewT K H Q (iv ks)
structure TxB (mg : Str → Option Value) : Prop where
  sorted : mg "sorted" = none
  abs : mg "abs" = none
section
variable {P : Program} {w : World} {K : PySem.W.Frag} {mg : Str → Option Value} {base : Heap}
theorem scKinds : FnScope ["letters", "letter"] ["letters"] (defScope sKinds) := ⟨rfl, rfl, rfl, by decide +kernel, rfl, by decide +kernel, by decide +kernel⟩
theorem ok_kinds {f : Addr} {fd : FuncData} (F : Fun K "kinds_of" "kinds_of" sKinds f fd) (T : TxA mg) (T2 : TxB mg) : FnOk P w K mg base CX0 1 f fd ["letters"] (spKinds K) := by
  refine F.ok scKinds (fun vs H Q E h => ?_) (fun cdv A outer s H vs Q E hr h => ?_)
  · obtain ⟨a, ns, rfl, _⟩ := h
    rfl
  · obtain ⟨a, ns, rfl, hS, hlen, hk, k⟩ := h
    have fin : ∀ (D : Addr) (S : Int → Bool) (n : Nat) H', H D = none → Same H H' → H' D = some (SetO w D S n) → n ≤ 26 → (∀ k, S k = true ↔ ∃ x ∈ iv ns, k = (match x with | .int i => (i.natAbs : Int) | _ => 0)) →
        rSortedSet w [.ref D] H' fun x H2 => ∃ p ys, [x] = [V.ref p] ∧ ((SqL K H2 p ys ∧ ∀ l, H2 l = none → Q (.ref l) (L2.upd H2 l (.tup ys))) ∨ (SqT K H2 p ys ∧ Q (.ref p) H2)) := by
      intro D S n H' hD sm hS hn hm
      refine ⟨D, S, n, rfl, hS, by omega, fun ks p up mem _ hp => ?_⟩
      refine ⟨p, _, rfl, .inl ⟨SqL.of upd_same, fun l hl => ?_⟩⟩
      refine k ks ⟨up, fun j => ?_⟩ l _ ((sm.trans (same_upd hp)).trans (same_upd hl)) (SqT.of upd_same)
      rw [mem, hm]
      constructor
      · rintro ⟨x, hx, e⟩
        obtain ⟨i, hi, rfl⟩ := List.mem_map.mp hx
        exact ⟨i, hi, e⟩
      · rintro ⟨i, hi, e⟩
        exact ⟨_, List.mem_map_of_mem hi, e⟩
    have turn : ∀ x, x ∈ iv ns → ∀ H2, Same H H2 → ∀ (Qy : V → Hp → Prop) (Qn : Hp → Prop), Qy (.int (match x with | .int i => (i.natAbs : Int) | _ => 0)) H2 →
        gName 1 x (wipe [some (.ref a), none] [1]) H2 fun σ2 H2 => wipe σ2 [1] = wipe [some (.ref a), none] [1] ∧ tYes σ2 H2 fun b H3 => if b = true then tCB (fun xs H Q => ∃ i, xs = [.int i] ∧ Q (.int (if i < 0 then -i else i)) H) (tCons (tVar 1) tNil) σ2 H3 Qy else Qn H3 := by
      intro x hx H2 s2 Qy Qn ky
      obtain ⟨i, hi, rfl⟩ := List.mem_map.mp hx
      refine ⟨rfl, yes_te ⟨_, rfl, i, rfl, ?_⟩⟩
      have e : (if i < 0 then -i else i) = (i.natAbs : Int) := by split <;> omega
      rw [e]
      exact ky
    have bd : ∀ x ∈ iv ns, 1 ≤ (match x with | .int i => (i.natAbs : Int) | _ => 0) ∧ (match x with | .int i => (i.natAbs : Int) | _ => 0) ≤ 26 := by
      intro x hx
      obtain ⟨i, hi, rfl⟩ := List.mem_map.mp hx
      have := hk i hi
      show 1 ≤ (i.natAbs : Int) ∧ (i.natAbs : Int) ≤ 26
      omega
    rcases hS with hS | hS
    · refine ⟨_, pss_one (ps_ret (pe_callTy call_tuple_of (by rfl) T.tuple (by decide +kernel) (pa_cons (pe_callB (cr_sortedSet rfl) (by rfl) T2.sorted (by decide +kernel) (pa_cons (pe_setI (own := [("letter", 1)]) (g := gName 1) (tt := tYes) rfl scKinds.nd (pi_list (pv 0))
        (blkOk_by (N := ["letters", "letter"]) (sc := defScope sKinds) (by decide +kernel)) (fun _ _ _ _ _ => pg_name (i := 1) scKinds.nd rfl (Or.inl rfl)) (fun _ _ _ _ _ => pts_nil)
        (fun _ _ _ _ _ => pe_callB call_abs (by rfl) T2.abs (by decide +kernel) (pa_cons (pv 1) pa_nil))) pa_nil)) pa_nil))), ?_⟩
      refine ⟨_, rfl, a, rfl, ⟨_, hS⟩, ?_⟩
      exact sci (walk_list (xs := iv ns)) _ bd (fun H2 s2 => s2.seq hS) turn fin
    · refine ⟨_, pss_one (ps_ret (pe_callTy call_tuple_of (by rfl) T.tuple (by decide +kernel) (pa_cons (pe_callB (cr_sortedSet rfl) (by rfl) T2.sorted (by decide +kernel) (pa_cons (pe_setI (own := [("letter", 1)]) (g := gName 1) (tt := tYes) rfl scKinds.nd (pi_tup (pv 0))
        (blkOk_by (N := ["letters", "letter"]) (sc := defScope sKinds) (by decide +kernel)) (fun _ _ _ _ _ => pg_name (i := 1) scKinds.nd rfl (Or.inl rfl)) (fun _ _ _ _ _ => pts_nil)
        (fun _ _ _ _ _ => pe_callB call_abs (by rfl) T2.abs (by decide +kernel) (pa_cons (pv 1) pa_nil))) pa_nil)) pa_nil))), ?_⟩
      refine ⟨_, rfl, a, rfl, ⟨_, hS⟩, ?_⟩
      exact sci (walk_tup (xs := iv ns)) _ bd (fun H2 s2 => WR.Same.seqT s2 hS) turn fin
end
end W03
set_option Elab.async false
set_option linter.all false
set_option maxRecDepth 100000
set_option maxHeartbeats 2000000
namespace W03
open PySem L2 PySem.Spec PyProof.Rows WR WB
abbrev sIsInt : Stmt := top 17
abbrev sWithin : Stmt := top 18
abbrev sLetter : Stmt := top 19
abbrev sListed : Stmt := top 20
abbrev sNeedW : Stmt := top 28
abbrev sFew : Stmt := top 30
/-! ### values and their classes -/
inductive Typ (H : Hp) : V → String → Prop
  | int (i : Int) : Typ H (.int i) "int"
  | bl (b : Bool) : Typ H (.bl b) "bool"
  | str (z : Str) : Typ H (.str z) "str"
  | non : Typ H .non "NoneType"
  | lst {p : Addr} {xs : List V} (e : H p = some (.lst xs)) : Typ H (.ref p) "list"
  | tup {p : Addr} {xs : List V} (e : H p = some (.tup xs)) : Typ H (.ref p) "tuple"
  | dct {p : Addr} {kvs : List (Key × V)} (e : H p = some (.dK kvs)) : Typ H (.ref p) "dict"
def isI : V → Bool
  | .int _ => true
  | _ => false
def isB : V → Bool
  | .bl _ => true
  | _ => false
def isS : V → Bool
  | .str _ => true
  | _ => false
theorem Typ.same {H H' : Hp} {x : V} {t : String} (h : Typ H x t) (s : Same H H') : Typ H' x t := by
  cases h with
  | int i => exact .int i
  | bl b => exact .bl b
  | str z => exact .str z
  | non => exact .non
  | lst e => exact .lst (s _ _ e)
  | tup e => exact .tup (s _ _ e)
  | dct e => exact .dct (s _ _ e)
theorem Typ.ty {K : PySem.W.Frag} {H : Hp} {x : V} {t : String} (h : Typ H x t) : TyX K H x (.type t) := by
  cases h with
  | int i => exact .base (.int i)
  | bl b => exact .base (.bl b)
  | str z => exact .base (.str z)
  | non => exact .base .non
  | lst e => exact .base (.lst e)
  | tup e => exact .base (.tup e)
  | dct e => exact .base (.dK e)
theorem Typ.kInt {K : PySem.W.Frag} {H : Hp} {x : V} {t : String} (h : Typ H x t) : PySem.W.kitOne K (.type t) (.type "int") = some (isI x || isB x) := by
  cases h <;> first | exact kit_ty (show kitB _ _ = some true by decide +kernel) | exact kit_ty (show kitB _ _ = some false by decide +kernel)
theorem Typ.kBool {K : PySem.W.Frag} {H : Hp} {x : V} {t : String} (h : Typ H x t) : PySem.W.kitOne K (.type t) (.type "bool") = some (isB x) := by
  cases h <;> first | exact kit_ty (show kitB _ _ = some true by decide +kernel) | exact kit_ty (show kitB _ _ = some false by decide +kernel)
theorem Typ.kStr {K : PySem.W.Frag} {H : Hp} {x : V} {t : String} (h : Typ H x t) : PySem.W.kitOne K (.type t) (.type "str") = some (isS x) := by
  cases h <;> first | exact kit_ty (show kitB _ _ = some true by decide +kernel) | exact kit_ty (show kitB _ _ = some false by decide +kernel)
theorem Typ.kTup {K : PySem.W.Frag} {H : Hp} {x : V} {t : String} (h : Typ H x t) : PySem.W.kitOne K (.type t) (.type "tuple") = some (t == "tuple") := by
  cases h <;> first | exact kit_ty (show kitB _ _ = some true by decide +kernel) | exact kit_ty (show kitB _ _ = some false by decide +kernel)
theorem Typ.kList {K : PySem.W.Frag} {H : Hp} {x : V} {t : String} (h : Typ H x t) : PySem.W.kitOne K (.type t) (.type "list") = some (t == "list") := by
  cases h <;> first | exact kit_ty (show kitB _ _ = some true by decide +kernel) | exact kit_ty (show kitB _ _ = some false by decide +kernel)
theorem Typ.kSeq {K : PySem.W.Frag} {H : Hp} {x : V} {t : String} (h : Typ H x t) : PySem.W.kitAny K (.type t) [.type "list", .type "tuple"] = some (t == "list" || t == "tuple") := by
  refine kitAny_cons h.kList (fun e => ?_) (fun e => by rw [e]; rfl)
  refine kitAny_cons h.kTup (fun e2 => ?_) (fun e2 => by rw [e2]; simp)
  rw [kitAny_nil, e, e2]
  rfl

def spIsInt : Sp := fun vs H Q _ => ∃ (x : V) (t : String), vs = [x] ∧ Typ H x t ∧ Q (.bl (isI x)) H
structure TxI (mg : Str → Option Value) : Prop where
  isin : mg "isinstance" = none
  int : mg "int" = none
  bool : mg "bool" = none
  str : mg "str" = none
  list : mg "list" = none
  tuple : mg "tuple" = none
section
variable {P : Program} {w : World} {K : PySem.W.Frag} {mg : Str → Option Value} {base : Heap}
theorem scIsInt : FnScope ["value"] ["value"] (defScope sIsInt) := ⟨rfl, rfl, rfl, by decide +kernel, rfl, by decide +kernel, by decide +kernel⟩
theorem ok_isInt {f : Addr} {fd : FuncData} (F : Fun K "is_integer" "is_integer" sIsInt f fd) (T : TxI mg) : FnOk P w K mg base CX0 1 f fd ["value"] spIsInt := by
  refine F.ok scIsInt (fun vs H Q E h => ?_) (fun cdv A outer s H vs Q E hr h => ?_)
  · obtain ⟨x, t, rfl, _⟩ := h
    rfl
  · obtain ⟨x, t, rfl, ht, k⟩ := h
    refine ⟨_, pss_one (ps_ret (pe_and (pe_callB call_isi (by rfl) T.isin (by decide +kernel) (pa_cons (pv 0) (pa_cons (pe_bltn (v := .ty "int") (by rfl) T.int (by decide +kernel) rfl) pa_nil)))
      (pe_one (pe_not (pe_callB call_isi (by rfl) T.isin (by decide +kernel) (pa_cons (pv 0) (pa_cons (pe_bltn (v := .ty "bool") (by rfl) T.bool (by decide +kernel) rfl) pa_nil))))))), ?_⟩
    refine ⟨_, rfl, x, _, _, _, _, rfl, .ty _, ht.ty, ht.kInt, _, rfl, ?_⟩
    refine ite2 (fun hi => ?_) (fun hn => ?_)
    · refine ⟨_, rfl, x, _, _, _, _, rfl, .ty _, ht.ty, ht.kBool, _, rfl, ?_⟩
      have e : (!isB x) = isI x := by cases ht <;> first | rfl | exact absurd hi Bool.false_ne_true
      show Q (.bl (!isB x)) H
      rw [e]
      exact k
    · have e : isI x = false := by cases ht <;> first | rfl | exact absurd rfl hn
      show Q (.bl false) H
      rw [← e]
      exact k
end
def Bnd (v : V) : Prop := v = .non ∨ ∃ i, v = .int i
def geB (i : Int) : V → Bool
  | .int a => decide (a ≤ i)
  | _ => true
def leB (i : Int) : V → Bool
  | .int b => decide (i ≤ b)
  | _ => true
def within : V → V → V → Bool
  | .int i, l, m => geB i l && leB i m
  | _, _, _ => false
def spWithin : Sp := fun vs H Q _ => ∃ (x l m : V) (t : String), vs = [x, l, m] ∧ Typ H x t ∧ Bnd l ∧ Bnd m ∧ Q (.bl (within x l m)) H
def letterB : V → Bool
  | .int i => (decide (-26 ≤ i) && decide (i ≤ 26)) && !decide (i = 0)
  | _ => false
def spLetter : Sp := fun vs H Q _ => ∃ (x : V) (t : String), vs = [x] ∧ Typ H x t ∧ Q (.bl (letterB x)) H
def spListed : Sp := fun vs H Q _ => ∃ (x : V) (t : String), vs = [x] ∧ Typ H x t ∧ ∀ H', Same H H' → Q (.bl (t == "list" || t == "tuple")) H'
structure TxC (mg : Str → Option Value) : Prop where
  kind : ∃ t, mg "MOST_KIND" = some (.int 26 t)
  all : mg "all" = none
section
variable {P : Program} {w : World} {K : PySem.W.Frag} {mg : Str → Option Value} {base : Heap}
theorem scWithin : FnScope ["value", "least", "most"] ["value", "least", "most"] (defScope sWithin) := ⟨rfl, rfl, rfl, by decide +kernel, rfl, by decide +kernel, by decide +kernel⟩
theorem ok_within {f : Addr} {fd : FuncData} (F : Fun K "is_within" "is_within" sWithin f fd) (GI : Cal P w K mg base "is_integer" 1 ["value"] spIsInt) : FnOk P w K mg base CX0 2 f fd ["value", "least", "most"] spWithin := by
  refine F.ok scWithin (fun vs H Q E h => ?_) (fun cdv A outer s H vs Q E hr h => ?_)
  · obtain ⟨x, l, m, t, rfl, _⟩ := h
    rfl
  · obtain ⟨x, l, m, t, rfl, ht, hl, hm, k⟩ := h
    refine ⟨_, pss_cons (ps_if (pt_not (pt_val (pe_cal GI hr (by decide) (by rfl) (pa_cons (pv 0) pa_nil)))) (pss_one (ps_ret pe_bl)) pss_nil)
      (pss_one (ps_ret (pe_and (pe_or (pe_cmpR op_isN (pv 1) pe_non (nomark _)) (pe_one (pe_cmpR op_ge (pv 0) (pv 1) (nomark _)))) (pe_one (pe_or (pe_cmpR op_isN (pv 2) pe_non (nomark _)) (pe_one (pe_cmpR op_le (pv 0) (pv 2) (nomark _)))))))), ?_⟩
    refine ⟨_, rfl, x, t, rfl, ht, _, rfl, ?_⟩
    refine ite2 (fun hn => ?_) (fun hi => ?_)
    · have e : within x l m = false := by cases ht <;> first | rfl | exact absurd hn Bool.false_ne_true
      rw [e] at k
      exact k
    · obtain ⟨i, rfl⟩ : ∃ i, x = .int i := by cases ht <;> first | exact ⟨_, rfl⟩ | exact absurd rfl hi
      -- the second half, whatever the first one says
      have half : ∀ H1 : Hp, H1 = H → ∀ Q1 : VK, Q1 (.bl (leB i m)) H1 → tOrV (tOp (fun x y H Q => y = .non ∧ Q (.bl (decide (x = .non))) H) (tVar 2) (tC .non)) (tOp (rI0 fun i j => .bl (decide (i ≤ j))) (tVar 0) (tVar 2)) [some (.int i), some l, some m] H1 Q1 := by
        intro H1 _ Q1 q
        rcases hm with rfl | ⟨b, rfl⟩
        · exact ⟨_, rfl, rfl, _, rfl, iteT q⟩
        · exact ⟨_, rfl, rfl, _, rfl, iteF ⟨_, rfl, _, rfl, _, _, rfl, rfl, q⟩⟩
      rcases hl with rfl | ⟨a, rfl⟩
      · refine ⟨_, rfl, rfl, _, rfl, iteT ⟨_, rfl, iteT (half H rfl _ ?_)⟩⟩
        exact k
      · refine ⟨_, rfl, rfl, _, rfl, iteF ⟨_, rfl, _, rfl, _, _, rfl, rfl, _, rfl, ?_⟩⟩
        refine ite2 (fun hg => half H rfl _ ?_) (fun hg => ?_)
        · have e : within (.int i) (.int a) m = leB i m := by
            show (decide (a ≤ i) && leB i m) = leB i m
            rw [hg]
            rfl
          rw [e] at k
          exact k
        · have e : within (.int i) (.int a) m = false := by
            show (decide (a ≤ i) && leB i m) = false
            rw [Bool.eq_false_iff.mpr hg]
            rfl
          rw [e] at k
          exact k
theorem scLetter : FnScope ["value"] ["value"] (defScope sLetter) := ⟨rfl, rfl, rfl, by decide +kernel, rfl, by decide +kernel, by decide +kernel⟩
theorem ok_letter {f : Addr} {fd : FuncData} (F : Fun K "is_letter" "is_letter" sLetter f fd) (GW : Cal P w K mg base "is_within" 2 ["value", "least", "most"] spWithin) (T : TxC mg) : FnOk P w K mg base CX0 3 f fd ["value"] spLetter := by
  refine F.ok scLetter (fun vs H Q E h => ?_) (fun cdv A outer s H vs Q E hr h => ?_)
  · obtain ⟨x, t, rfl, _⟩ := h
    rfl
  · obtain ⟨x, t, rfl, ht, k⟩ := h
    obtain ⟨tk, mK⟩ := T.kind
    refine ⟨_, pss_one (ps_ret (pe_and (pe_cal GW hr (by decide) (by rfl) (pa_cons (pv 0) (pa_cons (pe_un un_neg (pe_glob (v := .int 26) (by rfl) mK ⟨_, rfl⟩)) (pa_cons (pe_glob (v := .int 26) (by rfl) mK ⟨_, rfl⟩) pa_nil)))) (pe_one (pe_cmpR op_ne (pv 0) pe_int (nomark _))))), ?_⟩
    refine ⟨_, rfl, _, rfl, x, _, _, t, rfl, ht, .inr ⟨_, rfl⟩, .inr ⟨_, rfl⟩, _, rfl, ?_⟩
    refine ite2 (fun hi => ?_) (fun hn => ?_)
    · obtain ⟨i, rfl⟩ : ∃ i, x = .int i := by cases ht <;> first | exact ⟨_, rfl⟩ | exact absurd hi Bool.false_ne_true
      refine ⟨_, rfl, rfl, ?_⟩
      have e : letterB (.int i) = !decide (V.int i = V.int 0) := by
        have h2 : (decide (-26 ≤ i) && decide (i ≤ 26)) = true := hi
        show ((decide (-26 ≤ i) && decide (i ≤ 26)) && !decide (i = 0)) = _
        rw [h2, Bool.true_and]
        congr 1
        by_cases h0 : i = 0
        · subst h0; rfl
        · rw [decide_eq_false h0, decide_eq_false (fun q => h0 (by injection q))]
      rw [e] at k
      exact k
    · have e : letterB x = false := by
        cases ht with
        | int i =>
          have h2 : (decide (-26 ≤ i) && decide (i ≤ 26)) = false := Bool.eq_false_iff.mpr hn
          show ((decide (-26 ≤ i) && decide (i ≤ 26)) && !decide (i = 0)) = false
          rw [h2]
          rfl
        | _ => rfl
      rw [e] at k
      exact k
theorem scListed : FnScope ["value"] ["value"] (defScope sListed) := ⟨rfl, rfl, rfl, by decide +kernel, rfl, by decide +kernel, by decide +kernel⟩
theorem ok_listed {f : Addr} {fd : FuncData} (F : Fun K "is_listed" "is_listed" sListed f fd) (T : TxI mg) : FnOk P w K mg base CX0 1 f fd ["value"] spListed := by
  refine F.ok scListed (fun vs H Q E h => ?_) (fun cdv A outer s H vs Q E hr h => ?_)
  · obtain ⟨x, t, rfl, _⟩ := h
    rfl
  · obtain ⟨x, t, rfl, ht, k⟩ := h
    refine ⟨_, pss_one (ps_ret (pe_callB call_isiT (by rfl) T.isin (by decide +kernel) (pa_cons (pv 0) (pa_cons (pe_tup (pa_cons (pe_bltn (v := .ty "list") (by rfl) T.list (by decide +kernel) rfl) (pa_cons (pe_bltn (v := .ty "tuple") (by rfl) T.tuple (by decide +kernel) rfl) pa_nil))) pa_nil)))), ?_⟩
    refine ⟨_, rfl, (by show 2 ≤ sizeLine; decide), fun p hp => ?_⟩
    have sm : Same H (upd H p (.tup [.ty "list", .ty "tuple"])) := fun b o e => by rw [upd_ne (ne_of_none e hp)]; exact e
    exact ⟨x, p, _, _, _, _, rfl, upd_same, .cons (.ty _) (.cons (.ty _) .nil), (ht.same sm).ty, (ht.same sm).kSeq, k _ sm⟩
end
end W03
set_option Elab.async false
set_option linter.all false
set_option maxRecDepth 100000
set_option maxHeartbeats 2000000
namespace W03
open PySem L2 PySem.Spec PyProof.Rows WR WB
abbrev sInit : Stmt := inClass (top 31) 0
theorem SqL.tyx {K : PySem.W.Frag} {H : Hp} {a : Addr} {xs : List V} (h : SqL K H a xs) : TyX K H (.ref a) (.type "list") := by
  rcases h with h | ⟨o, its, n, e, c, _⟩
  · rcases h with h | ⟨o, h⟩
    · exact .base (.lst h)
    · exact .base (.frz h)
  · exact .kList e c
theorem SqT.tyx {K : PySem.W.Frag} {H : Hp} {a : Addr} {xs : List V} (h : SqT K H a xs) : TyX K H (.ref a) (.type "tuple") := by
  rcases h with h | ⟨o, its, n, e, c, _⟩
  · rcases h with h | ⟨o, h⟩
    · exact .base (.tup h)
    · exact .fTuple h
  · exact .kTuple e c
def spListE (K : PySem.W.Frag) : Sp := fun vs H Q _ => ∃ (a : Addr) (xs : List V), vs = [.ref a] ∧ SqE K H a xs ∧ ∀ H', Same H H' → Q (.bl true) H'
def spFew : Sp := fun vs H Q _ => ∃ n : Int, vs = [.int n] ∧ n ≤ 500 ∧ Q .non H
structure TxW (K : PySem.W.Frag) (mg : Str → Option Value) (C : Addr) : Prop where
  cl : Cls K C
  nL : NoAttr K C "letters"
  nN : NoAttr K C "length"
  nK : NoAttr K C "kinds"
  nS : NoAttr K C "is_short"
  nR : NoAttr K C "is_short_round"
  ca : PySem.W.findIn K (.ref C) "__class__" = some (some (.builtin "object.__class__"))
  cn : PySem.W.specialIn K (.builtin "object.__class__") "__get__" = some (some (.builtin "getset_descriptor.__get__"))
  ct : PySem.W.takesIn K (.builtin "object.__class__") = some true
  cm : PySem.W.mroIn K C (.type "object") = some true
  mgW : mg "Word" = some (.ref C)
  most : ∃ t, mg "MOST_LETTERS" = some (.int 500 t)
  isin : mg "isinstance" = none
  all : mg "all" = none
/-! ### a word -/
def wf (tl : Addr) (n : Nat) (tk : Addr) (b1 b2 : Bool) : List (Str × V) := [("letters", .ref tl), ("length", .int (n : Int)), ("kinds", .ref tk), ("is_short", .bl b1), ("is_short_round", .bl b2)]
theorem ne1 : ¬ (("letters" : Str) = "length") := by decide +kernel
theorem ne2 : ¬ (("letters" : Str) = "kinds") := by decide +kernel
theorem ne3 : ¬ (("letters" : Str) = "is_short") := by decide +kernel
theorem ne4 : ¬ (("letters" : Str) = "is_short_round") := by decide +kernel
theorem ne5 : ¬ (("length" : Str) = "kinds") := by decide +kernel
theorem ne6 : ¬ (("length" : Str) = "is_short") := by decide +kernel
theorem ne7 : ¬ (("length" : Str) = "is_short_round") := by decide +kernel
theorem ne8 : ¬ (("kinds" : Str) = "is_short") := by decide +kernel
theorem ne9 : ¬ (("kinds" : Str) = "is_short_round") := by decide +kernel
theorem ne10 : ¬ (("is_short" : Str) = "is_short_round") := by decide +kernel
theorem lk_eq {k : Str} {v : V} {t : List (Str × V)} : List.lookup k ((k, v) :: t) = some v := by
  rw [List.lookup_cons, beq_self_eq_true k]
theorem lk_ne {k g : Str} {v : V} {t : List (Str × V)} (h : ¬ k = g) : List.lookup k ((g, v) :: t) = List.lookup k t := by
  rw [List.lookup_cons, show (k == g) = false from beq_eq_false_iff_ne.mpr h]
theorem pf_ne {k g : Str} {v x : V} {t : List (Str × V)} (h : ¬ g = k) : putF k v ((g, x) :: t) = (g, x) :: putF k v t := by
  show (if g = k then _ else _) = _
  rw [if_neg h]
theorem wf_letters {tl tk n b1 b2} : (wf tl n tk b1 b2).lookup ("letters" : Str) = some (.ref tl) := lk_eq
theorem wf_length {tl tk n b1 b2} : (wf tl n tk b1 b2).lookup ("length" : Str) = some (.int (n : Int)) := by
  unfold wf
  rw [lk_ne fun e => ne1 e.symm, lk_eq]
theorem wf_kinds {tl tk n b1 b2} : (wf tl n tk b1 b2).lookup ("kinds" : Str) = some (.ref tk) := by
  unfold wf
  rw [lk_ne fun e => ne2 e.symm, lk_ne fun e => ne5 e.symm, lk_eq]
theorem wf_short {tl tk n b1 b2} : (wf tl n tk b1 b2).lookup ("is_short" : Str) = some (.bl b1) := by
  unfold wf
  rw [lk_ne fun e => ne3 e.symm, lk_ne fun e => ne6 e.symm, lk_ne fun e => ne8 e.symm, lk_eq]
theorem wf_round {tl tk n b1 b2} : (wf tl n tk b1 b2).lookup ("is_short_round" : Str) = some (.bl b2) := by
  unfold wf
  rw [lk_ne fun e => ne4 e.symm, lk_ne fun e => ne7 e.symm, lk_ne fun e => ne9 e.symm, lk_ne fun e => ne10 e.symm, lk_eq]
theorem wf_no {tl tk n b1 b2} {m : Str} (h1 : ¬ m = "letters") (h2 : ¬ m = "length") (h3 : ¬ m = "kinds") (h4 : ¬ m = "is_short") (h5 : ¬ m = "is_short_round") : (wf tl n tk b1 b2).lookup m = none := by
  unfold wf
  rw [lk_ne h1, lk_ne h2, lk_ne h3, lk_ne h4, lk_ne h5]
  rfl
def WordAt (K : PySem.W.Frag) (C : Addr) (H : Hp) (p : Addr) (ns : List Int) : Prop :=
  ∃ (dx tl tk : Addr) (ks : List Int), H p = some (.ins C dx (wf tl ns.length tk (decide (Fr.shr ns = ns)) (decide (Fr.rnd ns = ns)))) ∧ SqB K H tl (iv ns) ∧ SqT K H tk (iv ks) ∧ kindsOk ns ks
theorem WordAt.same {K : PySem.W.Frag} {C : Addr} {H H' : Hp} {p : Addr} {ns : List Int} (h : WordAt K C H p ns) (s : Same H H') : WordAt K C H' p ns := by
  obtain ⟨dx, tl, tk, ks, h1, h2, h3, h4⟩ := h
  exact ⟨dx, tl, tk, ks, s _ _ h1, SqB.same s h2, WR.Same.seqT s h3, h4⟩
theorem Lts.nz {ns : List Int} (h : Lts ns) : Fr.NZ ns := fun a ha => by
  have := h a ha
  omega
def spInit (K : PySem.W.Frag) (C : Addr) : Sp := fun vs H Q _ => ∃ (H0 : Hp) (p dx a : Addr) (ns : List Int), vs = [.ref p, .ref a] ∧ Same H0 H ∧ H0 p = none ∧ H p = some (.ins C dx []) ∧ SqW K H0 a (iv ns) ∧ ns.length ≤ 500 ∧ Lts ns ∧
  ∀ H', Same H0 H' → WordAt K C H' p ns → Q .non H'
/-! ### tuples of ints held against one another -/
theorem dp_iv {K : PySem.W.Frag} {H : Hp} : ∀ ns : List Int, DpAll K H (iv ns) (ns.map PyData.int)
  | [] => .nil
  | n :: r => .cons (.int n) (dp_iv r)
theorem eqvAll_ints : ∀ ns ms : List Int, PyData.eqvAll (ns.map PyData.int) (ms.map PyData.int) = decide (ns = ms)
  | [], [] => rfl
  | [], b :: r => rfl
  | a :: r, [] => rfl
  | a :: r, b :: q => by
    have ih := eqvAll_ints r q
    show (PyData.eqv (.int a) (.int b) && PyData.eqvAll (r.map PyData.int) (q.map PyData.int)) = _
    rw [ih]
    have : PyData.eqv (.int a) (.int b) = decide (a = b) := by
      simp only [PyData.eqv]
      exact Bool.eq_iff_iff.mpr (by simp)
    rw [this]
    by_cases e1 : a = b <;> by_cases e2 : r = q <;> simp [e1, e2]
theorem eqv_ints (ns ms : List Int) : PyData.eqv (.tuple (ns.map .int)) (.tuple (ms.map .int)) = decide (ns = ms) := by
  show PyData.eqvAll _ _ = _
  exact eqvAll_ints ns ms
theorem lay_ints : ∀ ns : List Int, PyData.canLayAll0 (ns.map PyData.int) = true ∧ PyData.depthAll (ns.map PyData.int) = 0
  | [] => ⟨rfl, rfl⟩
  | n :: r => by
    obtain ⟨h1, h2⟩ := lay_ints r
    exact ⟨by simp [PyData.canLayAll0, PyData.canLay0, h1], by simp [PyData.depthAll, PyData.depth, h2]⟩
theorem shaped_ints (ns : List Int) : SeqAt.shaped (.tuple (ns.map .int)) = true := by
  obtain ⟨h1, h2⟩ := lay_ints ns
  simp [SeqAt.shaped, PyData.canLay0, PyData.depth, h1, h2]
section
variable {P : Program} {w : World} {K : PySem.W.Frag} {mg : Str → Option Value} {base : Heap}
theorem ok_listE {f : Addr} {fd : FuncData} (F : Fun K "is_listed" "is_listed" sListed f fd) (T : TxI mg) : FnOk P w K mg base CX0 1 f fd ["value"] (spListE K) := by
  refine F.ok scListed (fun vs H Q E h => ?_) (fun cdv A outer s H vs Q E hr h => ?_)
  · obtain ⟨a, xs, rfl, _⟩ := h
    rfl
  · obtain ⟨a, xs, rfl, hS, k⟩ := h
    refine ⟨_, pss_one (ps_ret (pe_callB call_isiT (by rfl) T.isin (by decide +kernel) (pa_cons (pv 0) (pa_cons (pe_tup (pa_cons (pe_bltn (v := .ty "list") (by rfl) T.list (by decide +kernel) rfl) (pa_cons (pe_bltn (v := .ty "tuple") (by rfl) T.tuple (by decide +kernel) rfl) pa_nil))) pa_nil)))), ?_⟩
    refine ⟨_, rfl, (by show 2 ≤ sizeLine; decide), fun p hp => ?_⟩
    have sm : Same H (upd H p (.tup [.ty "list", .ty "tuple"])) := same_upd hp
    rcases hS.same sm with hS | hS
    · exact ⟨_, p, _, _, _, _, rfl, upd_same, .cons (.ty _) (.cons (.ty _) .nil), SqL.tyx hS, (by rfl), k _ sm⟩
    · exact ⟨_, p, _, _, _, _, rfl, upd_same, .cons (.ty _) (.cons (.ty _) .nil), SqT.tyx hS, (Typ.tup (H := fun _ => some (.tup [])) (p := a) (xs := []) rfl).kSeq, k _ sm⟩
theorem scFew : FnScope ["many"] ["many"] (defScope sFew) := ⟨rfl, rfl, rfl, by decide +kernel, rfl, by decide +kernel, by decide +kernel⟩
theorem ok_few {C : Addr} {f : Addr} {fd : FuncData} (F : Fun K "need_few_letters" "need_few_letters" sFew f fd) (T : TxW K mg C) : FnOk P w K mg base CX0 1 f fd ["many"] spFew := by
  refine F.ok scFew (fun vs H Q E h => ?_) (fun cdv A outer s H vs Q E hr h => ?_)
  · obtain ⟨n, rfl, _⟩ := h
    rfl
  · obtain ⟨n, rfl, hn, k⟩ := h
    obtain ⟨tk, mM⟩ := T.most
    refine ⟨_, pss_one (ps_if (pt_cmpR op_gt (pv 0) (pe_glob (v := .int 500) (by rfl) mM ⟨_, rfl⟩) (nomark _)) (pss_one ps_never) pss_nil), ?_⟩
    refine ⟨_, rfl, _, _, rfl, rfl, _, rfl, ?_⟩
    exact iteF' (decide_eq_false (by omega)) k
end
end W03
set_option Elab.async false
set_option linter.all false
set_option maxRecDepth 100000
set_option maxHeartbeats 2000000
namespace W03
open PySem L2 PySem.Spec PyProof.Rows WR WB
theorem SqT.put {K : PySem.W.Frag} {H : Hp} {a p C dx : Addr} {fs : List (Str × V)} {o : HO} {xs : List V} (h : SqT K H a xs) (hp : H p = some (.ins C dx fs)) : SqT K (L2.upd H p o) a xs := by
  rcases h with h | h
  · left
    have ne : ∀ u, H a = some u → (∀ C dx fs, u ≠ .ins C dx fs) → a ≠ p := fun u e q z => by
      rw [z, hp] at e
      exact q _ _ _ (Option.some.inj e).symm
    rcases h with h | ⟨o', h⟩
    · exact .inl (by rw [upd_ne (ne _ h fun _ _ _ => by intro z; cases z)]; exact h)
    · exact .inr ⟨o', by rw [upd_ne (ne _ h fun _ _ _ => by intro z; cases z)]; exact h⟩
  · exact .inr h
theorem SqB.put {K : PySem.W.Frag} {H : Hp} {a p C dx : Addr} {fs : List (Str × V)} {o : HO} {xs : List V} (h : SqB K H a xs) (hp : H p = some (.ins C dx fs)) : SqB K (L2.upd H p o) a xs := by
  obtain ⟨h1, h2⟩ := h
  refine ⟨SqT.put h1 hp, ?_⟩
  obtain ⟨o', u, e, d⟩ := h2
  exact ⟨o', u, by rw [upd_ne (fun z => by rw [z, hp] at e; cases e)]; exact e, d⟩
theorem same_put {H0 H : Hp} {p : Addr} {o : HO} (s : Same H0 H) (hp : H0 p = none) : Same H0 (L2.upd H p o) := fun b u e => by
  have : b ≠ p := fun z => by rw [z, hp] at e; cases e
  rw [upd_ne this]
  exact s _ _ e
theorem letter_ok {i : Int} (h : 1 ≤ i.natAbs ∧ i.natAbs ≤ 26) : letterB (.int i) = true := by
  show ((decide (-26 ≤ i) && decide (i ≤ 26)) && !decide (i = 0)) = true
  rw [decide_eq_true (by omega), decide_eq_true (by omega), decide_eq_false (by omega)]
  rfl
theorem all_ok {ns : List Int} (h : Lts ns) : ((ns.map fun i => letterB (.int i)).all id) = true := by
  rw [List.all_eq_true]
  intro b hb
  obtain ⟨i, hi, rfl⟩ := List.mem_map.mp hb
  exact letter_ok (h i hi)
theorem bl_of {b c : Bool} (h : b = c) : V.bl b = V.bl c := by rw [h]
theorem kindsOk_ex (ns : List Int) : True := trivial
theorem not_lc {r : List V → Hp → VK → Prop} {wi : TI} {g : TG} {tt : TT} {te : TE} {vs : List Nat} {σ : L2.St} {H : Hp} {Q : Bool → Hp → Prop}
    (h : wi σ H fun J H1 => tLc (fun _ H R => R J H) g tt te vs σ H1 fun x H2 => r [x] H2 fun v H3 => ∃ c, v = .bl c ∧ Q (!c) H3) :
    tNot (fun σ H Q => tCB r (tCons (tLc wi g tt te vs) tNil) σ H fun x H1 => ∃ c, x = .bl c ∧ Q c H1) σ H Q := h
abbrev nInit : List Str := ["self", "letters", "letter"]
section
variable {P : Program} {w : World} {K : PySem.W.Frag} {mg : Str → Option Value} {base : Heap}
theorem scInit : FnScope nInit ["self", "letters"] (defScope sInit) := ⟨rfl, rfl, rfl, by decide +kernel, rfl, by decide +kernel, by decide +kernel⟩
theorem ok_init {C f : Addr} {fd : FuncData} (F : Fun K "__init__" "Word.__init__" sInit f fd) (T : TxW K mg C) (TA : TxA mg) (GL : Cal P w K mg base "is_listed" 1 ["value"] (spListE K)) (GX : Cal P w K mg base "is_letter" 3 ["value"] spLetter)
    (GF : Cal P w K mg base "need_few_letters" 1 ["many"] spFew) (GK : Cal P w K mg base "kinds_of" 1 ["letters"] (spKinds K)) (GS : Cal P w K mg base "shortened_letters" 1 ["letters"] (spShr K)) (GR : Cal P w K mg base "rounded_letters" 2 ["letters"] (spRnd K)) :
    FnOk P w K mg base CX0 4 f fd ["self", "letters"] (spInit K C) := by
  refine F.ok scInit (fun vs H Q E h => ?_) (fun cdv A outer s H vs Q E hr h => ?_)
  · obtain ⟨H0, p, dx, a, ns, rfl, _⟩ := h
    rfl
  · obtain ⟨H0, p, dx, a, ns, rfl, s0, p0, hp, hS, hlen, hl, k⟩ := h
    rcases hS with hS | hS
    · refine ⟨_, pss_cons (ps_if (PW.pt (pw_or (pt_not (pt_val (pe_cal GL hr (by decide) (by rfl) (pa_cons (pv 1) pa_nil)))) (pw_or1 (pt_not (pt_val (pe_callB (cr_all rfl) (by rfl) T.all (by decide +kernel) (pa_cons (pe_lc (own := [("letter", 2)]) (g := gName 2) (tt := tYes) rfl scInit.nd (pi_list (pv 1))
          (blkOk_by (N := nInit) (sc := defScope sInit) (by decide +kernel)) (fun _ _ _ _ _ => pg_name (i := 2) scInit.nd rfl (Or.inl rfl)) (fun _ _ _ _ _ => pts_nil)
          (fun _ _ _ _ _ => pe_cal GX hr (by decide) (by rfl) (pa_cons (pv 2) pa_nil))) pa_nil))))))) (pss_one ps_never) pss_nil)
        (pss_cons (ps_expr (pe_cal GF hr (by decide) (by rfl) (pa_cons (pe_callB call_len_seq (by rfl) TA.len PySem.boot_len (pa_cons (pv 1) pa_nil)) pa_nil)))
        (pss_cons (ps_fld (pv 0) (pe_callTy call_tupB (by rfl) TA.tuple (by decide +kernel) (pa_cons (pv 1) pa_nil)) rfl)
        (pss_cons (ps_fld (pv 0) (pe_callB call_len_seq (by rfl) TA.len PySem.boot_len (pa_cons (pv 1) pa_nil)) rfl)
        (pss_cons (ps_fld (pv 0) (pe_cal GK hr (by decide) (by rfl) (pa_cons (pv 1) pa_nil)) rfl)
        (pss_cons (ps_fld (pv 0) (pe_cmpR (op_eqD hr.units) (pe_cal GS hr (by decide) (by rfl) (pa_cons (pv 1) pa_nil)) (pe_fld (pv 0) rfl) (nomark _)) rfl)
        (pss_one (ps_fld (pv 0) (pe_cmpR (op_eqD hr.units) (pe_cal GR hr (by decide) (by rfl) (pa_cons (pv 1) pa_nil)) (pe_fld (pv 0) rfl) (nomark _)) rfl))))))), ?_⟩
      have E0 : SqE K H0 a (iv ns) := .inl hS
      refine ⟨_, rfl, a, _, rfl, E0.same s0, fun H1 s1 => ⟨_, rfl, ?_⟩⟩
      have s01 := s0.trans s1
      refine iteF ?_
      refine not_lc ?_
      refine ⟨_, rfl, a, rfl, ⟨_, (s01.seq hS)⟩, ?_⟩
      refine lcp (walk_list (xs := iv ns)) (fun _ => true) (fun x => .bl (letterB x)) (by simp; omega) (fun H2 s2 => (s01.trans s2).seq hS) ?_ ?_
      · intro x hx H2 s2 Qy Qn ky kn
        obtain ⟨i, hi, rfl⟩ := List.mem_map.mp hx
        exact ⟨rfl, yes_te ⟨_, rfl, .int i, _, rfl, .int i, ky rfl H2 (fun _ _ e => e)⟩⟩
      intro D H2 hD s2 h2
      have s02 := s01.trans s2
      refine ⟨D, ns.map fun i => letterB (.int i), rfl, SqL.of (by
        rw [h2, List.filter_eq_self.mpr (fun _ _ => rfl), List.map_map, List.map_map]
        rfl), ?_⟩
      rw [all_ok hl]
      refine ⟨_, rfl, iteF ?_⟩
      -- not too many
      refine ⟨_, rfl, a, _, rfl, E0.same s02, ((iv ns).length : Int), rfl, by rw [List.length_map]; omega, ?_⟩
      have hp2 : H2 p = some (.ins C dx []) := s2 _ _ (s1 _ _ hp)
      -- its letters
      refine ⟨_, rfl, a, _, rfl, .inl ⟨s02.seq hS, fun tl H3 s23 t3 => ?_⟩⟩
      have s3 := s02.trans s23
      have hp3 := s23 _ _ hp2
      refine ⟨_, rfl, p, C, dx, _, rfl, hp3, T.cl, T.nL, (by show 0 < 1000; decide), ?_⟩
      have hp4 : L2.upd H3 p (.ins C dx (putF "letters" (.ref tl) [])) p = some (.ins C dx [("letters", .ref tl)]) := by rw [upd_same]; rfl
      have s4 := same_put (o := .ins C dx (putF "letters" (.ref tl) [])) s3 p0
      have t4 := SqB.put (o := .ins C dx (putF "letters" (.ref tl) [])) t3 hp3
      refine gen_heap fun H4 e4 => ?_
      rw [← e4] at hp4 s4 t4
      -- how many
      refine ⟨_, rfl, a, _, rfl, E0.same s4, _, rfl, p, C, dx, _, rfl, hp4, T.cl, T.nN, (by show 1 < 1000; decide), ?_⟩
      have hp5 : L2.upd H4 p (.ins C dx (putF "length" (.int ((iv ns).length : Nat)) [("letters", .ref tl)])) p = some (.ins C dx [("letters", .ref tl), ("length", .int (ns.length : Nat))]) := by
        rw [upd_same, pf_ne ne1, List.length_map]
        rfl
      have s5 := same_put (o := .ins C dx (putF "length" (.int ((iv ns).length : Nat)) [("letters", .ref tl)])) s4 p0
      have t5 := SqB.put (o := .ins C dx (putF "length" (.int ((iv ns).length : Nat)) [("letters", .ref tl)])) t4 hp4
      refine gen_heap fun H5 e5 => ?_
      rw [← e5] at hp5 s5 t5
      -- its kinds
      refine ⟨_, rfl, a, ns, rfl, E0.same s5, by omega, hl, fun ks hk tk H6 s6 tk6 => ?_⟩
      have hp6 := s6 _ _ hp5
      have s06 := s5.trans s6
      have t6 := SqB.same s6 t5
      refine ⟨_, rfl, p, C, dx, _, rfl, hp6, T.cl, T.nK, (by show 2 < 1000; decide), ?_⟩
      have hp7 : L2.upd H6 p (.ins C dx (putF "kinds" (.ref tk) [("letters", .ref tl), ("length", .int (ns.length : Nat))])) p = some (.ins C dx [("letters", .ref tl), ("length", .int (ns.length : Nat)), ("kinds", .ref tk)]) := by
        rw [upd_same, pf_ne ne2, pf_ne ne5]
        rfl
      have s7 := same_put (o := .ins C dx (putF "kinds" (.ref tk) [("letters", .ref tl), ("length", .int (ns.length : Nat))])) s06 p0
      have t7 := SqB.put (o := .ins C dx (putF "kinds" (.ref tk) [("letters", .ref tl), ("length", .int (ns.length : Nat))])) t6 hp6
      have k7 := SqT.put (o := .ins C dx (putF "kinds" (.ref tk) [("letters", .ref tl), ("length", .int (ns.length : Nat))])) tk6 hp6
      refine gen_heap fun H7 e7 => ?_
      rw [← e7] at hp7 s7 t7 k7
      -- short
      refine ⟨_, rfl, a, ns, rfl, E0.same s7, by omega, fun q H8 s8 q8 => ?_⟩
      have hp8 := s8 _ _ hp7
      have s08 := s7.trans s8
      have t8 := SqB.same s8 t7
      have k8 := WR.Same.seqT s8 k7
      refine ⟨_, rfl, p, C, dx, _, _, rfl, hp8, T.cl, T.nL, lk_eq, ?_⟩
      refine ⟨_, _, .tup q8.sq (dp_iv _), .tup t8.sq (dp_iv _), shaped_ints _, shaped_ints _, ?_⟩
      rw [eqv_ints]
      refine ⟨_, rfl, p, C, dx, _, rfl, hp8, T.cl, T.nS, (by show 3 < 1000; decide), ?_⟩
      have hp9 : L2.upd H8 p (.ins C dx (putF "is_short" (.bl (decide (Fr.shr ns = ns))) [("letters", .ref tl), ("length", .int (ns.length : Nat)), ("kinds", .ref tk)])) p = some (.ins C dx [("letters", .ref tl), ("length", .int (ns.length : Nat)), ("kinds", .ref tk), ("is_short", .bl (decide (Fr.shr ns = ns)))]) := by
        rw [upd_same, pf_ne ne3, pf_ne ne6, pf_ne ne8]
        rfl
      have s9 := same_put (o := .ins C dx (putF "is_short" (.bl (decide (Fr.shr ns = ns))) [("letters", .ref tl), ("length", .int (ns.length : Nat)), ("kinds", .ref tk)])) s08 p0
      have t9 := SqB.put (o := .ins C dx (putF "is_short" (.bl (decide (Fr.shr ns = ns))) [("letters", .ref tl), ("length", .int (ns.length : Nat)), ("kinds", .ref tk)])) t8 hp8
      have k9 := SqT.put (o := .ins C dx (putF "is_short" (.bl (decide (Fr.shr ns = ns))) [("letters", .ref tl), ("length", .int (ns.length : Nat)), ("kinds", .ref tk)])) k8 hp8
      refine gen_heap fun H9 e9 => ?_
      rw [← e9] at hp9 s9 t9 k9
      -- short round
      refine ⟨_, rfl, a, ns, rfl, E0.same s9, by omega, hl.nz, fun q2 Ha sa qa => ?_⟩
      have hpa := sa _ _ hp9
      have s0a := s9.trans sa
      have ta := SqB.same sa t9
      have ka := WR.Same.seqT sa k9
      refine ⟨_, rfl, p, C, dx, _, _, rfl, hpa, T.cl, T.nL, lk_eq, ?_⟩
      refine ⟨_, _, .tup qa.sq (dp_iv _), .tup ta.sq (dp_iv _), shaped_ints _, shaped_ints _, ?_⟩
      rw [eqv_ints]
      refine ⟨_, rfl, p, C, dx, _, rfl, hpa, T.cl, T.nR, (by show 4 < 1000; decide), ?_⟩
      refine k _ (same_put s0a p0) ⟨dx, tl, tk, ks, ?_, SqB.put ta hpa, SqT.put ka hpa, hk⟩
      rw [upd_same, pf_ne ne4, pf_ne ne7, pf_ne ne9, pf_ne ne10]
      rfl
    · refine ⟨_, pss_cons (ps_if (PW.pt (pw_or (pt_not (pt_val (pe_cal GL hr (by decide) (by rfl) (pa_cons (pv 1) pa_nil)))) (pw_or1 (pt_not (pt_val (pe_callB (cr_all rfl) (by rfl) T.all (by decide +kernel) (pa_cons (pe_lc (own := [("letter", 2)]) (g := gName 2) (tt := tYes) rfl scInit.nd (pi_tup (pv 1))
          (blkOk_by (N := nInit) (sc := defScope sInit) (by decide +kernel)) (fun _ _ _ _ _ => pg_name (i := 2) scInit.nd rfl (Or.inl rfl)) (fun _ _ _ _ _ => pts_nil)
          (fun _ _ _ _ _ => pe_cal GX hr (by decide) (by rfl) (pa_cons (pv 2) pa_nil))) pa_nil))))))) (pss_one ps_never) pss_nil)
        (pss_cons (ps_expr (pe_cal GF hr (by decide) (by rfl) (pa_cons (pe_callB call_len_seq (by rfl) TA.len PySem.boot_len (pa_cons (pv 1) pa_nil)) pa_nil)))
        (pss_cons (ps_fld (pv 0) (pe_callTy call_tupB (by rfl) TA.tuple (by decide +kernel) (pa_cons (pv 1) pa_nil)) rfl)
        (pss_cons (ps_fld (pv 0) (pe_callB call_len_seq (by rfl) TA.len PySem.boot_len (pa_cons (pv 1) pa_nil)) rfl)
        (pss_cons (ps_fld (pv 0) (pe_cal GK hr (by decide) (by rfl) (pa_cons (pv 1) pa_nil)) rfl)
        (pss_cons (ps_fld (pv 0) (pe_cmpR (op_eqD hr.units) (pe_cal GS hr (by decide) (by rfl) (pa_cons (pv 1) pa_nil)) (pe_fld (pv 0) rfl) (nomark _)) rfl)
        (pss_one (ps_fld (pv 0) (pe_cmpR (op_eqD hr.units) (pe_cal GR hr (by decide) (by rfl) (pa_cons (pv 1) pa_nil)) (pe_fld (pv 0) rfl) (nomark _)) rfl))))))), ?_⟩
      have E0 : SqE K H0 a (iv ns) := .inr hS
      refine ⟨_, rfl, a, _, rfl, E0.same s0, fun H1 s1 => ⟨_, rfl, ?_⟩⟩
      have s01 := s0.trans s1
      refine iteF ?_
      refine not_lc ?_
      refine ⟨_, rfl, a, rfl, ⟨_, (WR.Same.seqT s01 hS.sq)⟩, ?_⟩
      refine lcp (walk_tup (xs := iv ns)) (fun _ => true) (fun x => .bl (letterB x)) (by simp; omega) (fun H2 s2 => WR.Same.seqT (s01.trans s2) hS.sq) ?_ ?_
      · intro x hx H2 s2 Qy Qn ky kn
        obtain ⟨i, hi, rfl⟩ := List.mem_map.mp hx
        exact ⟨rfl, yes_te ⟨_, rfl, .int i, _, rfl, .int i, ky rfl H2 (fun _ _ e => e)⟩⟩
      intro D H2 hD s2 h2
      have s02 := s01.trans s2
      refine ⟨D, ns.map fun i => letterB (.int i), rfl, SqL.of (by
        rw [h2, List.filter_eq_self.mpr (fun _ _ => rfl), List.map_map, List.map_map]
        rfl), ?_⟩
      rw [all_ok hl]
      refine ⟨_, rfl, iteF ?_⟩
      -- not too many
      refine ⟨_, rfl, a, _, rfl, E0.same s02, ((iv ns).length : Int), rfl, by rw [List.length_map]; omega, ?_⟩
      have hp2 : H2 p = some (.ins C dx []) := s2 _ _ (s1 _ _ hp)
      -- its letters
      refine ⟨_, rfl, a, _, rfl, .inr ⟨SqB.same s02 hS, ?_⟩⟩
      have s3 := s02
      have hp3 := hp2
      have t3 : SqB K H2 a (iv ns) := SqB.same s02 hS
      refine gen_heap fun H3 e3 => ?_
      rw [← e3] at s3 hp3 t3
      refine ⟨_, rfl, p, C, dx, _, rfl, hp3, T.cl, T.nL, (by show 0 < 1000; decide), ?_⟩
      have hp4 : L2.upd H3 p (.ins C dx (putF "letters" (.ref a) [])) p = some (.ins C dx [("letters", .ref a)]) := by rw [upd_same]; rfl
      have s4 := same_put (o := .ins C dx (putF "letters" (.ref a) [])) s3 p0
      have t4 := SqB.put (o := .ins C dx (putF "letters" (.ref a) [])) t3 hp3
      refine gen_heap fun H4 e4 => ?_
      rw [← e4] at hp4 s4 t4
      -- how many
      refine ⟨_, rfl, a, _, rfl, E0.same s4, _, rfl, p, C, dx, _, rfl, hp4, T.cl, T.nN, (by show 1 < 1000; decide), ?_⟩
      have hp5 : L2.upd H4 p (.ins C dx (putF "length" (.int ((iv ns).length : Nat)) [("letters", .ref a)])) p = some (.ins C dx [("letters", .ref a), ("length", .int (ns.length : Nat))]) := by
        rw [upd_same, pf_ne ne1, List.length_map]
        rfl
      have s5 := same_put (o := .ins C dx (putF "length" (.int ((iv ns).length : Nat)) [("letters", .ref a)])) s4 p0
      have t5 := SqB.put (o := .ins C dx (putF "length" (.int ((iv ns).length : Nat)) [("letters", .ref a)])) t4 hp4
      refine gen_heap fun H5 e5 => ?_
      rw [← e5] at hp5 s5 t5
      -- its kinds
      refine ⟨_, rfl, a, ns, rfl, E0.same s5, by omega, hl, fun ks hk tk H6 s6 tk6 => ?_⟩
      have hp6 := s6 _ _ hp5
      have s06 := s5.trans s6
      have t6 := SqB.same s6 t5
      refine ⟨_, rfl, p, C, dx, _, rfl, hp6, T.cl, T.nK, (by show 2 < 1000; decide), ?_⟩
      have hp7 : L2.upd H6 p (.ins C dx (putF "kinds" (.ref tk) [("letters", .ref a), ("length", .int (ns.length : Nat))])) p = some (.ins C dx [("letters", .ref a), ("length", .int (ns.length : Nat)), ("kinds", .ref tk)]) := by
        rw [upd_same, pf_ne ne2, pf_ne ne5]
        rfl
      have s7 := same_put (o := .ins C dx (putF "kinds" (.ref tk) [("letters", .ref a), ("length", .int (ns.length : Nat))])) s06 p0
      have t7 := SqB.put (o := .ins C dx (putF "kinds" (.ref tk) [("letters", .ref a), ("length", .int (ns.length : Nat))])) t6 hp6
      have k7 := SqT.put (o := .ins C dx (putF "kinds" (.ref tk) [("letters", .ref a), ("length", .int (ns.length : Nat))])) tk6 hp6
      refine gen_heap fun H7 e7 => ?_
      rw [← e7] at hp7 s7 t7 k7
      -- short
      refine ⟨_, rfl, a, ns, rfl, E0.same s7, by omega, fun q H8 s8 q8 => ?_⟩
      have hp8 := s8 _ _ hp7
      have s08 := s7.trans s8
      have t8 := SqB.same s8 t7
      have k8 := WR.Same.seqT s8 k7
      refine ⟨_, rfl, p, C, dx, _, _, rfl, hp8, T.cl, T.nL, lk_eq, ?_⟩
      refine ⟨_, _, .tup q8.sq (dp_iv _), .tup t8.sq (dp_iv _), shaped_ints _, shaped_ints _, ?_⟩
      rw [eqv_ints]
      refine ⟨_, rfl, p, C, dx, _, rfl, hp8, T.cl, T.nS, (by show 3 < 1000; decide), ?_⟩
      have hp9 : L2.upd H8 p (.ins C dx (putF "is_short" (.bl (decide (Fr.shr ns = ns))) [("letters", .ref a), ("length", .int (ns.length : Nat)), ("kinds", .ref tk)])) p = some (.ins C dx [("letters", .ref a), ("length", .int (ns.length : Nat)), ("kinds", .ref tk), ("is_short", .bl (decide (Fr.shr ns = ns)))]) := by
        rw [upd_same, pf_ne ne3, pf_ne ne6, pf_ne ne8]
        rfl
      have s9 := same_put (o := .ins C dx (putF "is_short" (.bl (decide (Fr.shr ns = ns))) [("letters", .ref a), ("length", .int (ns.length : Nat)), ("kinds", .ref tk)])) s08 p0
      have t9 := SqB.put (o := .ins C dx (putF "is_short" (.bl (decide (Fr.shr ns = ns))) [("letters", .ref a), ("length", .int (ns.length : Nat)), ("kinds", .ref tk)])) t8 hp8
      have k9 := SqT.put (o := .ins C dx (putF "is_short" (.bl (decide (Fr.shr ns = ns))) [("letters", .ref a), ("length", .int (ns.length : Nat)), ("kinds", .ref tk)])) k8 hp8
      refine gen_heap fun H9 e9 => ?_
      rw [← e9] at hp9 s9 t9 k9
      -- short round
      refine ⟨_, rfl, a, ns, rfl, E0.same s9, by omega, hl.nz, fun q2 Ha sa qa => ?_⟩
      have hpa := sa _ _ hp9
      have s0a := s9.trans sa
      have ta := SqB.same sa t9
      have ka := WR.Same.seqT sa k9
      refine ⟨_, rfl, p, C, dx, _, _, rfl, hpa, T.cl, T.nL, lk_eq, ?_⟩
      refine ⟨_, _, .tup qa.sq (dp_iv _), .tup ta.sq (dp_iv _), shaped_ints _, shaped_ints _, ?_⟩
      rw [eqv_ints]
      refine ⟨_, rfl, p, C, dx, _, rfl, hpa, T.cl, T.nR, (by show 4 < 1000; decide), ?_⟩
      refine k _ (same_put s0a p0) ⟨dx, a, tk, ks, ?_, SqB.put ta hpa, SqT.put ka hpa, hk⟩
      rw [upd_same, pf_ne ne4, pf_ne ne7, pf_ne ne9, pf_ne ne10]
      rfl
end
end W03
set_option Elab.async false
set_option linter.all false
set_option maxRecDepth 100000
set_option maxHeartbeats 2000000
namespace W03
open PySem L2 PySem.Spec PyProof.Rows WR WB
abbrev sEq : Stmt := inClass (top 31) 1
/-- some word of these letters, all else as it stood -/
def NewW (K : PySem.W.Frag) (C : Addr) (H : Hp) (Q : VK) (ns : List Int) : Prop := ∀ p H', Same H H' → WordAt K C H' p ns → Q (.ref p) H'
theorem make_word {K : PySem.W.Frag} {C : Addr} {H1 : Hp} {q : Addr} {ms : List Int} {Q : VK} {E : XK} (hq : SqW K H1 q (iv ms)) (hlen : ms.length ≤ 500) (hl : Lts ms) (k : NewW K C H1 Q ms) :
    ∀ x dx, H1 x = none → H1 dx = none → dx ≠ x → spInit K C [.ref x, .ref q] (L2.upd (L2.upd H1 dx (.own x)) x (.ins C dx [])) (fun v H2 => v = .non ∧ Q (.ref x) H2) E := by
  intro x dx nx ndx nex
  have s0 : Same H1 (L2.upd (L2.upd H1 dx (.own x)) x (.ins C dx [])) := fun b o e => by
    rw [upd_ne (ne_of_none e nx), upd_ne (ne_of_none e ndx)]
    exact e
  exact ⟨H1, x, dx, q, ms, rfl, s0, nx, upd_same, hq, hlen, hl, fun H' s' W' => ⟨rfl, k x H' s' W'⟩⟩
def spOne (K : PySem.W.Frag) (C : Addr) (fn : List Int → List Int) : Sp := fun vs H Q _ => ∃ (p : Addr) (ns : List Int), vs = [.ref p] ∧ WordAt K C H p ns ∧ ns.length ≤ 500 ∧ Lts ns ∧ NewW K C H Q (fn ns)
def spEq (K : PySem.W.Frag) (C : Addr) : Sp := fun vs H Q _ => ∃ (p q : Addr) (ns ms : List Int), vs = [.ref p, .ref q] ∧ WordAt K C H p ns ∧ WordAt K C H q ms ∧ Q (.bl (decide (ns = ms))) H
/-- so many times, for a number below 0 the contrary so many times -/
def tms (n : Int) (ns : List Int) : List Int := if 0 < n then Fr.rep n.natAbs ns else Fr.rep n.natAbs (Fr.con ns)
def spTimes (K : PySem.W.Frag) (C : Addr) : Sp := fun vs H Q _ => ∃ (p : Addr) (n : Int) (ns : List Int), vs = [.ref p, .int n] ∧ WordAt K C H p ns ∧ ns.length ≤ 500 ∧ ns.length * n.natAbs ≤ 500 ∧ Lts ns ∧ NewW K C H Q (tms n ns)
def spNeedW (K : PySem.W.Frag) (C : Addr) : Sp := fun vs H Q _ => ∃ (q : Addr) (z : V) (ms : List Int), vs = [.ref q, z] ∧ WordAt K C H q ms ∧ Q .non H
theorem Lts.con {ns : List Int} (h : Lts ns) : Lts (Fr.con ns) := fun x hx => by
  unfold Fr.con at hx
  obtain ⟨y, hy, rfl⟩ := List.mem_map.mp hx
  have := h y (List.mem_reverse.mp hy)
  rw [Int.natAbs_neg]
  exact this
theorem Lts.app {ns ms : List Int} (h : Lts ns) (k : Lts ms) : Lts (ns ++ ms) := fun x hx => by
  rcases List.mem_append.mp hx with e | e
  · exact h x e
  · exact k x e
theorem Lts.shr {ns : List Int} (h : Lts ns) : Lts (Fr.shr ns) := fun x hx => h x (Fr.shr_mem hx)
theorem Lts.rep {ns : List Int} (h : Lts ns) : ∀ n, Lts (Fr.rep n ns)
  | 0 => fun x hx => nomatch hx
  | n + 1 => h.app (Lts.rep h n)
theorem rnd_sub {ns : List Int} (nz : Fr.NZ ns) : ∃ u, Fr.shr ns = u ++ Fr.rnd ns ++ Fr.con u := by
  obtain ⟨u, m, e, c, z⟩ := Fr.parted (Fr.shr ns) nz.shr (Fr.rd_shr ns)
  refine ⟨u, ?_⟩
  have er : Fr.rnd ns = m := by
    unfold Fr.rnd
    rw [e, Fr.ends_eq c z]
  rw [er]
  exact e
theorem Lts.rnd {ns : List Int} (h : Lts ns) : Lts (Fr.rnd ns) := fun x hx => by
  obtain ⟨u, e⟩ := rnd_sub h.nz
  refine h.shr x ?_
  rw [e]
  simp [hx]
theorem rnd_len {ns : List Int} (h : Lts ns) : (Fr.rnd ns).length ≤ ns.length := by
  obtain ⟨u, e⟩ := rnd_sub h.nz
  have h1 := shr_len ns
  rw [e] at h1
  rw [whole_len] at h1
  omega
theorem rep_flat (n : Nat) (ns : List Int) : (List.replicate n (iv ns)).flatten = iv (Fr.rep n ns) := by
  induction n with
  | zero => rfl
  | succ n ih => 
    rw [List.replicate_succ, List.flatten_cons, ih, Fr.rep_succ]
    exact List.map_append.symm
theorem WordAt.tyx {K : PySem.W.Frag} {mg : Str → Option Value} {C : Addr} {H : Hp} {p : Addr} {ns : List Int} (h : WordAt K C H p ns) (T : TxW K mg C) : TyX K H (.ref p) (.ref C) := by
  obtain ⟨dx, tl, tk, ks, h1, _⟩ := h
  exact .base (.ins h1 T.cl T.ca T.cn T.ct T.cm)
theorem kit_self {K : PySem.W.Frag} (C : Addr) : PySem.W.kitOne K (.ref C) (.ref C) = some true := by
  unfold PySem.W.kitOne
  rw [if_pos (by simp)]
structure MkW (P : Program) (w : World) (K : PySem.W.Frag) (mg : Str → Option Value) (base : Heap) (C : Addr) : Prop where
  ex : ∃ (f : Addr) (fd : FuncData), Mk K C f ∧ FnOk P w K mg base CX0 4 f fd ["self", "letters"] (spInit K C) ∧ Binds K fd ["self", "letters"] []
section
variable {X : Cx} {C : Addr} {p pos : Pos} {e : Expr} {es : List Expr} {t : TA} {j : Nat}
theorem pe_word (M : MkW X.prog X.w X.K X.mg X.base C) (T : TxW X.K X.mg C) (hr : Room j X.A) (hkj : 5 ≤ j) (hg : Gl X "Word") (ha : PA X (e :: es) t)
    (he : starEach (e :: es) X.env = (false, eval e X.env) :: starEach es X.env := by rfl) (hpl : (backTo pos (starEach es X.env)).any (·.1) = false := by rfl) :
    PE X (.Call (.Name "Word" p) (e :: es) [] pos) (tMake C (spInit X.K C) [] E0 t) := by
  obtain ⟨f, fd, M, F, hb⟩ := M.ex
  exact pe_make M F (hr.mono hkj) hg T.mgW hb .nil pass0 ha (by decide) he hpl
end
section
variable {P : Program} {w : World} {K : PySem.W.Frag} {mg : Str → Option Value} {base : Heap}
theorem scEq : FnScope ["self", "other"] ["self", "other"] (defScope sEq) := ⟨rfl, rfl, rfl, by decide +kernel, rfl, by decide +kernel, by decide +kernel⟩
theorem ok_eq {C f : Addr} {fd : FuncData} (F : Fun K "__eq__" "Word.__eq__" sEq f fd) (T : TxW K mg C) : FnOk P w K mg base CX0 1 f fd ["self", "other"] (spEq K C) := by
  refine F.ok scEq (fun vs H Q E h => ?_) (fun cdv A outer s H vs Q E hr h => ?_)
  · obtain ⟨p, q, ns, ms, rfl, _⟩ := h
    rfl
  · obtain ⟨p, q, ns, ms, rfl, W1, W2, k⟩ := h
    refine ⟨_, pss_one (ps_ret (pe_and (pe_callB call_isi (by rfl) T.isin (by decide +kernel) (pa_cons (pv 1) (pa_cons (pe_glob (v := .ref C) (by rfl) T.mgW rfl) pa_nil)))
      (pe_one (pe_cmpR (op_eqD hr.units) (pe_fld (pv 0) rfl) (pe_fld (pv 1) rfl) (nomark _))))), ?_⟩
    refine ⟨_, rfl, _, _, _, _, _, rfl, .own C, W2.tyx T, kit_self C, _, rfl, ?_⟩
    refine iteT ?_
    obtain ⟨dx, tl, tk, ks, h1, h2, h3, h4⟩ := W1
    obtain ⟨dx', tl', tk', ks', h1', h2', h3', h4'⟩ := W2
    refine ⟨_, rfl, p, C, dx, _, _, rfl, h1, T.cl, T.nL, wf_letters, _, rfl, q, C, dx', _, _, rfl, h1', T.cl, T.nL, wf_letters, ?_⟩
    refine ⟨_, _, .tup h2.sq (dp_iv _), .tup h2'.sq (dp_iv _), shaped_ints _, shaped_ints _, ?_⟩
    rw [eqv_ints]
    exact k
theorem scNeedW : FnScope ["value", "part"] ["value", "part"] (defScope sNeedW) := ⟨rfl, rfl, rfl, by decide +kernel, rfl, by decide +kernel, by decide +kernel⟩
theorem ok_needW {C f : Addr} {fd : FuncData} (F : Fun K "need_word" "need_word" sNeedW f fd) (T : TxW K mg C) : FnOk P w K mg base CX0 1 f fd ["value", "part"] (spNeedW K C) := by
  refine F.ok scNeedW (fun vs H Q E h => ?_) (fun cdv A outer s H vs Q E hr h => ?_)
  · obtain ⟨q, z, ms, rfl, _⟩ := h
    rfl
  · obtain ⟨q, z, ms, rfl, W2, k⟩ := h
    refine ⟨_, pss_one (ps_if (pt_not (pt_val (pe_callB call_isi (by rfl) T.isin (by decide +kernel) (pa_cons (pv 0) (pa_cons (pe_glob (v := .ref C) (by rfl) T.mgW rfl) pa_nil))))) (pss_one ps_never) pss_nil), ?_⟩
    exact ⟨_, rfl, _, _, _, _, _, rfl, .own C, W2.tyx T, kit_self C, _, rfl, iteF k⟩
theorem abs_eq (n : Int) : (if n < 0 then -n else n) = (n.natAbs : Int) := by split <;> omega
end
end W03
set_option Elab.async false
set_option linter.all false
set_option maxRecDepth 100000
set_option maxHeartbeats 2000000
namespace W03
open PySem L2 WR WB
abbrev sJar : Stmt := top 43
abbrev sDraw : Stmt := top 44
/-! ### the hand that draws -/
/-- at a: a hand, of which at most n cells were begun -/
def HandAt (H : Hp) (a c : Addr) (n : Nat) : Prop := ∃ (ns : List Int) (i r : Int), H a = some (.lst [.ref c, .int i, .int r]) ∧ H c = some (.lst (ns.map V.int)) ∧ c ≠ a ∧ ns.length ≤ 1000 ∧ 0 ≤ i ∧ i ≤ (n : Int) ∧ 0 ≤ r
/-- all but what is at a stands as it did -/
def Kept (a : Addr) (H H' : Hp) : Prop := ∀ b o, b ≠ a → H b = some o → H' b = some o
theorem Kept.refl {a : Addr} {H : Hp} : Kept a H H := fun _ _ _ e => e
theorem Kept.trans {a : Addr} {H H1 H2 : Hp} (h1 : Kept a H H1) (h2 : Kept a H1 H2) : Kept a H H2 := fun b o n e => h2 b o n (h1 b o n e)
theorem Kept.upd {a : Addr} {H : Hp} {o : HO} : Kept a H (upd H a o) := fun b u n e => by rw [upd_ne n]; exact e
theorem Kept.new {a p : Addr} {H H' : Hp} {o : HO} (k : Kept a H H') (hp : H' p = none) : Kept a H (L2.upd H' p o) := fun b u n e => by
  rw [upd_ne (ne_of_none (k b u n e) hp)]
  exact k b u n e

theorem HandAt.put {H : Hp} {a c : Addr} {ns : List Int} {i r : Int} {n : Nat} (hC : H c = some (.lst (ns.map V.int))) (hca : c ≠ a) (hl : ns.length ≤ 1000) (i0 : 0 ≤ i) (hi : i ≤ (n : Int)) (r0 : 0 ≤ r) :
    HandAt (L2.upd H a (.lst [.ref c, .int i, .int r])) a c n := ⟨ns, i, r, upd_same, by rw [upd_ne hca]; exact hC, hca, hl, i0, hi, r0⟩
def spHand (K : PySem.W.Frag) : Sp := fun vs H Q _ => ∃ (a : Addr) (ns : List Int), vs = [.ref a] ∧ SqL K H a (ns.map V.int) ∧ ns.length ≤ 1000 ∧
  ∀ (H' : Hp) (p c : Addr), Same H H' → H p = none → H c = none → HandAt H' p c 0 → Q (.ref p) H'
def spTake : Sp := fun vs H Q _ => ∃ (a c : Addr) (m : Int) (n : Nat), vs = [.ref a, .int m] ∧ HandAt H a c n ∧ n ≤ 10000 ∧ 0 < m ∧ m.natAbs < 2 ^ 200 ∧
  ∀ (H' : Hp) (q : Int), 0 ≤ q → q < m → HandAt H' a c (n + 1) → Kept a H H' → Q (.int q) H'

theorem dpInts {K : PySem.W.Frag} {H : Hp} : ∀ ns : List Int, DpAll K H (ns.map V.int) (ns.map PyData.int)
  | [] => .nil
  | n :: r => .cons (.int n) (dpInts r)
structure TxL (mg : Str → Option Value) : Prop where
  int : mg "int" = none
  len : mg "len" = none
  abs : mg "abs" = none
section
variable {P : Program} {w : World} {K : PySem.W.Frag} {mg : Str → Option Value} {base : Heap}
theorem scHand : FnScope ["_law_script", "_law_cell"] ["_law_script"] (defScope sJar) := ⟨rfl, rfl, rfl, by decide +kernel, rfl, by decide +kernel, by decide +kernel⟩
theorem ok_hand {f : Addr} {fd : FuncData} (F : Fun K "_law_hand" "_law_hand" sJar f fd) (T : TxL mg) : FnOk P w K mg base CX0 1 f fd ["_law_script"] (spHand K) := by
  refine F.ok scHand (fun vs H Q E h => ?_) (fun cdv A outer s H vs Q E hr h => ?_)
  · obtain ⟨a, ns, rfl, _⟩ := h
    rfl
  · obtain ⟨a, ns, rfl, hS, hlen, k⟩ := h
    refine ⟨_, pss_one (ps_ret (pe_lst (pa_cons (pe_lc (own := [("_law_cell", 1)]) (g := gName 1) (tt := tYes) rfl scHand.nd (pi_list (pe_slice sl_list (pv 0) po_none (po_some pe_int)))
      (blkOk_by (N := ["_law_script", "_law_cell"]) (sc := defScope sJar) (by decide +kernel)) (fun _ _ _ _ _ => pg_name (i := 1) scHand.nd rfl (Or.inl rfl)) (fun _ _ _ _ _ => pts_nil)
      (fun _ _ _ _ _ => pe_callTy call_int1 (by rfl) T.int (by decide +kernel) (pa_cons (pv 1) pa_nil))) (pa_cons pe_int (pa_cons pe_int pa_nil))))), ?_⟩
    refine ⟨_, rfl, 62, rfl, a, ns.map V.int, rfl, hS, fun p hp => ?_⟩
    refine ⟨p, rfl, ⟨_, SqL.of upd_same⟩, fun D hD => ?_⟩
    have hDp : D ≠ p := fun e => by
      rw [e, upd_same] at hD
      cases hD
    have hD0 : H D = none := by
      rw [upd_ne hDp] at hD
      exact hD
    have hc : cutV (ns.map V.int) none (some 62) = (ns.take 62).map V.int := by
      unfold cutV
      rw [List.map_take, List.length_map]
      have e0 : HT.sIx ns.length 0 none = 0 := rfl
      rw [e0, List.drop_zero]
      have e1 : HT.sIx ns.length ns.length (some 62) = min 62 ns.length := by
        unfold HT.sIx
        simp
        try omega
      rw [e1, Nat.sub_zero]
      by_cases h : 62 ≤ ns.length
      · rw [Nat.min_eq_left h]
      · rw [Nat.min_eq_right (by omega), List.take_of_length_le (by simp), List.take_of_length_le (by simp; omega)]
    refine lc_list (K := K) (a := p) (xs := (ns.take 62).map V.int) (fun i H' => H' D = some (.lst (((ns.take 62).take i).map V.int)) ∧ H' p = some (.lst ((ns.take 62).map V.int)) ∧ Same H H') ⟨upd_same, ?_, ?_⟩ (fun i H' _ q => SqL.of q.2.1) ?_ ?_
    · rw [upd_ne hDp.symm, upd_same, hc]
    · intro b o e
      rw [upd_ne (ne_of_none e hD0), upd_ne (ne_of_none e hp)]
      exact e
    · intro i x H' hi q
      obtain ⟨z, hz, rfl⟩ : ∃ z, (ns.take 62)[i]? = some z ∧ x = V.int z := by
        rw [List.getElem?_map] at hi
        cases e : (ns.take 62)[i]? with
        | none =>
          rw [e] at hi
          cases hi
        | some z =>
          rw [e] at hi
          exact ⟨z, rfl, (Option.some.inj hi).symm⟩
      have hli : i < (ns.take 62).length := (List.getElem?_eq_some_iff.mp hz).1
      have hl60 : (ns.take 62).length ≤ 62 := by rw [List.length_take]; omega
      refine ⟨rfl, ?_⟩
      refine yes_te ?_
      refine ⟨_, rfl, .inl ⟨z, rfl, _, q.1, Evl.sz_lt (by rw [List.length_map, List.length_take]; omega), ?_⟩⟩
      refine ⟨?_, ?_, ?_⟩
      · rw [upd_same]
        congr 2
        have ez : (ns.take 62)[i] = z := (List.getElem?_eq_some_iff.mp hz).2
        rw [List.take_succ_eq_append_getElem hli, ez, List.map_append]
        rfl
      · rw [upd_ne hDp.symm]
        exact q.2.1
      · intro b o e
        rw [upd_ne (ne_of_none e hD0)]
        exact q.2.2 b o e
    · intro H' q
      refine ⟨by show 3 ≤ sizeLine; decide, fun l hl => ?_⟩
      have hlD : D ≠ l := ne_of_none q.1 hl
      have hl0 : H l = none := by
        cases e : H l with
        | none => rfl
        | some o => rw [q.2.2 l o e] at hl; cases hl
      refine k _ l D (fun b o e => by rw [upd_ne (ne_of_none e hl0)]; exact q.2.2 b o e) hl0 hD0 ?_
      have q1 := q.1
      rw [List.length_map, List.take_length] at q1
      exact ⟨ns.take 62, 0, 0, upd_same, by rw [upd_ne hlD]; exact q1, hlD, by rw [List.length_take]; omega, Int.le_refl _, Int.le_refl _, Int.le_refl _⟩

theorem scTake : FnScope ["_law_hand_here", "_law_many", "_law_rest", "_law_at", "_law_cell", "_law_mixed"] ["_law_hand_here", "_law_many"] (defScope sDraw) := ⟨rfl, rfl, rfl, by decide +kernel, rfl, by decide +kernel, by decide +kernel⟩
theorem ok_take {f : Addr} {fd : FuncData} (F : Fun K "_law_take" "_law_take" sDraw f fd) (T : TxL mg) : FnOk P w K mg base CX0 1 f fd ["_law_hand_here", "_law_many"] spTake := by
  refine F.ok scTake (fun vs H Q E h => ?_) (fun cdv A outer s H vs Q E hr h => ?_)
  · obtain ⟨a, c, m, n, rfl, _⟩ := h
    rfl
  · obtain ⟨a, c, m, n, rfl, ⟨ns, i, r, hA, hC, hca, hlen, i0, hi, r0⟩, hn, m0, hm, k⟩ := h
    refine ⟨_, pss_cons (ps_if (pt_cmpR op_gt (pe_ix ix_list (pv 0) pe_int (fun _ _ => rfl)) pe_int (nomark _))
        (pss_cons (ps_set (i := 2) scTake.nd rfl (Or.inl rfl) (pe_ix ix_list (pv 0) pe_int (fun _ _ => rfl)))
        (pss_cons (ps_asg (pe_op op_fdivW (pe_callTy call_int1 (by rfl) T.int (by decide +kernel) (pa_cons (pv 2) pa_nil)) (pv 1)) (pg_sub (pv 0) pe_int set_list))
        (pss_one (ps_ret (pe_op op_mod (pe_callTy call_int1 (by rfl) T.int (by decide +kernel) (pa_cons (pv 2) pa_nil)) (pv 1)))))) pss_nil)
      (pss_cons (ps_set (i := 3) scTake.nd rfl (Or.inl rfl) (pe_ix ix_list (pv 0) pe_int (fun _ _ => rfl)))
      (pss_cons (ps_asg (pe_op op_add (pv 3) pe_int) (pg_sub (pv 0) pe_int set_list))
      (pss_cons (ps_set (i := 4) scTake.nd rfl (Or.inl rfl) (pe_op op_add (pe_op op_mul pe_int (pv 3)) pe_int))
      (Evl.pss_cut (ps_if (pt_cmpR (op_neD hr.units) (pe_ix ix_list (pv 0) pe_int (fun _ _ => rfl)) (pe_lst pa_nil) (nomark _))
        (pss_one (ps_set (i := 4) scTake.nd rfl (Or.inl rfl) (pe_ix ix_list (pe_ix ix_list (pv 0) pe_int (fun _ _ => rfl)) (pe_op op_mod (pe_callTy call_int1 (by rfl) T.int (by decide +kernel) (pa_cons (pv 3) pa_nil)) (pe_callB call_len_seq (by rfl) T.len PySem.boot_len (pa_cons (pe_ix ix_list (pv 0) pe_int (fun _ _ => rfl)) pa_nil))) (fun _ _ => rfl)))) pss_nil)
      (Evl.pss_cut (ps_if (PW.pt (pw_and (pt_cmpR op_lt (pv 3) (pe_callB call_len_seq (by rfl) T.len PySem.boot_len (pa_cons (pe_ix ix_list (pv 0) pe_int (fun _ _ => rfl)) pa_nil)) (nomark _)) (pw_and1 (pt_cmpR op_ge (pe_callB call_abs (by rfl) T.abs (by decide +kernel) (pa_cons (pv 4) pa_nil)) (pe_op op_pow pe_int pe_int) (nomark _)))))
        (pss_cons (ps_set (i := 2) scTake.nd rfl (Or.inl rfl) (pe_op op_add (pe_op op_mul pe_int (pe_op op_sub (pe_callB call_abs (by rfl) T.abs (by decide +kernel) (pa_cons (pv 4) pa_nil)) (pe_op op_pow pe_int pe_int))) (pe_callTy call_int1 (by rfl) T.int (by decide +kernel) (pa_cons (pe_cmpR op_lt (pv 4) pe_int (nomark _)) pa_nil))))
        (pss_cons (ps_asg (pe_op op_fdivW (pe_callTy call_int1 (by rfl) T.int (by decide +kernel) (pa_cons (pv 2) pa_nil)) (pv 1)) (pg_sub (pv 0) pe_int set_list))
        (pss_one (ps_ret (pe_op op_mod (pe_callTy call_int1 (by rfl) T.int (by decide +kernel) (pa_cons (pv 2) pa_nil)) (pv 1)))))) pss_nil)
      (pss_cons (ps_set (i := 5) scTake.nd rfl (Or.inl rfl) (pe_op op_mod (pe_callTy call_int1 (by rfl) T.int (by decide +kernel) (pa_cons (pe_op op_pow (pe_op op_add (pe_op op_add (pe_op op_mod (pe_callTy call_int1 (by rfl) T.int (by decide +kernel) (pa_cons (pv 4) pa_nil)) pe_int) (pe_op op_mul pe_int (pv 3))) pe_int) pe_int) pa_nil)) pe_int))
      (pss_cons (ps_set (i := 5) scTake.nd rfl (Or.inl rfl) (pe_op op_mod (pe_callTy call_int1 (by rfl) T.int (by decide +kernel) (pa_cons (pe_op op_pow (pe_op op_add (pe_op op_add (pe_op op_mul (pv 5) (pe_op op_add (pe_op op_mul pe_int (pv 3)) pe_int)) (pe_op op_mul (pe_op op_mul pe_int (pv 3)) (pv 3))) pe_int) pe_int) pa_nil)) pe_int))
      (pss_one (ps_ret (pe_op op_mod (pe_callTy call_int1 (by rfl) T.int (by decide +kernel) (pa_cons (pe_op op_fdiv (pv 5) pe_int) pa_nil)) (pv 1)))))))))))
      , ?_⟩
    have hdv : ∀ x : Int, CDivW x m := fun x => wide_div m0 hm (by decide) (by decide)
    -- if hand[2] > 0
    refine ⟨_, rfl, a, _, 2, _, rfl, rfl, SqL.of hA, rfl, _, _, rfl, rfl, _, rfl, ?_⟩
    refine ite2 (fun hp => ?_) (fun _ => ?_)
    · refine ⟨_, rfl, a, _, 2, _, rfl, rfl, SqL.of hA, rfl, ?_⟩
      refine ⟨_, rfl, .inl ⟨_, rfl, _, rfl, _, _, rfl, rfl, hdv _, _, rfl, a, _, 2, 2, rfl, rfl, hA, rfl, ?_⟩⟩
      refine ⟨_, rfl, .inl ⟨_, rfl, _, rfl, _, _, rfl, rfl, m0, ?_⟩⟩
      exact k _ (r % m) (Int.emod_nonneg _ (by omega)) (Int.emod_lt_of_pos _ m0) (HandAt.put hC hca hlen i0 (by omega) (Int.ediv_nonneg r0 (by omega))) Kept.upd
    -- at = hand[1]; hand[1] = at + 1; cell = ..
    refine ⟨_, rfl, a, _, 1, _, rfl, rfl, SqL.of hA, rfl, ?_⟩
    refine ⟨_, rfl, _, _, rfl, rfl, _, rfl, a, _, 1, 1, rfl, rfl, hA, rfl, ?_⟩
    refine ⟨_, rfl, _, _, rfl, rfl, .inl ⟨by decide, by decide⟩, _, _, rfl, rfl, ?_⟩
    -- H1: the heap behind this
    obtain ⟨H1, eH1⟩ : ∃ H1, H1 = upd H a (.lst [.ref c, .int (i + 1), .int r]) := ⟨_, rfl⟩
    have kH : Kept a H H1 := by rw [eH1]; exact Kept.upd
    have hA1 : H1 a = some (.lst [.ref c, .int (i + 1), .int r]) := by rw [eH1]; exact upd_same
    have hC1 : H1 c = some (.lst (ns.map V.int)) := by rw [eH1, upd_ne hca]; exact hC
    show Evl.tCut _ _ _ _ (upd H a (.lst [.ref c, .int (i + 1), .int r]))
    rw [← eH1]
    refine ⟨fun σ' H' => Same H1 H' ∧ ∃ cell : Int, σ' = [some (.ref a), some (.int m), none, some (.int i), some (.int cell), none], ?_, ?_⟩
    · refine ⟨_, rfl, a, _, 0, _, rfl, rfl, SqL.of hA1, rfl, Nat.zero_le _, fun p hp => ?_⟩
      have hcp : c ≠ p := ne_of_none hC1 hp
      have hap : a ≠ p := ne_of_none hA1 hp
      have sm : Same H1 (upd H1 p (.lst [])) := fun b o e => by rw [upd_ne (ne_of_none e hp)]; exact e
      refine ⟨.list (ns.map PyData.int), .list [], .lst (SqL.of (sm _ _ hC1)) (dpInts ns), .lst (SqL.of upd_same) .nil, PySem.W.ke_shaped_ints ns, rfl, _, rfl, ?_⟩
      refine ite2 (fun hne => ?_) (fun _ => ?_)
      · have hn0 : 0 < ns.length := by
          cases ns with
          | nil => exact absurd hne (by decide)
          | cons x xs => exact Nat.succ_pos _
        have hl0 : (0 : Int) < (((ns.map V.int).length : Nat) : Int) := by rw [List.length_map]; omega
        have hj0 : 0 ≤ i % (((ns.map V.int).length : Nat) : Int) := Int.emod_nonneg _ (by omega)
        have hj1 : i % (((ns.map V.int).length : Nat) : Int) < (((ns.map V.int).length : Nat) : Int) := Int.emod_lt_of_pos _ hl0
        obtain ⟨j, hj⟩ : ∃ j : Nat, i % (((ns.map V.int).length : Nat) : Int) = (j : Int) := ⟨(i % (((ns.map V.int).length : Nat) : Int)).toNat, by omega⟩
        have hjl : j < ns.length := by rw [List.length_map] at hj1 hj; omega
        refine ⟨_, rfl, a, _, 0, _, rfl, rfl, SqL.of (sm _ _ hA1), rfl, _, rfl, .inl ⟨_, rfl, ?_⟩⟩
        refine ⟨_, rfl, a, _, 0, _, rfl, rfl, SqL.of (sm _ _ hA1), rfl, c, _, rfl, .inl (SqL.of (sm _ _ hC1)), _, _, rfl, rfl, hl0, c, _, _, .int ns[j], rfl, rfl, SqL.of (sm _ _ hC1), ?_, ?_⟩
        · rw [hj]
          exact atI_nat (by rw [List.getElem?_map, List.getElem?_eq_getElem hjl]; rfl)
        · exact ⟨sm, ns[j], rfl⟩
      · exact ⟨sm, _, rfl⟩
    · rintro σ' H2 ⟨sm, cell, rfl⟩
      have hA2 := sm _ _ hA1
      have hC2 := sm _ _ hC1
      have kH2 : Kept a H H2 := fun b o e q => sm b o (kH b o e q)
      -- a great cell: what is left of it
      refine ⟨fun σ' H' => σ' = [some (.ref a), some (.int m), none, some (.int i), some (.int cell), none] ∧ H' = H2, ?_, ?_⟩
      · refine ⟨_, rfl, _, rfl, a, _, 0, _, rfl, rfl, SqL.of hA2, rfl, c, _, rfl, .inl (SqL.of hC2), _, _, rfl, rfl, _, rfl, ?_⟩
        refine ite2 (fun _ => ?_) (fun _ => ?_)
        · refine ⟨_, rfl, cell, rfl, _, _, rfl, rfl, ⟨by decide, by decide, by decide⟩, _, _, rfl, rfl, _, rfl, ?_⟩
          refine ite2 (fun hge => ?_) (fun _ => ⟨rfl, rfl⟩)
          have hge' := of_decide_eq_true hge
          refine ⟨_, rfl, cell, rfl, _, _, rfl, rfl, ⟨by decide, by decide, by decide⟩, _, _, rfl, rfl, _, _, rfl, rfl, .inl ⟨by decide, by decide⟩, _, rfl, _, _, rfl, rfl, .inr ⟨_, rfl, _, _, rfl, rfl, ?_⟩⟩
          have hr2 : ∀ b : Bool, 0 ≤ 2 * ((if cell < 0 then -cell else cell) - (10 : Int) ^ Int.toNat 18) + (if b = true then 1 else 0) := by
            intro b
            have e1 : (if b = true then (1 : Int) else 0) ≥ 0 := by cases b <;> decide
            have e2 : (10 : Int) ^ Int.toNat 18 ≤ (if cell < 0 then -cell else cell) := hge'
            omega
          refine ⟨_, rfl, .inl ⟨_, rfl, _, rfl, _, _, rfl, rfl, hdv _, _, rfl, a, _, 2, 2, rfl, rfl, hA2, rfl, ?_⟩⟩
          refine ⟨_, rfl, .inl ⟨_, rfl, _, rfl, _, _, rfl, rfl, m0, ?_⟩⟩
          exact k _ _ (Int.emod_nonneg _ (by omega)) (Int.emod_lt_of_pos _ m0) (HandAt.put hC2 hca hlen (by omega) (by omega) (Int.ediv_nonneg (hr2 _) (by omega))) (kH2.trans Kept.upd)
        · exact ⟨rfl, rfl⟩
      · rintro σ' H3 ⟨rfl, rfl⟩
        have hin : i ≤ 10000 := by omega
        have b1 : 0 ≤ cell % 2147483563 := Int.emod_nonneg _ (by decide)
        have b2 : cell % 2147483563 < 2147483563 := Int.emod_lt_of_pos _ (by decide)
        refine ⟨_, rfl, .inl ⟨_, rfl, _, _, rfl, rfl, (by decide : (0 : Int) < 2147483563), _, rfl, _, _, rfl, rfl, .inl ⟨by decide, by decide⟩, _, _, rfl, rfl, _, _, rfl, rfl, _, _, rfl, rfl, ⟨by decide, by decide, ?_⟩, ?_⟩⟩
        · show (cell % 2147483563 + 70249 * i + 3331).natAbs < 2 ^ 64
          have e : (2 : Nat) ^ 64 = 18446744073709551616 := by decide
          rw [e]
          omega
        have hb : ∀ x : Int, ((x % 2147483629) * (2 * i + 2341) + 51157 * i * i + 95087).natAbs < 2 ^ 64 := by
          intro x
          have b3 : 0 ≤ x % 2147483629 := Int.emod_nonneg _ (by decide)
          have b4 : x % 2147483629 < 2147483629 := Int.emod_lt_of_pos _ (by decide)
          have e : (2 : Nat) ^ 64 = 18446744073709551616 := by decide
          have c1 : 0 ≤ (x % 2147483629) * (2 * i + 2341) := Int.mul_nonneg b3 (by omega)
          have c2 : (x % 2147483629) * (2 * i + 2341) ≤ 2147483629 * 22341 := Int.mul_le_mul (by omega) (by omega) (by omega) (by omega)
          have c3 : 0 ≤ 51157 * i * i := Int.mul_nonneg (by omega) i0
          have c4 : 51157 * i * i ≤ 710590000 * 10000 := Int.mul_le_mul (by omega) hin i0 (by omega)
          rw [e]
          omega
        have hc : ∀ x : Int, CMul (x % 2147483629) (2 * i + 2341) := by
          intro x
          have b3 : 0 ≤ x % 2147483629 := Int.emod_nonneg _ (by decide)
          have b4 : x % 2147483629 < 2147483629 := Int.emod_lt_of_pos _ (by decide)
          exact .inl ⟨by omega, by omega⟩
        refine .inl ⟨_, rfl, _, _, rfl, rfl, (by decide : (0 : Int) < 2147483629), ?_⟩
        refine ⟨_, rfl, _, rfl, _, _, rfl, rfl, .inl ⟨by decide, by decide⟩, _, _, rfl, rfl, _, _, rfl, rfl, hc _, _, rfl, _, _, rfl, rfl, .inl ⟨by decide, by decide⟩, _, rfl, _, _, rfl, rfl, .inl ⟨by omega, by omega⟩, _, _, rfl, rfl, _, _, rfl, rfl, _, _, rfl, rfl, ⟨by decide, by decide, hb _⟩, ?_⟩
        refine .inl ⟨_, rfl, _, _, rfl, rfl, (by decide : (0 : Int) < 2147483489), ?_⟩
        refine ⟨_, rfl, _, _, rfl, rfl, ⟨by decide, by decide⟩, .inl ⟨_, rfl, _, rfl, _, _, rfl, rfl, m0, ?_⟩⟩
        exact k _ _ (Int.emod_nonneg _ (by omega)) (Int.emod_lt_of_pos _ m0) ⟨ns, i + 1, r, hA2, hC2, hca, hlen, by omega, by omega, r0⟩ kH2
end
end W03
set_option Elab.async false
set_option linter.all false
set_option maxRecDepth 100000
set_option maxHeartbeats 2000000
namespace W03
open PySem L2 PySem.Spec PyProof.Rows WR WB
structure EqW (P : Program) (w : World) (K : PySem.W.Frag) (mg : Str → Option Value) (base : Heap) (C : Addr) : Prop where
  ex : ∃ (f : Addr) (fd : FuncData), FnOk P w K mg base CX0 1 f fd ["self", "other"] (spEq K C) ∧ PySem.W.findIn K (.ref C) "__eq__" = some (some (.ref f)) ∧ PySem.W.isFn K (.ref f) = true ∧ Binds K fd ["self", "other"] []
/-- two words, held against one another -/
def rEqW (K : PySem.W.Frag) (C : Addr) : R2 := fun x y H Q => ∃ (p q : Addr) (ns ms : List Int), x = .ref p ∧ y = .ref q ∧ WordAt K C H p ns ∧ WordAt K C H q ms ∧ Q (.bl (decide (ns = ms))) H
section
variable {X : Cx} {C : Addr}
theorem op_eqW (M : EqW X.prog X.w X.K X.mg X.base C) {j : Nat} (hr : Room j X.A) (hj : 1 ≤ j) : OpR X (compareOp .Eq) (rEqW X.K C) := by
  intro pins s σ H x y u v Q I rx ry d
  obtain ⟨f, fd, F, hs, hf, hb⟩ := M.ex
  obtain ⟨a, b, ns, ms, rfl, rfl, W1, W2, hq⟩ := d
  cases rx
  cases ry
  obtain ⟨dx, tl, tk, ks, ha, _⟩ := id W1
  obtain ⟨dx', tl', tk', ks', hb', _⟩ := id W2
  obtain ⟨mA, J, _⟩ := ins_get I.hok ha
  obtain ⟨mB, J', _⟩ := ins_get I.hok hb'
  obtain ⟨od, J, _⟩ := J.look
  obtain ⟨od', J', _⟩ := J'.look
  obtain ⟨m, hF⟩ := I.fr
  have rm : Room 1 X.A := hr.mono hj
  show wpAny (model X.prog X.w) X.A (richCompare .Eq (.ref a) (.ref b)) (EP X pins σ Q) X.xe s
  refine PySem.W.cmp_K (op := .Eq) (tb := .ref C) rm.units0 hF I.ok.mod.kin J J'.type (by simp [PySem.W.notFirst]) hs hf ?_
  have hsp : spEq X.K C [.ref a, .ref b] H (fun v H' => ∃ c, v = .bl c ∧ Q (.bl c) H') E0 := ⟨a, b, ns, ms, rfl, W1, W2, _, rfl, hq⟩
  have e0 : Env0 X.prog X.w X.K X.mg X.base X.A X.stack s H := I.env0
  have hl := F.len _ _ _ _ hsp
  have r2 : Vals [V.ref a, V.ref b] [Value.ref a, Value.ref b] := .cons rfl (.cons rfl .nil)
  refine wpAny_call (codeAny_mono (F.run X.A X.stack s H ⟨[.ref a, .ref b], []⟩ [.ref a, .ref b] [.ref a, .ref b] _ E0 rm e0 (by
    have := hb s [.ref a, .ref b] I.kIn (by simpa using hl)
    simpa using this) r2 hsp) fun r s' hq => ?_)
  cases r with
  | error e => exact pass0 pins σ H s e s' I hq
  | ok fl =>
    cases fl with
    | ret w =>
      obtain ⟨z, H', I', rz, c, ez, q⟩ := I.after hq
      subst ez
      cases rz
      exact ⟨.bl c, H', I', rfl, q⟩
    | next => exact False.elim hq
    | brk => exact False.elim hq
    | cont => exact False.elim hq
end
end W03
set_option Elab.async false
set_option linter.all false
set_option maxRecDepth 100000
set_option maxHeartbeats 2000000
/-! x != y, of two instances whose class has an own == and no own !=. -/
namespace NeK
open PySem PySem.Spec PyProof.Rows PySem.SeqAt
section
variable {M : Model} {prog : Program} {w : World} {A : Around} {E : Value → Shared → Prop} {s : Shared} {K : PySem.W.Frag} {x y f C : Addr} {ox oy : Obj} {od od' : Option Obj}
theorem ne_entry (hu : A.units < cLine) (X : K.In s.heap) (I : PySem.W.InstAt s.heap x ox C od) (hs : PySem.W.findIn K (.ref C) "__eq__" = some (some (.ref f))) (hf : PySem.W.isFn K (.ref f) = true) {Q : Fin → Shared → Prop}
    (hcall : wpAny (model prog w) A (call (.ref f) [.ref x, .ref y]) (fun v s' => ∃ b, v = .bool b ∧ Q (.done (.ret (.bool (!b)))) s') E s) :
    wpAny (model prog w) A (Builtin.«object.__ne__» ⟨[.ref x, .ref y], []⟩) Q E s := by
  unfold Builtin.«object.__ne__»
  repeat (first
    | with_reducible refine wpAny_cRoomFor hu ?_
    | (refine wpAny_bind (m := callSpecialIfBound? (.ref x) (Str.ofString "__eq__") [.ref y])
        (PySem.W.ifBound_K X I hs hf (wpAny_mono hcall (fun r s' hr => by
          obtain ⟨b, rfl, hq⟩ := hr
          repeat (first | exact hq | exact wpAny_pure hq | exact wpAny_truthy_bool hq | (refine wpAny_bind (m := truthy (.bool _)) (wpAny_truthy_bool ?_)) | wp_step)) fun _ _ e => e)))
    | wp_step)
theorem ifBound_ne {args : List Value} {Q : Option Value → Shared → Prop} (X : K.In s.heap) (I : PySem.W.InstAt s.heap x ox C od) (hs : PySem.W.findIn K (.ref C) "__ne__" = some (some (.builtin "object.__ne__")))
    (h : wpAny M A (call (.builtin "object.__ne__") (.ref x :: args)) (fun v => Q (some v)) E s) : wpAny M A (callSpecialIfBound? (.ref x) "__ne__" args) Q E s := by
  simp only [callSpecialIfBound?, bindSpecialIfBound?]
  refine wpAny_holding (wpAny_bind (wpAny_bind (wpAny_bind (I.type.here ((PySem.W.looks_findIn X hs).here ?_)))))
  refine wpAny_bind (wpAny_askSetting (wpAny_ite ?_))
  have fin : wpAny M A (call (.builtin "object.__ne__") ([.ref x] ++ args) >>= fun v => pure (some v)) Q E s := wpAny_bind (wpAny_mono h (fun v s' h' => wpAny_pure h') fun _ _ h' => h')
  split
  · exact wpAny_bind (wpAny_of_eq (F.cmp_object.ne.bind _) (wpAny_pure (by exact fin)))
  · exact wpAny_tryCatch (wpAny_bind (wpAny_of_eq (F.cmp_object.ne.bind _) (wpAny_pure (by exact fin))))
theorem rc_ne (hu : A.units + 1 < cLine) (X : K.In s.heap) (I : PySem.W.InstAt s.heap x ox C od) (I' : PySem.W.InstAt s.heap y oy C od') (hm : PySem.W.mroIn K C (.type "object") = some true) (hs : PySem.W.findIn K (.ref C) "__eq__" = some (some (.ref f))) (hf : PySem.W.isFn K (.ref f) = true)
    (hn : PySem.W.findIn K (.ref C) "__ne__" = some (some (.builtin "object.__ne__"))) {Q : Value → Shared → Prop}
    (hcall : wpAny (model prog w) A.in1 (call (.ref f) [.ref x, .ref y]) (fun v s' => ∃ b, v = .bool b ∧ Q (.bool (!b)) s') E s) :
    wpAny (model prog w) A (richCompare .NotEq (.ref x) (.ref y)) Q E s := by
  have one : wpAny (model prog w) A (tryCompare (.ref x) "__ne__" (.ref y)) (fun r s' => ∃ b, r = some (.bool b) ∧ Q (.bool b) s') E s := by
    unfold tryCompare
    refine wpAny_bind (ifBound_ne X I hn (wpAny_call (codeAny_call_builtin F.cmp_object.ne.plain F.cmpEntry_ne (PySem.W.check_slot F.cmpKind_ne F.cmpSplit_ne (I.type.andThen (PySem.W.looks_mroIn X hm)) (F.cmpArgs_ne _ _)
      (ne_entry (A := A.in1) hu X I hs hf (wpAny_mono hcall (fun v s' hv => ?_) fun _ _ e => e))))))
    obtain ⟨b, rfl, hq⟩ := hv
    first | exact ⟨b, rfl, wpAny_pure ⟨_, rfl, hq⟩⟩ | exact ⟨b, rfl, wpAny_pure (wpAny_pure ⟨_, rfl, hq⟩)⟩ | exact ⟨b, rfl, _, rfl, hq⟩
  unfold richCompare
  simp only [oneThing_ref]
  refine wpAny_holding (wpAny_bind (wpAny_cRoomFor (Nat.lt_of_succ_lt hu) ?_))
  rw [cmpInfo_NotEq]
  dsimp only
  refine wpAny_bind (I.type.here (wpAny_bind (I'.type.here ?_)))
  rw [show (Value.ref C != Value.ref C) = false from by simp]
  simp only [Bool.false_eq_true, if_false]
  refine wpAny_bind (wpAny_pure ?_)
  simp only [Bool.false_eq_true, if_false]
  refine wpAny_bind (wpAny_mono one (fun v s' hv => ?_) fun _ _ e => e)
  obtain ⟨b, rfl, hq⟩ := hv
  first | exact wpAny_pure hq | exact wpAny_pure (wpAny_pure hq) | exact hq
end
end NeK
namespace W03
open PySem L2 PySem.Spec PyProof.Rows WR WB
def rNeW (K : PySem.W.Frag) (C : Addr) : R2 := fun x y H Q => ∃ (p q : Addr) (ns ms : List Int), x = .ref p ∧ y = .ref q ∧ WordAt K C H p ns ∧ WordAt K C H q ms ∧ Q (.bl (!decide (ns = ms))) H
section
variable {X : Cx} {C : Addr}
theorem op_neW (M : EqW X.prog X.w X.K X.mg X.base C) (hne : PySem.W.findIn X.K (.ref C) "__ne__" = some (some (.builtin "object.__ne__"))) (hmr : PySem.W.mroIn X.K C (.type "object") = some true) {j : Nat} (hr : Room j X.A) (hj : 2 ≤ j) : OpR X (compareOp .NotEq) (rNeW X.K C) := by
  intro pins s σ H x y u v Q I rx ry d
  obtain ⟨f, fd, F, hs, hf, hb⟩ := M.ex
  obtain ⟨a, b, ns, ms, rfl, rfl, W1, W2, hq⟩ := d
  cases rx
  cases ry
  obtain ⟨dx, tl, tk, ks, ha, _⟩ := id W1
  obtain ⟨dx', tl', tk', ks', hb', _⟩ := id W2
  obtain ⟨mA, J, _⟩ := ins_get I.hok ha
  obtain ⟨mB, J', _⟩ := ins_get I.hok hb'
  obtain ⟨od, J, _⟩ := J.look
  obtain ⟨od', J', _⟩ := J'.look
  have rm2 : Room 2 X.A := hr.mono hj
  have rm : Room 1 X.A.in1 := rm2.in1
  show wpAny (model X.prog X.w) X.A (richCompare .NotEq (.ref a) (.ref b)) (EP X pins σ Q) X.xe s
  refine NeK.rc_ne (by have := rm.units0; exact this) I.kIn J J' hmr hs hf hne ?_
  have hsp : spEq X.K C [.ref a, .ref b] H (fun v H' => ∃ c, v = .bl c ∧ Q (.bl (!c)) H') E0 := ⟨a, b, ns, ms, rfl, W1, W2, _, rfl, hq⟩
  have e0 : Env0 X.prog X.w X.K X.mg X.base X.A.in1 X.stack s H := by
    have e := I.env0
    exact ⟨e.frames, e.mod, e.bs, e.bsz, e.funs, e.frf, e.hok, e.bare⟩
  have hl := F.len _ _ _ _ hsp
  have r2 : Vals [V.ref a, V.ref b] [Value.ref a, Value.ref b] := .cons rfl (.cons rfl .nil)
  refine wpAny_call (codeAny_mono (F.run X.A.in1 X.stack s H ⟨[.ref a, .ref b], []⟩ [.ref a, .ref b] [.ref a, .ref b] _ E0 rm e0 (by
    have := hb s [.ref a, .ref b] I.kIn (by simpa using hl)
    simpa using this) r2 hsp) fun r s' hq => ?_)
  cases r with
  | error e => exact pass0 pins σ H s e s' I hq
  | ok fl =>
    cases fl with
    | ret w =>
      obtain ⟨z, H', I', rz, c, ez, q⟩ := I.after hq
      subst ez
      cases rz
      exact ⟨c, rfl, .bl (!c), H', I', rfl, q⟩
    | next => exact False.elim hq
    | brk => exact False.elim hq
    | cont => exact False.elim hq
end
end W03
set_option Elab.async false
set_option linter.all false
set_option maxRecDepth 100000
set_option maxHeartbeats 2000000
namespace W03
open PySem L2 PySem.Spec PyProof.Rows WR WB
abbrev sPick : Stmt := top 45
def Drew (a c : Addr) (n : Nat) (H H' : Hp) : Prop := HandAt H' a c n ∧ Kept a H H'
theorem HandAt.mono {H : Hp} {a c : Addr} {m n : Nat} (h : HandAt H a c m) (l : m ≤ n) : HandAt H a c n := by
  obtain ⟨ns, i, r, h1, h2, h3, h4, h5, h6, h7⟩ := h
  exact ⟨ns, i, r, h1, h2, h3, h4, h5, by omega, h7⟩
theorem HandAt.off {H : Hp} {a c p : Addr} {n : Nat} {o : HO} (h : HandAt H a c n) (h1 : p ≠ a) (h2 : p ≠ c) : HandAt (L2.upd H p o) a c n := by
  obtain ⟨ns, i, r, h3, h4, h5⟩ := h
  exact ⟨ns, i, r, by rw [upd_ne h1.symm]; exact h3, by rw [upd_ne h2.symm]; exact h4, h5⟩
theorem HandAt.ne {H : Hp} {a c p : Addr} {n : Nat} (h : HandAt H a c n) (hp : H p = none) : p ≠ a := by
  obtain ⟨ns, i, r, h1, _⟩ := h
  exact (ne_of_none h1 hp).symm
theorem HandAt.neC {H : Hp} {a c p : Addr} {n : Nat} (h : HandAt H a c n) (hp : H p = none) : p ≠ c := by
  obtain ⟨ns, i, r, h1, h2, _⟩ := h
  exact (ne_of_none h2 hp).symm
theorem HandAt.new {H : Hp} {a c p : Addr} {n : Nat} {o : HO} (h : HandAt H a c n) (hp : H p = none) : HandAt (L2.upd H p o) a c n := h.off (h.ne hp) (h.neC hp)
theorem Drew.refl {a c : Addr} {n : Nat} {H : Hp} (h : HandAt H a c n) : Drew a c n H H := ⟨h, Kept.refl⟩
theorem Drew.trans {a c : Addr} {m n : Nat} {H H1 H2 : Hp} (h1 : Drew a c m H H1) (h2 : Drew a c n H1 H2) : Drew a c n H H2 := ⟨h2.1, h1.2.trans h2.2⟩
theorem Drew.new {a c p : Addr} {n : Nat} {H H1 : Hp} {o : HO} (h : Drew a c n H H1) (hp : H1 p = none) : Drew a c n H (L2.upd H1 p o) := ⟨h.1.new hp, h.2.new hp⟩
theorem Drew.mono {a c : Addr} {m n : Nat} {H H1 : Hp} (h : Drew a c m H H1) (l : m ≤ n) : Drew a c n H H1 := ⟨h.1.mono l, h.2⟩
/-- an object that was not there at first may change -/
theorem Drew.put {a c p : Addr} {n : Nat} {H H1 : Hp} {o : HO} (h : Drew a c n H H1) (h0 : H p = none) (h1 : p ≠ a) (h2 : p ≠ c) : Drew a c n H (L2.upd H1 p o) :=
  ⟨h.1.off h1 h2, fun b u nb e => by rw [upd_ne (ne_of_none e h0)]; exact h.2 b u nb e⟩
theorem Drew.back {a c p : Addr} {n : Nat} {H H1 : Hp} (h : Drew a c n H H1) (hp : H1 p = none) : H p = none := by
  cases e : H p with
  | none => rfl
  | some o =>
    have q := h.2 p o (h.1.ne hp) e
    rw [hp] at q
    cases q
theorem HandAt.same {H H' : Hp} {a c : Addr} {n : Nat} (h : HandAt H a c n) (s : Same H H') : HandAt H' a c n := by
  obtain ⟨ns, i, r, h1, h2, h3⟩ := h
  exact ⟨ns, i, r, s _ _ h1, s _ _ h2, h3⟩
theorem Drew.same {a c : Addr} {n : Nat} {H H1 H2 : Hp} (h : Drew a c n H H1) (s : Same H1 H2) : Drew a c n H H2 := ⟨h.1.same s, fun b o nb e => s b o (h.2 b o nb e)⟩
/-- a new list of these ints -/
def NewL (H : Hp) (Q : VK) (ns : List Int) : Prop := ∀ p H', H p = none → Same H H' → H' p = some (.lst (iv ns)) → Q (.ref p) H'
def spPick : Sp := fun vs H Q _ => ∃ (a c p : Addr) (xs : List V) (n : Nat), vs = [.ref a, .ref p] ∧ HandAt H a c n ∧ n ≤ 10000 ∧ p ≠ a ∧ H p = some (.lst xs) ∧ 0 < xs.length ∧ xs.length ≤ 1000 ∧ ∀ v ∈ xs, ∀ H', Drew a c (n + 1) H H' → Q v H'
structure TxN (mg : Str → Option Value) : Prop where
  range : mg "range" = none
  list : mg "list" = none
theorem Drew.ofNew {a c p : Addr} {n : Nat} {H H' : Hp} (d : Drew a c n H H') (h0 : HandAt H a c n) {o : HO} (hp : H p = some o) (hn : p ≠ a) : H' p = some o := d.2 _ _ hn hp
section
variable {P : Program} {w : World} {K : PySem.W.Frag} {mg : Str → Option Value} {base : Heap}
theorem scPick : FnScope ["_law_hand_here", "_law_some"] ["_law_hand_here", "_law_some"] (defScope sPick) := ⟨rfl, rfl, rfl, by decide +kernel, rfl, by decide +kernel, by decide +kernel⟩
theorem ok_pick {f : Addr} {fd : FuncData} (F : Fun K "_law_pick" "_law_pick" sPick f fd) (GT : Cal P w K mg base "_law_take" 1 ["_law_hand_here", "_law_many"] spTake) (T : TxL mg) : FnOk P w K mg base CX0 2 f fd ["_law_hand_here", "_law_some"] spPick := by
  refine F.ok scPick (fun vs H Q E h => ?_) (fun cdv A outer s H vs Q E hr h => ?_)
  · obtain ⟨a, c, p, xs, n, rfl, _⟩ := h
    rfl
  · obtain ⟨a, c, p, xs, n, rfl, hH, hn, hpa, hp, h0, h1, k⟩ := h
    refine ⟨_, pss_one (ps_ret (pe_ix ix_list (pv 1) (pe_cal GT hr (by decide) (by rfl) (pa_cons (pv 0) (pa_cons (pe_callB call_len_seq (by rfl) T.len PySem.boot_len (pa_cons (pv 1) pa_nil)) pa_nil))) (fun _ _ => rfl))), ?_⟩
    refine ⟨_, rfl, _, rfl, _, rfl, p, _, rfl, .inl (SqL.of hp), a, c, _, n, rfl, hH, hn, by omega, ?_, ?_⟩
    · have : (((xs.length : Nat) : Int)).natAbs ≤ 1000 := by omega
      exact Nat.lt_of_le_of_lt this (by decide)
    · intro H' q q0 q1 hH' hK
      obtain ⟨j, rfl⟩ : ∃ j : Nat, q = (j : Int) := ⟨q.toNat, by omega⟩
      have hj : j < xs.length := by omega
      refine ⟨p, xs, _, xs[j], rfl, rfl, SqL.of (hK _ _ hpa hp), atI_nat (List.getElem?_eq_getElem hj), ?_⟩
      exact k _ (List.getElem_mem hj) H' ⟨hH', hK⟩
theorem int_eq {x y : Int} : decide (V.int x = V.int y) = decide (x = y) := by
  rw [Bool.eq_iff_iff, decide_eq_true_iff, decide_eq_true_iff]
  exact ⟨fun e => by injection e, fun e => by rw [e]⟩
end
end W03
set_option Elab.async false
set_option linter.all false
set_option maxRecDepth 100000
set_option maxHeartbeats 2000000
/-! C.m(..), m a staticmethod of the class C. -/
namespace MStat
open PySem L2 PySem.Spec PyProof.Rows
/-- m is a staticmethod of C: its record at p, its def at g -/
structure SMet (K : PySem.W.Frag) (C : Addr) (mc : Value) (m : Str) (p g : Addr) : Prop where
  rd : PySem.W.readsIn K C mc = true
  ga : PySem.W.specialIn K (.ref C) "__getattribute__" = some (some (.builtin "type.__getattribute__"))
  at_ : PySem.W.findCls K (.ref C) mc m = some (.get (.builtin "staticmethod.__get__") (.ref p) .none (.ref C))
  rc : ∃ rest, PySem.W.recIn K p "staticmethod" = some (.ref g :: rest)
  kp : PySem.W.keepIn K (.ref g) = true
section
variable {X : Cx} {pins : List (Addr × Obj)} {σ : L2.St} {H : Hp} {s : Shared} {C p g : Addr} {mc : Value} {m : Str} {A : Around} {E : Value → Shared → Prop}
theorem getsm_ok {pl : Sem Bool} {Q : Value × List Value → Shared → Prop} (I : Inv X pins σ H s) (k : SMet X.K C mc m p g) (h : ∀ s', Inv X pins σ H s' → Q (.ref g, []) s') : wpAny (model X.prog X.w) A (getMethod (.ref C) m pl) Q E s := by
  obtain ⟨rest, hp⟩ := k.rc
  refine PySem.W.method_cls I.kIn k.ga (PySem.W.cls_bind I.kIn k.rd k.at_ ?_)
  refine wpAny_call (PySem.W.sm_get (s := { s with toks := s.toks + 1 }) I.kIn hp (PySem.W.handed_on rfl ?_))
  exact h _ (I.tok _)
end
/-- C.m(..) by place -/
def tSMeth (C : Addr) (sp : Sp) (ta : TE) (t : TA) : TE := fun σ H Q => ta σ H fun x H1 => x = .ref C ∧ t σ H1 fun vs H2 => sp vs H2 Q E0
/-- C.m(..) by keywords alone -/
def tSMethK (C : Addr) (sp : Sp) (gV : List V → List V) (n : Nat) (ta : TE) (tk : TA) : TE := fun σ H Q => ta σ H fun x H1 => x = .ref C ∧ tk σ H1 fun zs H2 => zs.length = n ∧ sp (gV zs) H2 Q E0
section
variable {X : Cx} {k j : Nat} {C : Addr} {sp : Sp} {ps ks : List Str} {gV : List V → List V} {o e : Expr} {es : List Expr} {m : Str} {pos apos : Pos} {ta : TE} {t tk : TA} {kws : List Keyword} {pl : Sem Bool} {fd : FuncData} {p g : Addr} {mc : Value}
theorem pe_smeth (he : PE X o ta) (c : SMet X.K C mc m p g) (F : FnOk X.prog X.w X.K X.mg X.base CX0 k g fd ps sp) (hr : Room k X.A) (hb : Binds X.K fd ps []) (ha : PA X (e :: es) t)
    (hst : starEach (e :: es) X.env = (false, eval e X.env) :: starEach es X.env := by rfl) (hpl : (backTo pos (starEach es X.env)).any (·.1) = false := by rfl)
    (ht : eval (.Call (.Attribute o m apos) (e :: es) [] pos) X.env = (do
      let ov ← eval o X.env
      standAt apos.atName
      let (f, first) ← holding [ov] (getMethod ov m pl)
      callWith pos f first (backTo pos (starEach (e :: es) X.env)) (backToKw pos (keywordEach [] X.env))) := by rfl) :
    PE X (.Call (.Attribute o m apos) (e :: es) [] pos) (tSMeth C sp ta t) := by
  refine ⟨fun pins s σ H Q I h => ?_⟩
  refine PySem.W.methodCall_KW (pl := pl) (thn (he.run pins s σ H _ I h) fun u s1 ⟨x, H1, I1, rx, ex, q⟩ => ?_) ht
  subst ex
  obtain rfl : u = Value.ref C := rx
  refine getsm_ok I1 c fun s2 I2 => ?_
  refine PySem.W.callWith_K (first := []) (h₀ := X.base) I2.ok.mod.kin c.kp (thn (ha.run pos pins s2 σ H1 _ I2 q) fun us s3 ⟨vs, H2, I3, rv, q2⟩ => ⟨I3.kIn, ?_⟩) hst hpl
  exact run_fn (us := us) (vs := vs) (dvs := []) (ds := []) F hr hb .nil pass0 I3 rv (by simpa using q2)
theorem pe_smethK (he : PE X o ta) (c : SMet X.K C mc m p g) {gg : List Value → List Value} (F : FnOk X.prog X.w X.K X.mg X.base CX0 k g fd ps sp) (hr : Room k X.A) (hb : KBn X.K fd ps 0 ks (fun _ ws => gg ws) (fun _ zs => gV zs)) (hkw : PK X kws tk)
    (hall : (backToKw pos (keywordEach kws X.env)).all (·.1.isSome) = true := by rfl) (hks : (backToKw pos (keywordEach kws X.env)).filterMap (·.1) = ks := by rfl)
    (hpl : ((backTo pos (starEach [] X.env)).any (·.1) || (backToKw pos (keywordEach kws X.env)).any (·.1.isNone)) = false := by rfl)
    (ht : eval (.Call (.Attribute o m apos) [] kws pos) X.env = (do
      let ov ← eval o X.env
      standAt apos.atName
      let (f, first) ← holding [ov] (getMethod ov m pl)
      callWith pos f first (backTo pos (starEach [] X.env)) (backToKw pos (keywordEach kws X.env))) := by rfl) :
    PE X (.Call (.Attribute o m apos) [] kws pos) (tSMethK C sp gV ks.length ta tk) := by
  refine ⟨fun pins s σ H Q I h => ?_⟩
  refine PySem.W.methodCall_KW (pl := pl) (thn (he.run pins s σ H _ I h) fun u s1 ⟨x, H1, I1, rx, ex, q⟩ => ?_) ht
  subst ex
  obtain rfl : u = Value.ref C := rx
  refine getsm_ok I1 c fun s2 I2 => ?_
  refine PySem.W.callWith_KW0 (first := []) (h₀ := X.base) I2.ok.mod.kin c.kp hall ?_ hpl
  refine thn (hkw.run pos pins s2 σ H1 _ I2 q) fun ws s3 ⟨zs, H2, I3, rz, lz, q2⟩ => ⟨I3.kIn, ?_⟩
  rw [hks]
  have r2 := hb.rel (vs := []) (us := []) .nil rz
  have hl : ws.length = ks.length := by rw [← rz.length, lz]
  refine wpAny_call (codeAny_mono (F.run X.A X.stack s3 H2 ⟨[], ks.zip ws⟩ (gg ws) (gV zs) Q E0 hr I3.env0 (hb.to s3 [] ws I3.kIn rfl hl) r2 q2) fun r s' hq => ?_)
  cases r with
  | error e => exact pass0 pins σ H2 s3 e s' I3 hq
  | ok fl =>
    cases fl with
    | ret u => exact I3.after hq
    | next => exact False.elim hq
    | brk => exact False.elim hq
    | cont => exact False.elim hq
end
end MStat
set_option Elab.async false
set_option linter.all false
set_option maxRecDepth 100000
set_option maxHeartbeats 2000000
/-! str(x), len(x), x an instance of an own class with an own __str__, __len__. -/
namespace MStr
open PySem L2 PySem.Spec PyProof.Rows
/-- a def of the class C under a special name, with its promise -/
structure Spe (P : Program) (w : World) (K : PySem.W.Frag) (mg : Str → Option Value) (base : Heap) (C : Addr) (m : Str) (k : Nat) (sp : Sp) : Prop where
  ex : ∃ (f : Addr) (fd : FuncData), FnOk P w K mg base CX0 k f fd ["self"] sp ∧ PySem.W.findIn K (.ref C) m = some (some (.ref f)) ∧ PySem.W.isFn K (.ref f) = true ∧ Binds K fd ["self"] []
def rStrO (C : Addr) (sp : Sp) : List V → Hp → VK → Prop := fun xs H Q => ∃ (p dx : Addr) (fs : List (Str × V)), xs = [.ref p] ∧ H p = some (.ins C dx fs) ∧ sp [.ref p] H (fun v H' => ∃ z : Str, v = .str z ∧ Q v H') E0
def rLenO (C : Addr) (sp : Sp) : List V → Hp → VK → Prop := fun xs H Q => ∃ (p dx : Addr) (fs : List (Str × V)), xs = [.ref p] ∧ H p = some (.ins C dx fs) ∧ sp [.ref p] H (fun v H' => ∃ n : Nat, v = .int (n : Int) ∧ n ≤ 100000 ∧ Q v H') E0
section
variable {X : Cx} {C : Addr} {k j : Nat} {sp : Sp}
theorem call_strO (M : Spe X.prog X.w X.K X.mg X.base C "__str__" k sp) (hr : Room j X.A) (hj : k + 2 ≤ j) : CallR X (.type "str") (rStrO C sp) := by
  intro pins s σ H vs us Q I r h
  obtain ⟨f, fd, F, hs, hf, hb⟩ := M.ex
  obtain ⟨p, dx, fs, rfl, hp, hsp⟩ := h
  obtain ⟨mA, J, _⟩ := ins_get I.hok hp
  obtain ⟨od, J, _⟩ := J.look
  rw [Vals.ref1 r]
  have rm2 : Room (k + 2) X.A := hr.mono hj
  have rm : Room k X.A.in1.in1 := rm2.in1.in1
  refine PySem.W.kso_call (by have := (rm2.mono (show 2 ≤ k + 2 by omega)).in1.in1.units0; exact this) I.kIn J hs hf ?_
  have e0 : Env0 X.prog X.w X.K X.mg X.base X.A.in1.in1 X.stack s H := by
    have e := I.env0
    exact ⟨e.frames, e.mod, e.bs, e.bsz, e.funs, e.frf, e.hok, e.bare⟩
  have hl := F.len _ _ _ _ hsp
  have r2 : Vals [V.ref p] [Value.ref p] := .cons rfl .nil
  refine wpAny_call (codeAny_mono (F.run X.A.in1.in1 X.stack s H ⟨[.ref p], []⟩ [.ref p] [.ref p] _ E0 rm e0 (by
    have := hb s [.ref p] I.kIn (by simpa using hl)
    simpa using this) r2 hsp) fun r s' hq => ?_)
  cases r with
  | error e => exact pass0 pins σ H s e s' I hq
  | ok fl =>
    cases fl with
    | ret w =>
      obtain ⟨z, H', I', rz, c, ez, q⟩ := I.after hq
      subst ez
      obtain ⟨t, rfl⟩ := rz
      exact ⟨.str c, H', I', ⟨t, rfl⟩, q⟩
    | next => exact False.elim hq
    | brk => exact False.elim hq
    | cont => exact False.elim hq
theorem call_lenO (M : Spe X.prog X.w X.K X.mg X.base C "__len__" k sp) (hr : Room j X.A) (hj : k + 1 ≤ j) : CallR X (.builtin "len") (rLenO C sp) := by
  intro pins s σ H vs us Q I r h
  obtain ⟨f, fd, F, hs, hf, hb⟩ := M.ex
  obtain ⟨p, dx, fs, rfl, hp, hsp⟩ := h
  obtain ⟨mA, J, _⟩ := ins_get I.hok hp
  obtain ⟨od, J, _⟩ := J.look
  obtain ⟨m, hF⟩ := I.fr
  rw [Vals.ref1 r]
  have rm : Room k X.A.in1 := (hr.mono hj).in1
  refine PySem.W.len_K hF I.ok.mod.kin J hs hf ?_
  have e0 : Env0 X.prog X.w X.K X.mg X.base X.A.in1 X.stack s H := by
    have e := I.env0
    exact ⟨e.frames, e.mod, e.bs, e.bsz, e.funs, e.frf, e.hok, e.bare⟩
  have hl := F.len _ _ _ _ hsp
  have r2 : Vals [V.ref p] [Value.ref p] := .cons rfl .nil
  refine wpAny_call (codeAny_mono (F.run X.A.in1 X.stack s H ⟨[.ref p], []⟩ [.ref p] [.ref p] _ E0 rm e0 (by
    have := hb s [.ref p] I.kIn (by simpa using hl)
    simpa using this) r2 hsp) fun r s' hq => ?_)
  cases r with
  | error e => exact pass0 pins σ H s e s' I hq
  | ok fl =>
    cases fl with
    | ret w =>
      obtain ⟨z, H', I', rz, c, ez, hc, q⟩ := I.after hq
      subst ez
      obtain ⟨t, rfl⟩ := rz
      exact ⟨⟨by omega, by omega⟩, .int (c : Int), H', I'.tok _, ⟨_, rfl⟩, q⟩
    | next => exact False.elim hq
    | brk => exact False.elim hq
    | cont => exact False.elim hq
end
end MStr
set_option Elab.async false
set_option linter.all false
set_option maxRecDepth 100000
set_option maxHeartbeats 2000000
/-! A text parted at a sign, and put together again. -/
namespace MText
open PySem PySem.StrLaws Builtin Builtin.Str
/-- the parts of a row between the signs c -/
def parts (c : Nat) : List Nat → List (List Nat)
  | [] => [[]]
  | h :: t => if h = c then [] :: parts c t else match parts c t with
    | p :: r => (h :: p) :: r
    | [] => [[h]]
/-- rows put behind one another, c between -/
def glue (c : Nat) : List (List Nat) → List Nat
  | [] => []
  | [a] => a
  | a :: b :: r => a ++ c :: glue c (b :: r)
theorem parts_ne (c : Nat) (xs : List Nat) : ∃ p r, parts c xs = p :: r := by
  cases xs with
  | nil => exact ⟨_, _, rfl⟩
  | cons h t =>
    unfold parts
    split
    · exact ⟨_, _, rfl⟩
    · split <;> exact ⟨_, _, rfl⟩
theorem parts_app {c : Nat} : ∀ {a xs : List Nat} {p : List Nat} {r : List (List Nat)}, (∀ z ∈ a, z ≠ c) → parts c xs = p :: r → parts c (a ++ xs) = (a ++ p) :: r
  | [], xs, p, r, _, h => h
  | z :: a, xs, p, r, ha, h => by
    have ih := parts_app (a := a) (fun y hy => ha y (List.mem_cons_of_mem _ hy)) h
    show parts c (z :: (a ++ xs)) = _
    unfold parts
    rw [if_neg (ha z List.mem_cons_self), ih]
    rfl
theorem parts_glue {c : Nat} : ∀ {ps : List (List Nat)}, ps ≠ [] → (∀ p ∈ ps, ∀ z ∈ p, z ≠ c) → parts c (glue c ps) = ps
  | [], h, _ => absurd rfl h
  | [a], _, ha => by
    have := parts_app (c := c) (a := a) (xs := []) (p := []) (r := []) (ha a List.mem_cons_self) rfl
    simpa [glue] using this
  | a :: b :: r, _, ha => by
    have ih := parts_glue (ps := b :: r) (by simp) (fun p hp => ha p (List.mem_cons_of_mem _ hp))
    show parts c (a ++ c :: glue c (b :: r)) = _
    have h2 : parts c (c :: glue c (b :: r)) = [] :: b :: r := by
      unfold parts
      rw [if_pos rfl, ih]
    have := parts_app (ha a List.mem_cons_self) h2
    rw [List.append_nil] at this
    exact this
/-- the places of c -/
def places (x : Str) (c a n : Nat) : List Nat := (List.range' a n).filter fun i => decide (x.cps.toList[i]? = some c)
theorem occ_run (x : Str) (c limit : Nat) : ∀ (n a : Nat) (st : Array Nat × Nat), st.2 ≤ a → st.1.size ≤ a → a + n ≤ limit →
    (forIn (List.range' a n) st (occBody x ⟨#[c]⟩ x.length limit)).run.fst.toList = st.1.toList ++ places x c a n
  | 0, a, st, _, _, _ => by
    unfold places
    simp
  | n + 1, a, st, h1, h2, h3 => by
    rw [List.range'_succ, List.forIn_cons]
    have e := subAt_one x c a
    unfold places
    rw [List.range'_succ, List.filter_cons]
    by_cases hc : x.cps.toList[a]? = some c
    · have hc' := e.mpr hc
      have eb : occBody x ⟨#[c]⟩ x.length limit a st = pure (ForInStep.yield (st.1.push a, a + (⟨#[c]⟩ : Str).length)) := by
        unfold occBody
        rw [if_pos ⟨⟨⟨by omega, h1⟩, hc'.1⟩, hc'.2⟩]
      rw [eb, if_pos (by simpa using hc)]
      have ih := occ_run x c limit n (a + 1) (st.1.push a, a + (⟨#[c]⟩ : Str).length) (by show a + 1 ≤ a + 1; omega) (by show (st.1.push a).size ≤ a + 1; rw [Array.size_push]; omega) (by omega)
      unfold places at ih
      refine Eq.trans ih ?_
      simp
    · have hc' : ¬ (a + (⟨#[c]⟩ : Str).length ≤ x.length ∧ subAt x ⟨#[c]⟩ a = true) := fun z => hc (e.mp z)
      have eb : occBody x ⟨#[c]⟩ x.length limit a st = pure (ForInStep.yield (st.1, st.2)) := by
        unfold occBody
        rw [if_neg (fun z => hc' ⟨z.1.2, z.2⟩)]
      rw [eb, if_neg (by simpa using hc)]
      have ih := occ_run x c limit n (a + 1) (st.1, st.2) (by show st.2 ≤ a + 1; omega) (by show st.1.size ≤ a + 1; omega) (by omega)
      unfold places at ih
      exact ih
theorem len_eq (x : Str) : x.cps.toList.length = x.length := by simp [Str.length]
theorem places_last (x : Str) (c a n : Nat) (h : x.length ≤ a) : places x c a n = [] := by
  unfold places
  rw [List.filter_eq_nil_iff]
  intro i hi
  have := (List.mem_range'_1.mp hi).1
  rw [List.getElem?_eq_none (by rw [len_eq]; omega)]
  simp
theorem occ_all (x : Str) (c : Nat) : occurrences x ⟨#[c]⟩ 0 x.length (x.length + 1) = places x c 0 x.length := by
  rw [occ_eq, Nat.sub_zero, occ_run x c (x.length + 1) (x.length + 1) 0 (#[], 0) (Nat.le_refl _) (Nat.le_refl _) (by omega)]
  -- the last place is behind the text
  have h2 : places x c 0 (x.length + 1) = places x c 0 x.length := by
    unfold places
    rw [List.range'_concat, List.filter_append]
    have := places_last x c (0 + 1 * x.length) 1 (by omega)
    unfold places at this
    rw [show List.range' (0 + 1 * x.length) 1 = [0 + 1 * x.length] from rfl] at this
    rw [this, List.append_nil]
  rw [h2]
  rfl
theorem sub_step (x : Str) {a b : Nat} (h : a < b) (hb : b ≤ x.length) (z : Nat) (hz : x.cps.toList[a]? = some z) : (strSub x a b).cps.toList = z :: (strSub x (a + 1) b).cps.toList := by
  rw [strSub_toList, strSub_toList]
  have hlt := (List.getElem?_eq_some_iff.mp hz).1
  have hv := (List.getElem?_eq_some_iff.mp hz).2
  rw [List.drop_eq_getElem_cons hlt, hv]
  have : b - a = (b - (a + 1)) + 1 := by omega
  rw [this, List.take_succ_cons]
theorem parts_from (x : Str) (c : Nat) : ∀ (n a : Nat), a + n = x.length → (partsFrom x 1 a (places x c a n)).map (·.cps.toList) = parts c (x.cps.toList.drop a)
  | 0, a, h => by
    have e1 : places x c a 0 = [] := rfl
    have e2 : x.cps.toList.drop a = [] := List.drop_eq_nil_of_le (by rw [len_eq]; omega)
    rw [e1, e2]
    show [(strSub x a x.length).cps.toList] = [[]]
    rw [strSub_toList, e2]
    simp
  | n + 1, a, h => by
    have hlt : a < x.cps.toList.length := by rw [len_eq]; omega
    have ih := parts_from x c n (a + 1) (by omega)
    rw [List.drop_eq_getElem_cons hlt]
    have ea : x.cps.toList[a]? = some x.cps.toList[a] := List.getElem?_eq_getElem hlt
    have ep : places x c a (n + 1) = if x.cps.toList[a] = c then a :: places x c (a + 1) n else places x c (a + 1) n := by
      unfold places
      rw [List.range'_succ, List.filter_cons, ea]
      by_cases hc : x.cps.toList[a] = c
      · rw [if_pos hc, if_pos (by simpa using hc)]
      · rw [if_neg hc, if_neg (by simpa using hc)]
    unfold parts
    rw [ep]
    by_cases hc : x.cps.toList[a] = c
    · rw [if_pos hc, if_pos hc]
      show (strSub x a a).cps.toList :: (partsFrom x 1 (a + 1) (places x c (a + 1) n)).map (·.cps.toList) = _
      rw [ih, strSub_toList]
      simp
    · rw [if_neg hc, if_neg hc, ← ih]
      cases hq : places x c (a + 1) n with
      | nil =>
        show [(strSub x a x.length).cps.toList] = _
        rw [sub_step x (by omega) (Nat.le_refl _) _ ea]
        rfl
      | cons k r =>
        have hk : k ∈ places x c (a + 1) n := by rw [hq]; exact List.mem_cons_self
        have hk2 := List.mem_range'_1.mp (List.mem_filter.mp hk).1
        show (strSub x a k).cps.toList :: (partsFrom x 1 (k + 1) r).map (·.cps.toList) = _
        rw [sub_step x (by omega) (by omega) _ ea]
        rfl
theorem kind_pos (x : Str) : 1 ≤ Str.strKind x := by
  unfold Str.strKind
  split
  · omega
  · split <;> omega
/-- x.split(c), c one sign of a byte -/
theorem split_parts (x : Str) {c : Nat} (hc : c < 256) : (Txt.split x ⟨#[c]⟩).map (·.cps.toList) = parts c x.cps.toList := by
  have hp := parts_from x c x.length 0 (by omega)
  rw [List.drop_zero] at hp
  have hk : Str.strKind ⟨#[c]⟩ = 1 := by
    unfold Str.strKind
    rw [if_pos (by simpa using hc)]
  have whole : ∀ h : places x c 0 x.length = [], [x.cps.toList] = parts c x.cps.toList := by
    intro h
    rw [← hp, h]
    show [x.cps.toList] = [(strSub x 0 x.length).cps.toList]
    rw [sub_whole]
  unfold Txt.split
  by_cases h0 : x.length < 1
  · have e0 : places x c 0 x.length = [] := by
      have : x.length = 0 := by omega
      rw [this]
      rfl
    rw [if_pos (by
      have : decide (x.length < (⟨#[c]⟩ : Str).length) = true := decide_eq_true h0
      rw [this]
      rfl)]
    exact whole e0
  · rw [if_neg (by
      have e1 : decide (x.length < (⟨#[c]⟩ : Str).length) = false := decide_eq_false h0
      have e2 : decide (Str.strKind x < Str.strKind ⟨#[c]⟩) = false := decide_eq_false (by rw [hk]; have := kind_pos x; omega)
      rw [e1, e2]
      decide)]
    rw [occ_all]
    split
    · rename_i he
      exact whole (List.isEmpty_iff.mp he)
    · rw [partsBetween_eq]
      exact hp
/-- c.join(xs) -/
theorem join_glue (c : Nat) : ∀ xs : List Str, (Txt.join ⟨#[c]⟩ xs).cps.toList = glue c (xs.map (·.cps.toList)) := by
  intro xs
  show (glued ⟨#[c]⟩ xs).cps.toList = _
  rw [glued_eq_join]
  induction xs with
  | nil => rfl
  | cons a r ih =>
    cases r with
    | nil => rfl
    | cons b r =>
      show (a ++ ⟨#[c]⟩ ++ Str.join ⟨#[c]⟩ (b :: r)).cps.toList = a.cps.toList ++ c :: glue c ((b :: r).map (·.cps.toList))
      rw [Str.cps_append, Str.cps_append, Array.toList_append, Array.toList_append, ih]
      simp
theorem str_eq {a b : Str} (h : a.cps.toList = b.cps.toList) : a = b := Str.ext' (Array.toList_inj.mp h)
theorem split_join {c : Nat} (hc : c < 256) {xs : List Str} (h0 : xs ≠ []) (h : ∀ x ∈ xs, ∀ z ∈ x.cps.toList, z ≠ c) : Txt.split (Txt.join ⟨#[c]⟩ xs) ⟨#[c]⟩ = xs := by
  have e := split_parts (Txt.join ⟨#[c]⟩ xs) hc
  rw [join_glue, parts_glue (by simpa using h0) (by
    intro p hp
    obtain ⟨x, hx, rfl⟩ := List.mem_map.mp hp
    exact h x hx)] at e
  have inj : ∀ (u v : List Str), u.map (·.cps.toList) = v.map (·.cps.toList) → u = v := by
    intro u
    induction u with
    | nil =>
      intro v h
      cases v with
      | nil => rfl
      | cons b v => simp at h
    | cons a u ih =>
      intro v h
      cases v with
      | nil => simp at h
      | cons b v =>
        simp only [List.map_cons, List.cons.injEq] at h
        rw [str_eq h.1, ih v h.2]
  exact inj _ _ e
end MText
set_option Elab.async false
set_option linter.all false
set_option maxRecDepth 100000
set_option maxHeartbeats 4000000
namespace W03
open PySem L2 PySem.Spec PyProof.Rows WR
abbrev sLText : Stmt := top 22
abbrev sLOf : Stmt := top 23
abbrev sItems : Stmt := top 24
abbrev alphS : Str := "abcdefghijklmnopqrstuvwxyz"
/-- a letter's item -/
def itm (i : Int) : Str := if 0 < i then ⟨#[96 + i.natAbs]⟩ else ⟨#[96 + i.natAbs, 39]⟩
theorem alph_at : ∀ n, n < 26 → alphS.cps.toList[n]? = some (97 + n) := by decide +kernel
theorem alph_find : ∀ n, n < 26 → Txt.find alphS ⟨#[97 + n]⟩ = (n : Int) := by decide +kernel
theorem alph_len : alphS.length ≤ sizeLine := by decide +kernel
theorem itm_len (i : Int) : (itm i).length ≤ 2 := by
  unfold itm
  split
  · show 1 ≤ 2
    decide
  · show 2 ≤ 2
    decide
theorem itm_ne (i : Int) : ∀ z ∈ (itm i).cps.toList, i.natAbs ≤ 26 → 1 ≤ i.natAbs → z ≠ 32 := by
  intro z hz h1 h2
  unfold itm at hz
  split at hz
  · simp at hz; omega
  · simp at hz; omega
theorem space_eq : (Str.ofString " ") = ⟨#[32]⟩ := by decide +kernel
theorem dash_eq : (Str.ofString "-") = ⟨#[45]⟩ := by decide +kernel
theorem tick_eq : (Str.ofString "'") = ⟨#[39]⟩ := by decide +kernel
/-- the text of a word -/
def txt (ns : List Int) : Str := if ns = [] then ⟨#[45]⟩ else Txt.join ⟨#[32]⟩ (ns.map itm)
theorem txt_split {ns : List Int} (h : Lts ns) : Txt.split (txt ns) ⟨#[32]⟩ = if ns = [] then [⟨#[45]⟩] else ns.map itm := by
  unfold txt
  by_cases h0 : ns = []
  · rw [if_pos h0, if_pos h0]
    decide +kernel
  · rw [if_neg h0, if_neg h0]
    refine MText.split_join (by decide) (by simpa using h0) fun x hx z hz => ?_
    obtain ⟨i, hi, rfl⟩ := List.mem_map.mp hx
    exact itm_ne i z hz (h i hi).2 (h i hi).1
def spLText : Sp := fun vs H Q _ => ∃ i : Int, vs = [.int i] ∧ 1 ≤ i.natAbs ∧ i.natAbs ≤ 26 ∧ Q (.str (itm i)) H
theorem txt_len {ns : List Int} : (txt ns).length ≤ 3 * ns.length + 1 := by
  unfold txt
  split
  · show 1 ≤ _
    omega
  · show (Builtin.Str.glued ⟨#[32]⟩ (ns.map itm)).length ≤ _
    rw [StrLaws.glued_eq_join]
    refine Nat.le_trans (StrLaws.join_length_le _ _) ?_
    rw [List.length_map]
    have h1 : ((ns.map itm).map (·.length)).sum ≤ 2 * ns.length := by
      induction ns with
      | nil => simp
      | cons a t ih =>
        by_cases ht : t = []
        · subst ht
          have := itm_len a
          simp
          omega
        · have := ih ht
          have := itm_len a
          simp only [List.map_cons, List.sum_cons, List.length_cons]
          omega
    have : (⟨#[32]⟩ : Str).length = 1 := rfl
    rw [this]
    omega
section
variable {P : Program} {w : World} {K : PySem.W.Frag} {mg : Str → Option Value} {base : Heap}
theorem scLText : FnScope ["letter", "sign"] ["letter"] (defScope sLText) := ⟨rfl, rfl, rfl, by decide +kernel, rfl, by decide +kernel, by decide +kernel⟩
theorem ok_lText {f : Addr} {fd : FuncData} (F : Fun K "letter_text" "letter_text" sLText f fd) (hA : ∃ t, mg "ALPHABET" = some (.str alphS t)) (habs : mg "abs" = none) : FnOk P w K mg base CX0 1 f fd ["letter"] spLText := by
  refine F.ok scLText (fun vs H Q E h => ?_) (fun cdv A outer s H vs Q E hr h => ?_)
  · obtain ⟨i, rfl, _⟩ := h
    rfl
  · obtain ⟨i, rfl, i1, i26, k⟩ := h
    obtain ⟨tA, mA⟩ := hA
    refine ⟨_, pss_cons (ps_set (i := 1) scLText.nd rfl (Or.inl rfl) (pe_ix ix_str (pe_glob (v := .str alphS) (by rfl) mA ⟨_, rfl⟩) (pe_op op_sub (pe_callB call_abs (by rfl) habs (by decide +kernel) (pa_cons (pv 0) pa_nil)) pe_int) (fun _ _ => rfl)))
      (pss_one (ps_ret (pe_ifExp (pt_cmpR op_gt (pv 0) pe_int (nomark _)) (pv 1) (pe_op op_add_str (pv 1) pe_str)))), ?_⟩
    have e1 : (if i < 0 then -i else i) - 1 = ((i.natAbs - 1 : Nat) : Int) := by split <;> omega
    have e2 : 97 + (i.natAbs - 1) = 96 + i.natAbs := by omega
    refine ⟨_, rfl, i, rfl, _, _, rfl, rfl, _, _, 96 + i.natAbs, rfl, rfl, alph_len, (by rw [e1]; exact atI_nat (by rw [alph_at _ (by omega), e2])), ?_⟩
    refine ⟨_, rfl, _, _, rfl, rfl, _, rfl, ?_⟩
    refine ite2 (fun hp => ?_) (fun hp => ?_)
    · have h0 : 0 < i := by have := of_decide_eq_true hp; omega
      refine ⟨_, rfl, ?_⟩
      have : itm i = ⟨#[96 + i.natAbs]⟩ := by unfold itm; rw [if_pos h0]
      rw [this] at k
      exact k
    · have h0 : ¬ 0 < i := fun z => hp (decide_eq_true (by omega))
      refine ⟨_, rfl, _, _, rfl, rfl, (by show 2 ≤ sizeLine; decide), ?_⟩
      have : itm i = (⟨#[96 + i.natAbs]⟩ : Str) ++ Str.ofString "'" := by
        unfold itm
        rw [if_neg h0, tick_eq]
        rfl
      rw [this] at k
      exact k
end
end W03
set_option Elab.async false
set_option linter.all false
set_option maxRecDepth 100000
set_option maxHeartbeats 1000000
/-! repr of data, by defs that are called where no repr is under way. -/
namespace RG
open PySem L2 PySem.Spec PyProof.Rows
/-- a def's promise where no repr is under way -/
structure FnG (P : Program) (w : World) (K : PySem.W.Frag) (mg : Str → Option Value) (base : Heap) (k : Nat) (f : Addr) (fd : FuncData) (ps : List Str) (sp : Sp) : Prop where
  many : ∀ zs G R S, sp zs G R S → zs.length = ps.length
  does : ∀ (B : Around) (fr : List Env) (t : Shared) (G : Hp) (as : Args) (us : List Value) (zs : List V) (R : VK) (S : XK), B.guards = some [] → Room k B → Env0 P w K mg base B fr t G → BindsTo t fd as (ps.zip us) → Vals zs us → sp zs G R S →
    codeAny (model P w) B (.call (.ref f) as) (CR CX0 fr P w G t R S) t
theorem FnG.mono {P : Program} {w : World} {K : PySem.W.Frag} {mg : Str → Option Value} {base : Heap} {j k : Nat} {f : Addr} {fd : FuncData} {ps : List Str} {sp : Sp} (F : FnG P w K mg base j f fd ps sp) (h : j ≤ k) : FnG P w K mg base k f fd ps sp :=
  ⟨F.many, fun B fr t G as us zs R S g room => F.does B fr t G as us zs R S g (room.mono h)⟩
/-- what is left behind a body -/
theorem left_ok {X : Cx} {σ : L2.St} {G G' : Hp} {t t' : Shared} {R : VK} {v : V} {u : Value} (hb : X.s_0 = t) (J : Inv X [] σ G' t') (un : Un (frs X.stack) [] G G' t.heap t'.heap) (os : t'.os = t.os) (r : RelV v u) (q : R v G') : CE X.stack X.prog X.w G t R u t' :=
  ⟨v, G', os, J.bare, un, J.hok, r, q⟩
theorem fnG_of {P : Program} {w : World} {K : PySem.W.Frag} {mg : Str → Option Value} {base : Heap} {k : Nat} {f : Addr} {nm qual : Str} {params : Arguments} {body : List Stmt} {scope : Scope} {dV kV doc pm cdv ct oc : Value} {an od : Option Addr} {osl : Array (Option Value)} {N ps : List Str} {sp : Sp}
    (lk : K.lookup f = some ⟨oc, od, .func (PySem.W.fnOf nm qual params body scope dV kV doc pm an cdv ct), osl⟩) (cd : PySem.W.codeIn K cdv qual = true) (S : FnScope N ps scope) (many : ∀ zs G R E, sp zs G R E → zs.length = ps.length)
    (B0 : ∀ (B : Around) (fr : List Env) (t : Shared) (G : Hp) (zs : List V) (R : VK) (E : XK), B.guards = some [] → Room k (B.deeper (envOfC qual scope t.heap.objs.size f cdv)) → sp zs G R E →
      ∃ tb, PSs (cxOf CX0 P w K mg base N qual scope f cdv B fr t G E) body tb ∧ tb { nx := fun _ G' => R .non G', rt := R } (L2.start N zs) G) :
    FnG P w K mg base (k + 1) f (PySem.W.fnOf nm qual params body scope dV kV doc pm an cdv ct) ps sp where
  many := many
  does := by
    intro B fr t G as us zs R E hg room e0 bind rel asked
    have n1 := many _ _ _ _ asked
    have old : ∀ b o, base.get? b = some o → t.heap.get? b = some o := fun b o e => (e0.bs b o e).1
    have KX := e0.mod.kin.keeps old
    have names : ∀ y ∈ ps.zip us, scope.names.lookup y.1 = some .local ∨ (scope.names.lookup y.1 = some .cell ∧ ((cellsFrom (t.heap.objs.size + 1) scope.names []).lookup y.1).isSome = true) := by
      rintro ⟨a, b⟩ hy
      exact (S.par a (List.of_mem_zip hy).1).imp id fun c => ⟨c, PySem.W.cellsFrom_some _ _ _ (Or.inl c)⟩
    refine codeAny_call_function room.depth (KX _ _ lk) rfl S.co S.gen rfl (PySem.W.codeRec_of KX cd) (bind _ _ _ _ (wpAny_newFunctionEnv_cells S.kind names fun env he t1 x => ?_))
    subst he
    refine ⟨(e0.mod.nolimit.keeps old).keeps x.toInCall.keep, codeAny_func ?_⟩
    obtain ⟨tb, run, read⟩ := B0 B fr t G zs R E hg (room.deeper _) asked
    have I0 := inv_start (CX := CX0) (P := P) (w := w) (E := E) S room.hd e0 n1 rel x
    refine wpAny_mono (run.run [] t1 _ G _ I0 read) ?_ fun _ _ z => z
    intro fl t2 z
    cases fl with
    | next =>
      obtain ⟨τ, G2, J, q⟩ := z
      exact ⟨.non, G2, J.os, J.bare, J.base, J.hok, rfl, q⟩
    | ret u =>
      obtain ⟨v, τ, G2, J, rv, q⟩ := z
      exact ⟨v, G2, J.os, J.bare, J.base, J.hok, rv, q⟩
    | brk => exact z.elim fun _ z => z.elim fun _ z => False.elim z.2
    | cont => exact z.elim fun _ z => z.elim fun _ z => False.elim z.2
theorem Fun.okG {P : Program} {w : World} {K : PySem.W.Frag} {mg : Str → Option Value} {base : Heap} {x qual : Str} {st : Stmt} {f : Addr} {fd : FuncData} {N ps : List Str} {k : Nat} {sp : Sp} (F : L2.Fun K x qual st f fd) (S : FnScope N ps (defScope st)) (many : ∀ zs G R E, sp zs G R E → zs.length = ps.length)
    (B0 : ∀ (cdv : Value) (B : Around) (fr : List Env) (t : Shared) (G : Hp) (zs : List V) (R : VK) (E : XK), B.guards = some [] → Room k (B.deeper (envOfC qual (defScope st) t.heap.objs.size f cdv)) → sp zs G R E →
      ∃ tb, PSs (cxOf CX0 P w K mg base N qual (defScope st) f cdv B fr t G E).nox (defBody st) tb ∧ tb { nx := fun _ G' => R .non G', rt := R } (L2.start N zs) G) : FnG P w K mg base (k + 1) f fd ps sp := by
  obtain ⟨oc, od, kV, doc, pm, an, cdv, ct, osl, rfl, lk, cd⟩ := F.ex
  refine fnG_of lk cd S many fun B fr t G zs R E hg room asked => ?_
  obtain ⟨tb, run, read⟩ := B0 cdv B fr t G zs R E hg room asked
  exact ⟨tb, run.nox, read⟩
/-- a def that the module's name x holds -/
structure CalG (P : Program) (w : World) (K : PySem.W.Frag) (mg : Str → Option Value) (base : Heap) (x : Str) (k : Nat) (ps : List Str) (sp : Sp) : Prop where
  ex : ∃ (f : Addr) (fd : FuncData), FnG P w K mg base k f fd ps sp ∧ mg x = some (.ref f) ∧ PySem.W.keepIn K (.ref f) = true ∧ Binds K fd ps []
section
variable {X : Cx} {x : Str} {k j : Nat} {ps : List Str} {sp : Sp} {p pos : Pos} {e : Expr} {es : List Expr} {ta : TA}
theorem pe_calG (C : CalG X.prog X.w X.K X.mg X.base x k ps sp) (hg : X.A.guards = some []) (room : Room j X.A) (hkj : k ≤ j) (gl : Gl X x) (ha : PA X (e :: es) ta) (hdb : (x == ("__debug__" : Str)) = false := by decide)
    (h1 : starEach (e :: es) X.env = (false, eval e X.env) :: starEach es X.env := by rfl) (h2 : (backTo pos (starEach es X.env)).any (·.1) = false := by rfl) : PE X (.Call (.Name x p) (e :: es) [] pos) (tCall sp [] E0 ta) := by
  obtain ⟨f, fd, F, at_, kp, bn⟩ := C.ex
  constructor
  intro pins s σ H Q I ask
  refine wpAny_Call_Name_kw (ld_glob I gl at_ (PySem.W.callWith_K (h₀ := X.base) I.mod.kin kp (thn (ha.run pos pins s σ H _ I ask) fun us s1 z => ?_) h1 h2) hdb)
  obtain ⟨zs, H1, I1, rel, q⟩ := z
  have q : sp (zs ++ []) H1 Q E0 := q
  rw [List.append_nil] at q
  have lu : us.length = ps.length := by rw [← rel.length]; exact F.many _ _ _ _ q
  have bd := bn s1 us I1.kIn (by rw [List.append_nil]; exact lu)
  rw [List.append_nil] at bd
  refine ⟨I1.kIn, wpAny_call (codeAny_mono ((F.mono hkj).does X.A X.stack s1 H1 ⟨us, []⟩ us zs Q E0 hg room I1.env0 bd rel q) ?_)⟩
  intro r s2 hq
  match r, hq with
  | .ok (.ret u), hq => exact I1.after hq
/-- repr of data -/
def rRepr (K : PySem.W.Frag) : List V → Hp → VK → Prop := fun xs H Q => ∃ (a : Addr) (d : PyData), xs = [.ref a] ∧ Dp K H (.ref a) d ∧ d.showable = true ∧ d.hasDict = false ∧ d.depth ≤ 30 ∧ d.shown.length ≤ sizeLine ∧ Q (.str d.shown) H
theorem call_repr (hg : X.A.guards = some []) (hu : X.A.units + 40 < cLine) : CallR X (.builtin "repr") (rRepr X.K) := by
  intro pins s σ H xs us Q I rel ask
  obtain ⟨a, d, rfl, hd, hs, hn, hdep, hz, q⟩ := ask
  obtain ⟨u, rfl, ru⟩ := vals1 rel
  cases ru
  obtain ⟨as, rd⟩ := Dp.reads I d _ _ hd rfl
  exact repr_of_reads' rd hs (fun z => by rw [hn] at z; cases z) hg (by omega) (fun _ _ e => e) (fun h' u tk hk => ⟨.str _, H, I.kept hk, ⟨u, rfl⟩, q⟩) hz
end
end RG
set_option Elab.async false
set_option linter.all false
set_option maxRecDepth 100000
set_option maxHeartbeats 1000000
/-! the law's own call: no repr is under way. -/
namespace RG
open PySem L2 PySem.Spec PyProof.Rows
section
variable {P : Program} {w : World} {K : PySem.W.Frag} {s : Shared} {a : Addr} {vs : List Value} {ns : List Int}
/-- the list that the script is -/
def scriptO (vs : List Value) : Obj := { cls := .type "list", data := .seq vs.toArray }
/-- the script is told, if the module has it not -/
def startH (K : PySem.W.Frag) (a : Addr) (vs : List Value) (ns : List Int) : Hp := fun b => if b = a ∧ K.lookup a = none then some (.frz (scriptO vs) (.lst (ns.map V.int))) else none
theorem startH_some {b : Addr} {u : HO} (h : startH K a vs ns b = some u) : b = a ∧ K.lookup a = none ∧ u = .frz (scriptO vs) (.lst (ns.map V.int)) := by
  unfold startH at h
  split at h
  · rename_i c
    exact ⟨c.1, c.2, (Option.some.inj h).symm⟩
  · cases h
theorem startH_only : Only (startH K a vs ns) := fun b => by
  cases e : startH K a vs ns b with
  | none => exact .inl rfl
  | some u => exact .inr ⟨_, _, congrArg some (startH_some e).2.2⟩
theorem startH_seq (KX : K.In s.heap) (at_ : s.heap.get? a = some (scriptO vs)) (whole : IntsAre vs ns) (few : ns.length ≤ sizeLine) : SqL K (startH K a vs ns) a (ns.map V.int) := by
  cases hk : K.lookup a with
  | none => exact Or.inl (Or.inr ⟨scriptO vs, if_pos ⟨rfl, hk⟩⟩)
  | some o =>
    have same : o = scriptO vs := Option.some.inj ((KX a o hk).symm.trans at_)
    subst same
    exact Or.inr ⟨_, vs.toArray, _, hk, rfl, rfl, rfl, by rw [List.size_toArray, whole.length]; exact few, by simpa using vals_ints whole⟩
theorem startH_ok (at_ : s.heap.get? a = some (scriptO vs)) (whole : IntsAre vs ns) (few : ns.length ≤ sizeLine) : HOk P w (startH K a vs ns) s.heap := fun b u h => by
  obtain ⟨rfl, _, rfl⟩ := startH_some h
  exact ⟨at_, (by rw [List.length_map]; exact few), vs, _, vals_ints whole, at_⟩
/-- a namespace is no list -/
theorem startH_ns (at_ : s.heap.get? a = some (scriptO vs)) {b : Addr} {m : Str → Option Value} (h : s.heap.Ns b m) : (hidT s.heap (startH K a vs ns)).Ns b m := by
  obtain ⟨o, es, ep, get, data, rest⟩ := h
  refine ⟨o, es, ep, hidT_get get ?_, data, rest⟩
  cases e : startH K a vs ns b with
  | none => rfl
  | some u =>
    obtain ⟨rfl, _⟩ := startH_some e
    have eo : o = scriptO vs := Option.some.inj (get.symm.trans at_)
    rw [eo] at data
    exact nomatch (show Data.seq vs.toArray _ = Data.dict es ep from data)
theorem startH_in (KX : K.In s.heap) : K.In (hidT s.heap (startH K a vs ns)) := fun b o e => by
  refine hidT_get (KX b o e) ?_
  cases q : startH K a vs ns b with
  | none => rfl
  | some u =>
    obtain ⟨rfl, none_, _⟩ := startH_some q
    rw [none_] at e
    cases e
theorem law_callG {mg mb : Str → Option Value} {k : Nat} {fa : Addr} {fd : FuncData} {x : Str} {sp : Sp} (KX : K.In s.heap) (top : s.heap.Ns mainGlobals mg) (bi : s.heap.Ns builtinsNs mb) (bib : ∀ x : Str, x ≠ "__name__" → mb x = bootBuiltins x) (lim : s.heap.NoLimit) (gens : s.gens = #[])
    (at_ : s.heap.get? a = some (scriptO vs)) (whole : IntsAre vs ns) (few : ns.length ≤ sizeLine) (room : Room k callerA) (F : ∀ base : Heap, K.In base → base.Ns mainGlobals mg → FnG P w K mg base k fa fd [x] sp)
    (bind : ∀ (s : Shared) (u : Value), BindsTo s fd ⟨[u], []⟩ [(x, u)]) (ask : ∀ H : Hp, Only H → SqL K H a (ns.map V.int) → sp [.ref a] H (fun v _ => v = .bl true) E0) :
    codeAny (model P w) callerA (.call (.ref fa) ⟨[.ref a], []⟩) (fun r s' => r = .ok (.ret (.bool true)) ∧ OldK s.heap s'.heap ∧ s'.os = s.os ∧ AllBare s'.gens) s := by
  have kin := startH_in (a := a) (vs := vs) (ns := ns) KX
  have top' := startH_ns (K := K) (ns := ns) at_ top
  obtain ⟨mc, l1, l2⟩ := lim
  have env : Env0 P w K mg (hidT s.heap (startH K a vs ns)) callerA [] s (startH K a vs ns) :=
    { frames := rfl, mod := ⟨kin, top', ⟨mb, startH_ns at_ bi, bib⟩, ⟨mc, startH_ns at_ l1, l2⟩⟩, bs := fun _ _ => of_hidT, bsz := Nat.le_of_eq (hidT_size _ _), funs := trivial, frf := (fun b hb => nomatch (show b ∈ ([] : List Addr) from hb)), hok := startH_ok at_ whole few, bare := AllBare.of_eq gens }
  refine codeAny_mono ((F _ kin top').does callerA [] s _ ⟨[.ref a], []⟩ [.ref a] [.ref a] _ _ rfl room env (bind s (.ref a)) (.cons rfl .nil) (ask _ startH_only (startH_seq KX at_ whole few))) ?_
  intro r t z
  match r, z with
  | .ok (.ret u), ⟨v, G, os, bare, un, ok', rel, (q : v = .bl true)⟩ =>
    subst q
    obtain rfl : u = Value.bool true := rel
    refine ⟨rfl, OldK.of_keep fun b o get => ?_, os, bare⟩
    cases c : startH K a vs ns b with
    | none => exact un.keep b o get c (fun m => nomatch (show b ∈ ([] : List Addr) from m)) (fun m => nomatch m)
    | some u =>
      obtain ⟨rfl, _, rfl⟩ := startH_some c
      have eo : o = scriptO vs := Option.some.inj (get.symm.trans at_)
      rw [eo]
      exact (ok' b _ (un.frzs b _ _ c)).1
end
theorem walkG {l : PySem.W.OpenLaw} {n k : Nat} {q : Program} {loose : List Str} {XP : (Str → Option Value) → Heap → Prop} {YP : World → Heap → Prop} {d : DefRec} {K : Params → PySem.W.Frag} {sp : PySem.W.Frag → Sp} {x : Str} (hn : l.most = some n) (hz : n ≤ sizeLine) (hdf : d.params.defaults = []) (room : Room k callerA) (hY : ∀ (w : World) (h : Heap), YP w h → (K w.params).In h)
    (F : ∀ (w : World) (mg : Str → Option Value) (fa : Addr) (h : Heap), (K w.params).In h → h.Ns mainGlobals mg → mg d.name = some (.ref fa) →
      ∃ fd : FuncData, (∀ (s : Shared) (u : Value), BindsTo s fd ⟨[u], []⟩ [(x, u)]) ∧ ∀ base : Heap, (K w.params).In base → base.Ns mainGlobals mg → FnG l.prog w (K w.params) mg base k fa fd [x] (sp (K w.params)))
    (ask : ∀ (w : World) (H : Hp) (a : Addr) (ns : List Int), ns.length ≤ n → Only H → SqL (K w.params) H a (ns.map V.int) → sp (K w.params) [.ref a] H (fun v _ => v = .bl true) E0) : PySem.W.WalkO q loose XP YP l.row.toRowW d [] (fun f vs => PySem.call f vs) := by
  refine Att.attach_call hn hdf ?_
  intro w s0 s mg mb fa o pm cd doc a vs ns G Y _ _ _ hm at_ whole few gens
  have KX := hY w _ Y
  obtain ⟨fd, bind, B⟩ := F w mg fa _ KX G.T.g hm
  exact law_callG KX G.T.g G.T.b G.T.builtins G.T.nolimit gens at_ whole (Nat.le_trans few hz) room B bind fun H o z => ask w H a ns few o z
end RG
set_option Elab.async false
set_option linter.all false
set_option maxRecDepth 100000
set_option maxHeartbeats 4000000
/-! set(a list of ints). -/
namespace WS
open PySem PySem.Spec PyProof.Rows L2
section
variable {P : Program} {w : World} {A : Around} {E : Value → Shared → Prop} {s : Shared}
/-- the heap with the new set, and with the walk of the list besides -/
abbrev hSet (w : World) (s : Shared) : Heap := s.heap.push (bareSet w)
abbrev hWalk (w : World) (s : Shared) (l : Addr) : Heap := (hSet w s).push { cls := .type "list_iterator", data := .fields #[.ref l, .int 0 0] }
theorem bare_zero {h : Heap} {a : Addr} {ns : List Int} (e : h.get? a = some (bareSet w)) : SetR w h a (fun j => decide (j ∈ ns.take 0)) 0 := setR_new_at e
/-- what set.__init__ leaves -/
def Filled (w : World) (s : Shared) (ns : List Int) (t : Shared) : Prop :=
  ∃ (g : Heap) (k m : Nat), t = { s with heap := g, toks := k } ∧ SetR w g s.heap.objs.size (fun j => decide (j ∈ ns)) m ∧ m ≤ ns.length ∧ ∀ b o, s.heap.get? b = some o → g.get? b = some o
theorem init_list {l : Addr} {its : Array Value} {ns : List Int} (quiet : A.handled = none) (hl : s.heap.IsList l its) (hit : IntsAre its.toList ns) (few : ns.length + 1 < scanBound) :
    wpAny (model P w) A (Builtin.«set.__init__» ⟨[.ref s.heap.objs.size, .ref l], []⟩) (fun r t => r = .done (.ret .none) ∧ Filled w s ns t) E { s with heap := hSet w s } := by
  have many : its.size = ns.length := by have z := hit.length; rwa [Array.length_toList] at z
  have new : (hSet w s).get? s.heap.objs.size = some (bareSet w) := Heap.get?_push_size _ rfl
  have old : ∀ {b o}, s.heap.get? b = some o → (hSet w s).get? b = some o := fun e => Heap.get?_push_of_some _ e
  have ty : Shared.TypeIs { s with heap := hSet w s } (.ref s.heap.objs.size) "set" := ⟨_, new, rfl⟩
  have hl1 : (hSet w s).IsList l its := hl.push _
  have lo : l < s.heap.objs.size := by obtain ⟨_, e, _⟩ := hl; exact Heap.lt_size e
  have sz : (hSet w s).objs.size = s.heap.objs.size + 1 := Heap.size_push ..
  obtain ⟨⟨c0, d0, x0, o0⟩, at0, cls0, n0, dat0⟩ := id hl1
  simp only at cls0 dat0
  subst cls0 dat0
  have u1 := PySem.F.sub_list_set
  have u2 := PySem.F.sub_list_frozenset
  have u3 : (Value.type "list" == Value.type "dict") = false := rfl
  unfold Builtin.«set.__init__» noKeywords Builtin.Frozenset.updateFrom
  generalize hid : pyIter = it
  wp_walk
  subst hid
  refine wpAny_pyIter_list hl1 (wpAny_bind (wpAny_runValue ?_))
  have off : s.heap.objs.size ∉ [(hSet w s).objs.size, l] := by
    intro m
    rcases List.mem_cons.mp m with m | m
    · exact absurd (m.trans sz) (Nat.ne_of_lt (Nat.lt_succ_self _))
    · exact absurd (List.mem_singleton.mp m).symm (Nat.ne_of_lt lo)
  have apart : l ≠ (hSet w s).objs.size := fun e => absurd (e.trans sz) (Nat.ne_of_lt (Nat.lt_succ_of_lt lo))
  refine set_update_ints (Walks.list (by simpa using quiet) _ l apart its).toS _ off ns many few (fun i v q => ?_) (its.size - 0) 0 { s with heap := hWalk w s l } (by omega) (Nat.zero_le _) ⟨⟨_, Heap.get?_push_size _ rfl, rfl, rfl⟩, hl1.push _⟩ ⟨0, Nat.le_refl 0, bare_zero (Heap.get?_push_of_some _ new)⟩ fun t m mv le S => ?_
  · have lt : i < ns.length := by rw [← many]; exact (Array.getElem?_eq_some_iff.mp q).1
    obtain ⟨k, e⟩ := hit.int_at i v (by rw [Array.getElem?_toList]; exact q)
    rw [List.getD_eq_getElem?_getD, List.getElem?_eq_getElem lt] at e
    exact ⟨_, k, List.getElem?_eq_getElem lt, e⟩
  · obtain ⟨g, q, d, k, z⟩ := t
    obtain rfl : q = s.gens := mv.gens
    obtain rfl : d = s.drawn := mv.drawn
    obtain rfl : z = s.os := mv.os
    refine wpAny_pure (wpAny_pure ⟨rfl, g, k, m, rfl, S, by rw [← many]; exact le, fun b o e => ?_⟩)
    have lb : b < s.heap.objs.size := Heap.lt_size e
    refine mv.heap b o (fun h => ?_) (Heap.get?_push_of_some _ (old e))
    rcases List.mem_cons.mp h with h | h
    · exact absurd h (Nat.ne_of_lt lb)
    · exact absurd ((List.mem_singleton.mp h).trans sz) (Nat.ne_of_lt (Nat.lt_succ_of_lt lb))
/-- set(xs) of a list of ints -/
theorem set_list {l : Addr} {its : Array Value} {ns : List Int} {Q : Value → Shared → Prop} (quiet : A.handled = none) (hl : s.heap.IsList l its) (hit : IntsAre its.toList ns) (few : ns.length + 1 < scanBound)
    (fin : ∀ t, Filled w s ns t → Q (.ref s.heap.objs.size) t) : wpAny (model P w) A (call (.type "set") [.ref l]) Q E s := by
  have F := PySem.F.called_set
  obtain ⟨top, below, mro⟩ := F.mro
  have f1 := F.made; have f2 := F.sub; have f3 := F.notType; have f4 := F.canCreate
  have f5 := PySem.F.typeCall_set_1 (.ref l)
  have new : (hSet w s).get? s.heap.objs.size = some (bareSet w) := Heap.get?_push_size _ rfl
  have ty : Shared.TypeIs { s with heap := hSet w s } (.ref s.heap.objs.size) "set" := ⟨_, new, rfl⟩
  have f6 := F.init.lookup; have f7 := F.init.bind (.ref s.heap.objs.size)
  refine wpAny_call (codeAny_of_tree (show wpAny _ _ (callAny (.type "set") _) _ _ _ from wpAny_pure ⟨Code.quiet_builtin _ (by decide +kernel), codeAny_builtin PySem.F.entry_type_call ?_⟩))
  rw [Around.under_plain (weight_type_call_type "set" [.ref l] []) rfl]
  repeat (any_goals (first | assumption | wp_step))
  refine codeAny_mono (code_set_led1 (.ref l) (E := E) (Q₁ := fun v t => v = .ref s.heap.objs.size ∧ t = { s with heap := hSet w s }) ⟨rfl, rfl⟩) ?_
  rintro (e | fl) t ht
  · exact ht
  cases fl with
  | next => exact ht.elim
  | brk => exact ht.elim
  | cont => exact ht.elim
  | ret v =>
  obtain ⟨rfl, rfl⟩ := ht
  repeat (any_goals (first | assumption | wp_step))
  refine codeAny_mono (codeAny_call_builtin (R := wants (fun v t => v = .none ∧ Filled w s ns t) E) F.init.plain PySem.F.entry_set_init (check_set_init_1 ty ?_)) ?_
  · refine wpAny_mono (init_list (by simpa using quiet) hl hit few) ?_ fun _ _ z => z
    rintro _ t ⟨rfl, z⟩
    exact ⟨rfl, z⟩
  rintro (e | fl) t ht
  · exact ht
  cases fl with
  | next => exact ht.elim
  | brk => exact ht.elim
  | cont => exact ht.elim
  | ret v =>
  obtain ⟨rfl, z⟩ := ht
  repeat (any_goals (first | assumption | wp_step))
  exact fin _ z
end
section
variable {X : Cx}
def rSetLI (K : PySem.W.Frag) (w : World) : List V → Hp → VK → Prop := fun xs H Q => ∃ (p : Addr) (ns : List Int), xs = [.ref p] ∧ SqL K H p (ns.map V.int) ∧ ns.length ≤ 1000 ∧
  ∀ (D : Addr) (L : List Int), H D = none → L.Nodup → (∀ k, k ∈ L ↔ k ∈ ns) → Q (.ref D) (upd H D (SetO w D (fun j => decide (j ∈ ns)) L.length))
theorem call_setLI (hc : X.calm = true) : CallR X (.type "set") (rSetLI X.K X.w) := by
  intro pins s σ H xs us Q I rel ask
  obtain ⟨p, ns, rfl, hs, few, q⟩ := ask
  obtain ⟨u, rfl, ru⟩ := vals1 rel
  cases ru
  obtain ⟨its, rv, pl, hlen⟩ := I.list hs
  refine set_list (ns := ns) (I.ok.hd hc) pl.isList (by simpa using ints_of_vals rv) (by unfold scanBound; omega) fun t ⟨g, k, m, e, S, le, keep⟩ => ?_
  subst e
  have J := I.laid (t' := k) keep (Nat.le_refl _) (setO_new S)
  obtain ⟨o, es, ep, tb, e1, e2, e3, e4, nd, mem, e5, e6, sz, _⟩ := S
  have z := q s.heap.objs.size (es.toList.map keyOf) (I.hok.fresh (Nat.le_refl _)) nd fun k => by rw [← mem k, decide_eq_true_eq]
  rw [List.length_map, Array.length_toList, sz] at z
  exact ⟨.ref _, _, J, rfl, z⟩
end
end WS
set_option linter.all false
/-! The least turned form of a row, by two places that race. -/
namespace Lt
/-- the row from place p on, read round, is less than that from place q on -/
def Ls (f : Nat → Int) (n p q : Nat) : Prop := ∃ k, k < n ∧ (∀ t, t < k → f (p + t) = f (q + t)) ∧ f (p + k) < f (q + k)
theorem Ls.irr {f n p} : ¬ Ls f n p p := by
  rintro ⟨k, _, _, h⟩
  omega
theorem Ls.trans {f : Nat → Int} {n p q r : Nat} (h1 : Ls f n p q) (h2 : Ls f n q r) : Ls f n p r := by
  obtain ⟨k, hk, e1, l1⟩ := h1
  obtain ⟨m, hm, e2, l2⟩ := h2
  by_cases h : k < m
  · exact ⟨k, hk, fun t ht => (e1 t ht).trans (e2 t (by omega)), by rw [← e2 k h]; exact l1⟩
  · by_cases h' : m < k
    · exact ⟨m, hm, fun t ht => (e1 t (by omega)).trans (e2 t ht), by rw [e1 m h']; exact l2⟩
    · have : k = m := by omega
      subst this
      exact ⟨k, hk, fun t ht => (e1 t ht).trans (e2 t ht), by omega⟩
theorem Ls.total (f : Nat → Int) (n p q : Nat) : Ls f n p q ∨ Ls f n q p ∨ ∀ t, t < n → f (p + t) = f (q + t) := by
  induction n with
  | zero => exact .inr (.inr fun t ht => by omega)
  | succ n ih =>
    rcases ih with ⟨k, hk, e, l⟩ | ⟨k, hk, e, l⟩ | e
    · exact .inl ⟨k, by omega, e, l⟩
    · exact .inr (.inl ⟨k, by omega, e, l⟩)
    · by_cases h : f (p + n) < f (q + n)
      · exact .inl ⟨n, by omega, e, h⟩
      · by_cases h' : f (q + n) < f (p + n)
        · exact .inr (.inl ⟨n, by omega, fun t ht => (e t ht).symm, h'⟩)
        · refine .inr (.inr fun t ht => ?_)
          by_cases htn : t < n
          · exact e t htn
          · have : t = n := by omega
            subst this
            omega
theorem ex_min (f : Nat → Int) (n : Nat) : ∀ m, 0 < m → ∃ p, p < m ∧ ∀ q, q < m → ¬ Ls f n q p := by
  intro m
  induction m with
  | zero => intro h; omega
  | succ m ih =>
    intro _
    by_cases h0 : m = 0
    · subst h0
      exact ⟨0, by omega, fun q hq => by have : q = 0 := by omega
                                         subst this; exact Ls.irr⟩
    · obtain ⟨p, hp, hm⟩ := ih (by omega)
      by_cases h : Ls f n m p
      · refine ⟨m, by omega, fun q hq hl => ?_⟩
        by_cases hqm : q = m
        · subst hqm; exact Ls.irr hl
        · exact hm q (by omega) (hl.trans h)
      · refine ⟨p, by omega, fun q hq => ?_⟩
        by_cases hqm : q = m
        · subst hqm; exact h
        · exact hm q (by omega)
/-- the least place whose reading is least -/
theorem ex_first (f : Nat → Int) (n m : Nat) (h : 0 < m) : ∃ p, p < m ∧ (∀ q, q < m → ¬ Ls f n q p) ∧ ∀ q, q < p → ∃ r, r < m ∧ Ls f n r q := by
  obtain ⟨p0, hp0, hm0⟩ := ex_min f n m h
  have key : ∀ k p, p ≤ k → p < m → (∀ q, q < m → ¬ Ls f n q p) → ∃ p, p < m ∧ (∀ q, q < m → ¬ Ls f n q p) ∧ ∀ q, q < p → ∃ r, r < m ∧ Ls f n r q := by
    intro k
    induction k with
    | zero => intro p hk hp hm; exact ⟨p, hp, hm, fun q hq => by omega⟩
    | succ k ih =>
      intro p hk hp hm
      by_cases hx : ∀ q, q < p → ∃ r, r < m ∧ Ls f n r q
      · exact ⟨p, hp, hm, hx⟩
      · have ⟨q, hq⟩ := Classical.not_forall.mp hx
        have ⟨hqp, hn⟩ := Classical.not_imp.mp hq
        refine ih q (by omega) (by omega) fun r hr hl => hn ⟨r, hr, hl⟩
  exact key p0 p0 (Nat.le_refl _) hp0 hm0
/-- what is left out can't be least -/
def Out (f : Nat → Int) (n p : Nat) : Prop := ∃ q, Ls f n q p
structure Race (f : Nat → Int) (n one other alike : Nat) : Prop where
  a : ∀ p, p < one → Out f n p
  b : ∀ p, p < other → p ≠ one → Out f n p
  ne : one ≠ other
  al : alike ≤ n
  e : ∀ t, t < alike → f (one + t) = f (other + t)
theorem Race.start (f : Nat → Int) (n : Nat) : Race f n 0 1 0 := ⟨fun p h => by omega, fun p h h' => by omega, by omega, Nat.zero_le _, fun t h => by omega⟩
theorem Race.more {f n one other alike} (R : Race f n one other alike) (h : alike < n) (e : f (one + alike) = f (other + alike)) : Race f n one other (alike + 1) :=
  ⟨R.a, R.b, R.ne, h, fun t ht => by
    by_cases h' : t < alike
    · exact R.e t h'
    · have : t = alike := by omega
      subst this; exact e⟩
theorem out_run {f : Nat → Int} {n p q alike t : Nat} (h : alike < n) (e : ∀ t, t < alike → f (p + t) = f (q + t)) (l : f (q + alike) < f (p + alike)) (ht : t ≤ alike) : Out f n (p + t) := by
  refine ⟨q + t, alike - t, by omega, fun s hs => ?_, ?_⟩
  · have := e (t + s) (by omega)
    rw [Nat.add_assoc, Nat.add_assoc]
    exact this.symm
  · have e1 : q + t + (alike - t) = q + alike := by omega
    have e2 : p + t + (alike - t) = p + alike := by omega
    rw [e1, e2]
    exact l
theorem Race.one {f n one other alike} (R : Race f n one other alike) (h : alike < n) (l : f (other + alike) < f (one + alike)) :
    Race f n (one + (alike + 1)) (if one + (alike + 1) = other then other + 1 else other) 0 := by
  have A : ∀ p, p < one + (alike + 1) → Out f n p := by
    intro p hp
    by_cases h' : p < one
    · exact R.a p h'
    · obtain ⟨t, rfl⟩ : ∃ t, p = one + t := ⟨p - one, by omega⟩
      exact out_run h R.e l (by omega)
  refine ⟨A, fun p hp hn => ?_, ?_, Nat.zero_le _, fun t ht => by omega⟩
  · by_cases hp1 : p < one + (alike + 1)
    · exact A p hp1
    · split at hp
      · omega
      · by_cases hpo : p = one
        · omega
        · exact R.b p hp hpo
  · split <;> omega
theorem Race.other {f n one other alike} (R : Race f n one other alike) (h : alike < n) (l : f (one + alike) < f (other + alike)) :
    Race f n one (if one = other + (alike + 1) then other + (alike + 1) + 1 else other + (alike + 1)) 0 := by
  have B : ∀ p, p < other + (alike + 1) → p ≠ one → Out f n p := by
    intro p hp hn
    by_cases h' : p < other
    · exact R.b p h' hn
    · obtain ⟨t, rfl⟩ : ∃ t, p = other + t := ⟨p - other, by omega⟩
      exact out_run h (fun t ht => (R.e t ht).symm) l (by omega)
  refine ⟨R.a, fun p hp hn => ?_, ?_, Nat.zero_le _, fun t ht => by omega⟩
  · split at hp
    · exact B p (by omega) hn
    · exact B p hp hn
  · split <;> omega
/-- round: f comes back after n -/
theorem per_mod {f : Nat → Int} {n : Nat} (hf : ∀ s, f (s + n) = f s) (s : Nat) : f (s % n) = f s := by
  have : ∀ k s, f (s + n * k) = f s := by
    intro k
    induction k with
    | zero => intro s; rfl
    | succ k ih => intro s; rw [Nat.mul_succ, ← Nat.add_assoc, hf, ih]
  have h := this (s / n) (s % n)
  rw [Nat.mod_add_div] at h
  exact h.symm
theorem out_in {f : Nat → Int} {n p : Nat} (hf : ∀ s, f (s + n) = f s) (h0 : 0 < n) (h : Out f n p) : ∃ q, q < n ∧ Ls f n q p := by
  obtain ⟨q, k, hk, e, l⟩ := h
  refine ⟨q % n, Nat.mod_lt _ h0, k, hk, fun t ht => ?_, ?_⟩
  · rw [← e t ht, ← per_mod hf (q % n + t), ← per_mod hf (q + t), Nat.mod_add_mod]
  · rw [← per_mod hf (q % n + k), Nat.mod_add_mod, per_mod hf]
    exact l
/-- what comes of the race: the place reads least -/
theorem Race.fin {f : Nat → Int} {n one other alike : Nat} (R : Race f n one other alike) (hf : ∀ s, f (s + n) = f s) (h0 : 0 < n) (hend : ¬ (one < n ∧ other < n ∧ alike < n)) :
    min one other < n ∧ ∀ q, q < n → ¬ Ls f n q (min one other) := by
  obtain ⟨p, hp, hm, hfirst⟩ := ex_first f n n h0
  have no : ¬ Out f n p := fun ho => by
    obtain ⟨q, hq, hl⟩ := out_in hf h0 ho
    exact hm q hq hl
  have h1 : one ≤ p := by
    by_cases h : p < one
    · exact absurd (R.a p h) no
    · omega
  have h2 : p = one ∨ other ≤ p := by
    by_cases h : p = one
    · exact .inl h
    · by_cases h' : p < other
      · exact absurd (R.b p h' h) no
      · omega
  by_cases hn : other < n
  · -- all letters alike
    have ha : alike = n := by
      have := R.al
      omega
    have e := R.e
    rw [ha] at e
    have eall : ∀ t, f (one + t) = f (other + t) := by
      intro t
      have := e (t % n) (Nat.mod_lt _ h0)
      rw [← per_mod hf (one + t), ← per_mod hf (other + t), ← Nat.add_mod_mod one t n, ← Nat.add_mod_mod other t n, per_mod hf, per_mod hf]
      exact this
    have same : ∀ q, Ls f n q one ↔ Ls f n q other := fun q => ⟨fun ⟨k, hk, e1, l⟩ => ⟨k, hk, fun t ht => (e1 t ht).trans (eall t), by rw [← eall k]; exact l⟩, fun ⟨k, hk, e1, l⟩ => ⟨k, hk, fun t ht => (e1 t ht).trans (eall t).symm, by rw [eall k]; exact l⟩⟩
    have hp2 : p = one ∨ p = other := by
      rcases h2 with h2 | h2
      · exact .inl h2
      · by_cases hx : p = one ∨ p = other
        · exact hx
        · exfalso
          have ⟨hx1, hx2⟩ := not_or.mp hx
          have hne := R.ne
          -- one step back
          by_cases hlt : one < other
          · have hd : p - (other - one) < p := by omega
            obtain ⟨r, hr, hl⟩ := hfirst _ hd
            refine hm r hr ?_
            obtain ⟨k, hk, e1, l⟩ := hl
            have sh : ∀ t, f (p - (other - one) + t) = f (p + t) := by
              intro t
              have := eall (p - other + t)
              have a1 : one + (p - other + t) = p - (other - one) + t := by omega
              have a2 : other + (p - other + t) = p + t := by omega
              rw [a1, a2] at this
              exact this
            exact ⟨k, hk, fun t ht => (e1 t ht).trans (sh t), by rw [← sh k]; exact l⟩
          · have hd : p - (one - other) < p := by omega
            obtain ⟨r, hr, hl⟩ := hfirst _ hd
            refine hm r hr ?_
            obtain ⟨k, hk, e1, l⟩ := hl
            have sh : ∀ t, f (p - (one - other) + t) = f (p + t) := by
              intro t
              have := eall (p - one + t)
              have a1 : other + (p - one + t) = p - (one - other) + t := by omega
              have a2 : one + (p - one + t) = p + t := by omega
              rw [a1, a2] at this
              exact this.symm
            exact ⟨k, hk, fun t ht => (e1 t ht).trans (sh t), by rw [← sh k]; exact l⟩
    refine ⟨by omega, fun q hq hl => hm q hq ?_⟩
    have hmin : min one other = one ∨ min one other = other := by omega
    rcases hp2 with rfl | rfl <;> rcases hmin with h | h <;> rw [h] at hl
    · exact hl
    · exact (same q).mpr hl
    · exact (same q).mp hl
    · exact hl
  · have hpo : p = one := by omega
    subst hpo
    have : min p other = p := by omega
    rw [this]
    exact ⟨hp, hm⟩
end Lt
namespace Lt
/-! ### rows read round -/
def rot (xs : List Int) (p : Nat) : List Int := xs.drop p ++ xs.take p
def rd (xs : List Int) (s : Nat) : Int := xs.getD (s % xs.length) 0
theorem rot_length (xs : List Int) (p : Nat) : (rot xs p).length = xs.length := by
  unfold rot
  rw [List.length_append, List.length_drop, List.length_take]
  omega
theorem rd_per (xs : List Int) (s : Nat) : rd xs (s + xs.length) = rd xs s := by
  unfold rd
  rw [Nat.add_mod_right]
theorem rd_lt {xs : List Int} {s : Nat} (h : s < xs.length) : rd xs s = xs.getD s 0 := by
  unfold rd
  rw [Nat.mod_eq_of_lt h]
theorem rot_getD {xs : List Int} {p t : Nat} (hp : p ≤ xs.length) (ht : t < xs.length) : (rot xs p).getD t 0 = rd xs (p + t) := by
  unfold rot rd
  rw [List.getD_eq_getElem?_getD, List.getD_eq_getElem?_getD]
  congr 1
  by_cases h : p + t < xs.length
  · rw [Nat.mod_eq_of_lt h, List.getElem?_append_left (by rw [List.length_drop]; omega), List.getElem?_drop]
  · have e : (p + t) % xs.length = p + t - xs.length := by
      rw [Nat.mod_eq_sub_mod (by omega)]
      by_cases h2 : p + t - xs.length < xs.length
      · exact Nat.mod_eq_of_lt h2
      · omega
    rw [e, List.getElem?_append_right (by rw [List.length_drop]; omega), List.length_drop, List.getElem?_take]
    have h3 : t - (xs.length - p) = p + t - xs.length := by omega
    rw [h3, if_pos (by omega)]
theorem ext_getD {a b : List Int} (hl : a.length = b.length) (h : ∀ t, t < a.length → a.getD t 0 = b.getD t 0) : a = b := by
  apply List.ext_getElem hl
  intro i h1 h2
  have := h i h1
  rw [List.getD_eq_getElem?_getD, List.getD_eq_getElem?_getD, List.getElem?_eq_getElem h1, List.getElem?_eq_getElem h2] at this
  exact this
theorem rot_mem {xs : List Int} {p : Nat} {x : Int} (h : x ∈ rot xs p) : x ∈ xs := by
  unfold rot at h
  rcases List.mem_append.mp h with h | h
  · exact List.mem_of_mem_drop h
  · exact List.mem_of_mem_take h
theorem rot_eq_of {xs : List Int} {p q : Nat} (hp : p ≤ xs.length) (hq : q ≤ xs.length) (h : ∀ t, t < xs.length → rd xs (p + t) = rd xs (q + t)) : rot xs p = rot xs q := by
  refine ext_getD (by rw [rot_length, rot_length]) fun t ht => ?_
  rw [rot_length] at ht
  rw [rot_getD hp ht, rot_getD hq ht, h t ht]
theorem rd_rot {xs : List Int} {p : Nat} (hp : p ≤ xs.length) (h0 : 0 < xs.length) (s : Nat) : rd (rot xs p) s = rd xs (p + s) := by
  have h1 : rd (rot xs p) s = (rot xs p).getD (s % xs.length) 0 := by
    unfold rd
    rw [rot_length]
  rw [h1, rot_getD hp (Nat.mod_lt _ h0)]
  unfold rd
  rw [Nat.add_mod_mod]
theorem rot_rot {xs : List Int} {p q : Nat} (hp : p ≤ xs.length) (hq : q ≤ xs.length) (h0 : 0 < xs.length) : rot (rot xs p) q = rot xs ((p + q) % xs.length) := by
  refine ext_getD (by rw [rot_length, rot_length, rot_length]) fun t ht => ?_
  rw [rot_length, rot_length] at ht
  rw [rot_getD (by rw [rot_length]; exact hq) (by rw [rot_length]; exact ht), rd_rot hp h0, rot_getD (Nat.le_of_lt (Nat.mod_lt _ h0)) ht]
  unfold rd
  rw [Nat.mod_add_mod, Nat.add_assoc]
/-- ms is the least of the turned forms of ns -/
def Least (ns ms : List Int) : Prop := ∃ p, p < max 1 ns.length ∧ ms = rot ns p ∧ ∀ q, q < ns.length → ¬ Ls (rd ns) ns.length q p
theorem Least.ex (ns : List Int) : ∃ ms, Least ns ms := by
  by_cases h : 0 < ns.length
  · obtain ⟨p, hp, hm⟩ := ex_min (rd ns) ns.length ns.length h
    exact ⟨_, p, by omega, rfl, hm⟩
  · exact ⟨_, 0, by omega, rfl, fun q hq => by omega⟩
theorem Least.uniq {ns a b : List Int} (h1 : Least ns a) (h2 : Least ns b) : a = b := by
  obtain ⟨p, hp, rfl, m1⟩ := h1
  obtain ⟨q, hq, rfl, m2⟩ := h2
  by_cases h0 : 0 < ns.length
  · rcases Ls.total (rd ns) ns.length p q with h | h | h
    · exact absurd h (m2 p (by omega))
    · exact absurd h (m1 q (by omega))
    · exact rot_eq_of (by omega) (by omega) h
  · have : p = q := by omega
    rw [this]
theorem Ls.shift {xs : List Int} {j p q : Nat} (hj : j ≤ xs.length) (h0 : 0 < xs.length) : Ls (rd (rot xs j)) xs.length p q ↔ Ls (rd xs) xs.length (j + p) (j + q) := by
  constructor
  · rintro ⟨k, hk, e, l⟩
    refine ⟨k, hk, fun t ht => ?_, ?_⟩
    · have := e t ht
      rw [rd_rot hj h0, rd_rot hj h0] at this
      rw [Nat.add_assoc, Nat.add_assoc]
      exact this
    · rw [rd_rot hj h0, rd_rot hj h0] at l
      rw [Nat.add_assoc, Nat.add_assoc]
      exact l
  · rintro ⟨k, hk, e, l⟩
    refine ⟨k, hk, fun t ht => ?_, ?_⟩
    · rw [rd_rot hj h0, rd_rot hj h0, ← Nat.add_assoc, ← Nat.add_assoc]
      exact e t ht
    · rw [rd_rot hj h0, rd_rot hj h0, ← Nat.add_assoc, ← Nat.add_assoc]
      exact l
theorem Ls.modl {xs : List Int} {p q : Nat} : Ls (rd xs) xs.length (p % xs.length) (q % xs.length) ↔ Ls (rd xs) xs.length p q := by
  have e : ∀ s t, rd xs (s % xs.length + t) = rd xs (s + t) := fun s t => by
    unfold rd
    rw [Nat.mod_add_mod]
  constructor
  · rintro ⟨k, hk, h, l⟩
    exact ⟨k, hk, fun t ht => by rw [← e p, ← e q]; exact h t ht, by rw [← e p, ← e q]; exact l⟩
  · rintro ⟨k, hk, h, l⟩
    exact ⟨k, hk, fun t ht => by rw [e p, e q]; exact h t ht, by rw [e p, e q]; exact l⟩
theorem Least.turn {ns ms : List Int} {j : Nat} (hj : j ≤ ns.length) (h : Least (rot ns j) ms) : Least ns ms := by
  obtain ⟨p, hp, rfl, m⟩ := h
  rw [rot_length] at hp m
  by_cases h0 : 0 < ns.length
  · refine ⟨(j + p) % ns.length, by have := Nat.mod_lt (j + p) h0; omega, rot_rot hj (by omega) h0, fun q hq hl => ?_⟩
    refine m ((q + (ns.length - j)) % ns.length) (Nat.mod_lt _ h0) ?_
    rw [Ls.shift hj h0]
    have e1 : (j + (q + (ns.length - j)) % ns.length) % ns.length = q % ns.length := by
      rw [Nat.add_mod_mod]
      have : j + (q + (ns.length - j)) = q + ns.length := by omega
      rw [this, Nat.add_mod_right]
    rw [← Ls.modl, e1, Ls.modl, ← Ls.modl]
    have := Ls.modl.mpr hl
    rw [Nat.mod_mod] at this
    exact this
  · have : ns = [] := List.length_eq_zero_iff.mp (by omega)
    subst this
    refine ⟨0, by decide, ?_, fun q hq => absurd hq (by simp)⟩
    unfold rot
    simp
theorem Least.turn' {ns ms : List Int} {j : Nat} (hj : j ≤ ns.length) (h : Least ns ms) : Least (rot ns j) ms := by
  obtain ⟨ms', h'⟩ := Least.ex (rot ns j)
  have := h.uniq (h'.turn hj)
  rw [this]
  exact h'
theorem Least.self {ns ms : List Int} (h : Least ns ms) : Least ms ms := by
  obtain ⟨p, hp, e, m⟩ := id h
  by_cases h0 : 0 < ns.length
  · have := h.turn' (j := p) (by omega)
    rw [← e] at this
    exact this
  · have : ns = [] := List.length_eq_zero_iff.mp (by omega)
    subst this
    have : ms = [] := by rw [e]; unfold rot; simp
    rw [this] at h ⊢
    exact h
theorem Least.length {ns ms : List Int} (h : Least ns ms) : ms.length = ns.length := by
  obtain ⟨p, _, e, _⟩ := h
  rw [e, rot_length]
/-! ### the order of rows of one length -/
theorem ls_rows {ns : List Int} {p q : Nat} (hp : p ≤ ns.length) (hq : q ≤ ns.length) : Ls (rd ns) ns.length p q ↔ ∃ k, k < ns.length ∧ (∀ t, t < k → (rot ns p).getD t 0 = (rot ns q).getD t 0) ∧ (rot ns p).getD k 0 < (rot ns q).getD k 0 := by
  constructor
  · rintro ⟨k, hk, e, l⟩
    refine ⟨k, hk, fun t ht => ?_, ?_⟩
    · rw [rot_getD hp (by omega), rot_getD hq (by omega)]
      exact e t ht
    · rw [rot_getD hp hk, rot_getD hq hk]
      exact l
  · rintro ⟨k, hk, e, l⟩
    refine ⟨k, hk, fun t ht => ?_, ?_⟩
    · have := e t ht
      rw [rot_getD hp (by omega), rot_getD hq (by omega)] at this
      exact this
    · rw [rot_getD hp hk, rot_getD hq hk] at l
      exact l
end Lt
set_option Elab.async false
set_option linter.all false
set_option maxRecDepth 100000
set_option maxHeartbeats 1000000
namespace W03
open PySem L2 PySem.Spec PyProof.Rows WR WB
section
variable {X : Cx}
def rCntT (K : PySem.W.Frag) : V → List V → Hp → VK → Prop := fun x xs H Q => ∃ (p : Addr) (ns : List Int) (k : Int), x = .ref p ∧ xs = [.int k] ∧ SqT K H p (iv ns) ∧ Q (.int (ns.count k : Nat)) H
theorem mt_tcount {K : PySem.W.Frag} (hK : X.K = K) : MtR X "tuple.count" (rCntT K) := by
  subst hK
  intro pins s σ H x xs v us Q I rx rxs h
  obtain ⟨p, ns, k, rfl, rfl, hs, q⟩ := h
  cases rx
  obtain ⟨u, rfl, ru⟩ := rxs.one
  obtain ⟨t, rfl⟩ := ru
  obtain ⟨its, rv, ⟨⟨cls, dd, data, sl⟩, ho, hc, n, hd⟩, hlen⟩ := I.tuple hs
  simp only at hc hd
  subst hc hd
  have hi := ints_of_vals rv
  refine call_meets PySem.F.slot_tuple_count ⟨_, ho, rfl⟩ PySem.F.entry_tuple_count (PySem.F.args_tuple_count_2 _ _)
    (SeqAt.tuple_countAt p its.toArray n dd sl (.int k t) (eqk k)) ⟨ho, fun y hy => (eqk_gives hi y (by simpa using hy)).at _ _, ?_⟩
  have ec : its.toArray.toList.countP (eqk k) = ns.count k := eqk_count hi
  refine ⟨.int (ns.count k : Nat), H, I.tok _, ⟨s.toks, ?_⟩, q⟩
  show Value.int ((its.toArray.toList.countP (eqk k) : Nat) : Int) s.toks = Value.int ((ns.count k : Nat) : Int) s.toks
  rw [ec]
def tyB (K : PySem.W.Frag) (x : V) (H : Hp) : Prop := ∃ (a : Addr) (xs : List V), x = .ref a ∧ SqB K H a xs
theorem tyB_ok {K : PySem.W.Frag} (hK : X.K = K) : TyOk X "tuple" (tyB K) := by
  subst hK
  intro pins σ H s x v I r h
  obtain ⟨a, xs, rfl, hB⟩ := h
  cases r
  obtain ⟨its, _, ⟨o1, e1, c1, _⟩, _⟩ := I.tuple hB.sq
  obtain ⟨o, u, e, d⟩ := hB.bare
  have hx : ObjOk X.prog X.w H s.heap a (.frz o u) := I.hok a _ e
  exact ⟨⟨o1, e1, c1⟩, fun b hb => by cases hb; exact ⟨o, hx.1, d⟩⟩
end
structure MethW (P : Program) (w : World) (K : PySem.W.Frag) (mg : Str → Option Value) (base : Heap) (C : Addr) (m : Str) (ps : List Str) (sp : Sp) : Prop where
  ex : ∃ (f : Addr) (fd : FuncData), Meth K C m f ∧ FnOk P w K mg base CX0 6 f fd ps sp ∧ Binds K fd ps []
section
variable {X : Cx} {C : Addr} {o e : Expr} {es : List Expr} {ta : TE} {t : TA} {m : Str} {ps : List Str} {sp : Sp} {apos pos : Pos} {j : Nat}
theorem pe_w0 {pl : Sem Bool} (M : MethW X.prog X.w X.K X.mg X.base C m ps sp) (c : Cls X.K C) (hr : Room j X.A) (hj : 6 ≤ j) (he : PE X o ta)
    (ht : eval (.Call (.Attribute o m apos) [] [] pos) X.env = (do
      let ov ← eval o X.env
      standAt apos.atName
      let (f, first) ← holding [ov] (getMethod ov m pl)
      callWith pos f first (backTo pos (starEach [] X.env)) (backToKw pos (keywordEach [] X.env))) := by rfl) :
    PE X (.Call (.Attribute o m apos) [] [] pos) (tMeth C m sp [] E0 ta tNil) := by
  obtain ⟨f, fd, hm, F, hb⟩ := M.ex
  exact pe_meth0 he c hm F (hr.mono hj) hb .nil pass0 ht
theorem pe_w1 {pl : Sem Bool} (M : MethW X.prog X.w X.K X.mg X.base C m ps sp) (c : Cls X.K C) (hr : Room j X.A) (hj : 6 ≤ j) (he : PE X o ta) (ha : PA X (e :: es) t)
    (hst : starEach (e :: es) X.env = (false, eval e X.env) :: starEach es X.env := by rfl) (hpl : (backTo pos (starEach es X.env)).any (·.1) = false := by rfl)
    (ht : eval (.Call (.Attribute o m apos) (e :: es) [] pos) X.env = (do
      let ov ← eval o X.env
      standAt apos.atName
      let (f, first) ← holding [ov] (getMethod ov m pl)
      callWith pos f first (backTo pos (starEach (e :: es) X.env)) (backToKw pos (keywordEach [] X.env))) := by rfl) :
    PE X (.Call (.Attribute o m apos) (e :: es) [] pos) (tMeth C m sp [] E0 ta t) := by
  obtain ⟨f, fd, hm, F, hb⟩ := M.ex
  exact pe_meth he c hm F (hr.mono hj) hb .nil pass0 ha hst hpl ht
end
theorem WordAt.at {K : PySem.W.Frag} {C : Addr} {H : Hp} {p : Addr} {ns : List Int} (h : WordAt K C H p ns) {m : Str} (h1 : ¬ m = "letters") (h2 : ¬ m = "length") (h3 : ¬ m = "kinds") (h4 : ¬ m = "is_short") (h5 : ¬ m = "is_short_round") :
    ∃ dx fs, H p = some (.ins C dx fs) ∧ fs.lookup m = none := by
  obtain ⟨dx, tl, tk, ks, h, _⟩ := h
  exact ⟨dx, _, h, wf_no h1 h2 h3 h4 h5⟩
theorem nm1 : ¬ (("contrary" : Str) = "letters") ∧ ¬ (("contrary" : Str) = "length") ∧ ¬ (("contrary" : Str) = "kinds") ∧ ¬ (("contrary" : Str) = "is_short") ∧ ¬ (("contrary" : Str) = "is_short_round") := by decide +kernel
theorem nm2 : ¬ (("shortened" : Str) = "letters") ∧ ¬ (("shortened" : Str) = "length") ∧ ¬ (("shortened" : Str) = "kinds") ∧ ¬ (("shortened" : Str) = "is_short") ∧ ¬ (("shortened" : Str) = "is_short_round") := by decide +kernel
theorem nm4 : ¬ (("then" : Str) = "letters") ∧ ¬ (("then" : Str) = "length") ∧ ¬ (("then" : Str) = "kinds") ∧ ¬ (("then" : Str) = "is_short") ∧ ¬ (("then" : Str) = "is_short_round") := by decide +kernel
theorem nm5 : ¬ (("times" : Str) = "letters") ∧ ¬ (("times" : Str) = "length") ∧ ¬ (("times" : Str) = "kinds") ∧ ¬ (("times" : Str) = "is_short") ∧ ¬ (("times" : Str) = "is_short_round") := by decide +kernel
theorem WordAt.no {K : PySem.W.Frag} {C : Addr} {H : Hp} {p : Addr} {ns : List Int} (h : WordAt K C H p ns) {m : Str} (n : ¬ m = "letters" ∧ ¬ m = "length" ∧ ¬ m = "kinds" ∧ ¬ m = "is_short" ∧ ¬ m = "is_short_round") :
    ∃ dx fs, H p = some (.ins C dx fs) ∧ fs.lookup m = none := h.at n.1 n.2.1 n.2.2.1 n.2.2.2.1 n.2.2.2.2
theorem WordAt.drew {K : PySem.W.Frag} {C : Addr} {H H' : Hp} {p a c : Addr} {n : Nat} {ns : List Int} (h : WordAt K C H p ns) (hH : HandAt H a c n) {m : Nat} (d : Drew a c m H H') : WordAt K C H' p ns := by
  have keep : ∀ {q : Addr} {xs : List V}, SqT K H q xs → SqT K H' q xs := by
    intro q xs h
    obtain ⟨cs, i, r, hA, _⟩ := hH
    rcases h with h | h
    · left
      rcases h with h | ⟨o, h⟩
      · exact .inl (d.2 _ _ (fun z => by rw [z, hA] at h; cases h) h)
      · exact .inr ⟨o, d.2 _ _ (fun z => by rw [z, hA] at h; cases h) h⟩
    · exact .inr h
  obtain ⟨dx, tl, tk, ks, h1, h2, h3, h4⟩ := h
  have keepB : SqB K H' tl (iv ns) := by
    refine ⟨keep h2.sq, ?_⟩
    obtain ⟨cs, i, r, hA, _⟩ := hH
    obtain ⟨o, u, e, dn⟩ := h2.bare
    exact ⟨o, u, d.2 _ _ (fun z => by rw [z, hA] at e; cases e) e, dn⟩
  refine ⟨dx, tl, tk, ks, d.2 _ _ (fun z => ?_) h1, keepB, keep h3, h4⟩
  obtain ⟨cs, i, r, hA, _⟩ := hH
  rw [z, hA] at h1
  cases h1
theorem make_at {K : PySem.W.Frag} {C : Addr} {H1 : Hp} {q x dx : Addr} {ms : List Int} {G : Hp → Prop} {E : XK} (nx : H1 x = none) (ndx : H1 dx = none) (hq : SqW K H1 q (iv ms)) (hlen : ms.length ≤ 500) (hl : Lts ms) (k : ∀ H', Same H1 H' → WordAt K C H' x ms → G H') :
    spInit K C [.ref x, .ref q] (L2.upd (L2.upd H1 dx (.own x)) x (.ins C dx [])) (fun v H2 => v = .non ∧ G H2) E := by
  have s0 : Same H1 (L2.upd (L2.upd H1 dx (.own x)) x (.ins C dx [])) := fun b o e => by
    rw [upd_ne (ne_of_none e nx), upd_ne (ne_of_none e ndx)]
    exact e
  exact ⟨H1, x, dx, q, ms, rfl, s0, nx, upd_same, hq, hlen, hl, fun H' s' W' => ⟨rfl, k H' s' W'⟩⟩
theorem eqvL_ints (ns ms : List Int) : PyData.eqv (.list (ns.map .int)) (.list (ms.map .int)) = decide (ns = ms) := by
  show PyData.eqvAll _ _ = _
  exact eqvAll_ints ns ms
theorem no_ne {b : Bool} {A B : Prop} (h : b = true) (k : B) : if (!b) = true then A else B := by rw [h]; exact iteF k
theorem units65 {j : Nat} {A : Around} (hr : Room j A) (h : 1 ≤ j) : A.units + 65 < cLine := by
  have := (hr.mono h).in1.units
  exact this
def exch (a b : List Int) : List Int := a ++ b ++ Fr.con a ++ Fr.con b
theorem exch_length (a b : List Int) : (exch a b).length = 2 * a.length + 2 * b.length := by
  unfold exch
  simp [Fr.con_length]
  omega
theorem Lts.exch {a b : List Int} (h : Lts a) (k : Lts b) : Lts (W03.exch a b) := ((h.app k).app h.con).app k.con
section
variable {P : Program} {w : World} {K : PySem.W.Frag} {mg : Str → Option Value} {base : Heap}
end
theorem tms_len (N : Int) (ns : List Int) : (tms N ns).length = N.natAbs * ns.length := by
  unfold tms
  split
  · exact Fr.rep_length _ _
  · rw [Fr.rep_length, Fr.con_length]
theorem Lts.tms {ns : List Int} (h : Lts ns) (N : Int) : Lts (W03.tms N ns) := by
  unfold W03.tms
  split
  · exact h.rep _
  · exact h.con.rep _
theorem cut_to {ns : List Int} {j : Nat} (h : j ≤ ns.length) : cutV (iv ns) none (some ((j : Nat) : Int)) = iv (ns.take j) := by
  unfold cutV
  rw [HT.sIx_none, HT.sIx_nat, List.drop_zero, Nat.sub_zero, List.length_map, Nat.min_eq_left h, ← List.map_take]
theorem cut_from {ns : List Int} {j : Nat} (h : j ≤ ns.length) : cutV (iv ns) (some ((j : Nat) : Int)) none = iv (ns.drop j) := by
  unfold cutV
  rw [HT.sIx_none, HT.sIx_nat, List.length_map, Nat.min_eq_left h, ← List.map_drop, List.take_of_length_le (by simp)]
def trn (ns : List Int) (by_ : Int) : List Int := if ns = [] then [] else Lt.rot ns (by_ % (ns.length : Int)).toNat
theorem trn_length (ns : List Int) (b : Int) : (trn ns b).length = ns.length := by
  unfold trn
  split
  · rename_i h; rw [h]
  · exact Lt.rot_length _ _
theorem Lts.trn {ns : List Int} (h : Lts ns) (b : Int) : Lts (W03.trn ns b) := by
  unfold W03.trn
  split
  · exact fun _ h => nomatch h
  · exact fun x hx => h x (Lt.rot_mem hx)
section
variable {P : Program} {w : World} {K : PySem.W.Frag} {mg : Str → Option Value} {base : Heap}
end
section
variable {P : Program} {w : World} {K : PySem.W.Frag} {mg : Str → Option Value} {base : Heap}
end
theorem nm6 : ¬ (("turned" : Str) = "letters") ∧ ¬ (("turned" : Str) = "length") ∧ ¬ (("turned" : Str) = "kinds") ∧ ¬ (("turned" : Str) = "is_short") ∧ ¬ (("turned" : Str) = "is_short_round") := by decide +kernel
inductive All2 {α β : Type} (R : α → β → Prop) : List α → List β → Prop
  | nil : All2 R [] []
  | cons {a : α} {b : β} {as : List α} {bs : List β} (h : R a b) (r : All2 R as bs) : All2 R (a :: as) (b :: bs)
theorem All2.length {α β : Type} {R : α → β → Prop} {as : List α} {bs : List β} (h : All2 R as bs) : as.length = bs.length := by
  induction h with
  | nil => rfl
  | cons _ _ ih => simp [ih]
theorem All2.imp {α β : Type} {R S : α → β → Prop} {as : List α} {bs : List β} (h : All2 R as bs) (k : ∀ a b, R a b → S a b) : All2 S as bs := by
  induction h with
  | nil => exact .nil
  | cons h _ ih => exact .cons (k _ _ h) ih
theorem All2.at {α β : Type} {R : α → β → Prop} {as : List α} {bs : List β} (h : All2 R as bs) : ∀ {i : Nat} {a : α}, as[i]? = some a → ∃ b, bs[i]? = some b ∧ R a b := by
  induction h with
  | nil => intro i a e; simp at e
  | cons h r ih =>
    intro i a e
    cases i with
    | zero => simp at e; subst e; exact ⟨_, by simp, h⟩
    | succ i => simpa using ih (by simpa using e)
theorem All2.mem {α β : Type} {R : α → β → Prop} {as : List α} {bs : List β} (h : All2 R as bs) {a : α} (ha : a ∈ as) : ∃ b, b ∈ bs ∧ R a b := by
  obtain ⟨i, e⟩ := List.mem_iff_getElem?.mp ha
  obtain ⟨b, e2, r⟩ := h.at e
  exact ⟨b, List.mem_of_getElem? e2, r⟩
theorem All2.app {α β : Type} {R : α → β → Prop} {as : List α} {bs : List β} (h : All2 R as bs) {cs : List α} {ds : List β} (k : All2 R cs ds) : All2 R (as ++ cs) (bs ++ ds) := by
  induction h with
  | nil => exact k
  | cons h _ ih => exact .cons h ih
theorem lcM {β : Type} {J : It} {xs : List V} {G : Hp → Prop} (w : Walk J xs.length G (YAt xs)) (ys : List β) (R : Addr → Hp → V → β → Prop) (hst : ∀ D H H' v b, R D H v b → Same H H' → R D H' v b) (hput : ∀ D H ws o v b, H D = some (.lst ws) → R D H v b → R D (L2.upd H D o) v b)
    (hz : xs.length < 40000) (hl : xs.length = ys.length) {g : TG} {te : TE} {vs : List Nat} {σ : L2.St} {H1 : Hp} {Q : VK} (hG : ∀ H, Same H1 H → G H)
    (hs : ∀ (i : Nat) (x : V) (b : β), xs[i]? = some x → ys[i]? = some b → ∀ D H, H1 D = none → (∃ ws, H D = some (.lst ws)) → Same H1 H → ∀ (Qy : V → Hp → Prop), (∀ v H', Same H H' → R D H' v b → Qy v H') →
      g x (wipe σ vs) H fun σ2 H2 => wipe σ2 vs = wipe σ vs ∧ te σ2 H2 Qy)
    (hg : ∀ x σ1 H A B, (∀ σ2 H2, A σ2 H2 → B σ2 H2) → g x σ1 H A → g x σ1 H B)
    (hd : ∀ (D : Addr) H' ws, H1 D = none → Same H1 H' → H' D = some (.lst ws) → All2 (R D H') ws ys → Q (.ref D) H') : tLc (fun _ H R => R J H) g tYes te vs σ H1 Q := by
  intro D hD
  refine lc_it w (fun i H => Same H1 H ∧ ∃ ws, H D = some (.lst ws) ∧ All2 (R D H) ws (ys.take i)) ⟨fun b o e => by rw [upd_ne (ne_of_none e hD)]; exact e, [], upd_same, by simp only [List.take_zero]; exact .nil⟩ (fun i H _ q => hG H q.1) ?_ ?_
  · rintro i x H H' hi ⟨sm, ws, hw, h2⟩ ⟨rfl, hx⟩
    have hi2 : i < ys.length := by omega
    refine hg _ _ _ _ _ (fun σ2 H2 q => ⟨q.1, yes_te q.2⟩) (hs i x ys[i] hx (List.getElem?_eq_getElem hi2) D H' hD ⟨ws, hw⟩ sm _ fun v H2 s2 r => ?_)
    have hw2 := s2 _ _ hw
    have hlen := h2.length
    rw [List.length_take] at hlen
    refine ⟨ws, hw2, Evl.sz_lt (by omega), fun b o e => ?_, ws ++ [v], upd_same, ?_⟩
    · rw [upd_ne (ne_of_none e hD)]
      exact s2 _ _ (sm _ _ e)
    · rw [List.take_succ_eq_append_getElem hi2]
      exact (h2.imp fun v b r => hput D H2 ws _ v b hw2 (hst D _ _ v b r s2)).app (.cons (hput D H2 ws _ v _ hw2 r) .nil)
  · rintro H ⟨sm, ws, hw, h2⟩
    rw [List.take_of_length_le (by omega)] at h2
    exact hd D H ws hD sm hw h2
theorem gName_mono {i : Nat} {x : V} {σ : L2.St} {H : Hp} {A B : L2.St → Hp → Prop} (k : ∀ σ2 H2, A σ2 H2 → B σ2 H2) (h : gName i x σ H A) : gName i x σ H B := k _ _ h
theorem gTup_mono {K : PySem.W.Frag} {i j : Nat} {x : V} {σ : L2.St} {H : Hp} {A B : L2.St → Hp → Prop} (k : ∀ σ2 H2, A σ2 H2 → B σ2 H2) (h : gTup K 2 (gCons (gName i) (gCons (gName j) gNil)) x σ H A) : gTup K 2 (gCons (gName i) (gCons (gName j) gNil)) x σ H B := by
  obtain ⟨a, xs, e1, e2, e3, v, r, e4, v2, r2, e5, e6, h⟩ := h
  exact ⟨a, xs, e1, e2, e3, v, r, e4, v2, r2, e5, e6, k _ _ h⟩
theorem SqT.keptL {K : PySem.W.Frag} {H H' : Hp} {l q : Addr} {vs xs : List V} (hl : H l = some (.lst vs)) (d : Kept l H H') (h : SqT K H q xs) : SqT K H' q xs := by
  rcases h with h | h
  · left
    rcases h with h | ⟨o, h⟩
    · exact .inl (d _ _ (fun z => by rw [z, hl] at h; cases h) h)
    · exact .inr ⟨o, d _ _ (fun z => by rw [z, hl] at h; cases h) h⟩
  · exact .inr h
section
variable {X : Cx} {K : PySem.W.Frag} {T : String} {name : Str} {id : String} {r : V → List V → Hp → VK → Prop} {o e : Expr} {es : List Expr} {to : TE} {t : TA} {apos cpos : Pos}
theorem pe_bmK (hK : X.K = K) (pa : PlainAttrs T) (slot : PySem.Slot T name id) (hty : typeOf (.builtin id) = pure (.type "method_descriptor")) (hm : MtR X id r) (ho : PE X o to) (ha : PA X (e :: es) t)
    (hbase : attributeBase o name X.env (eval o X.env) = eval o X.env := by rfl)
    (hfew : ((backTo cpos (starEach (e :: es) X.env)).all (fun x => !x.1) && (backToKw cpos (keywordEach [] X.env)).all (fun x => x.1.isSome)
      && decide ((e :: es).length + ([] : List Keyword).length + (if ([] : List Keyword).isEmpty then 0 else 1) < 30)) = true := by rfl)
    (hline : (apos.endLine == cpos.line) = true := by rfl) (hs : starEach (e :: es) X.env = (false, eval e X.env) :: starEach es X.env := by rfl) (hplain : (backTo cpos (starEach es X.env)).any (·.1) = false := by rfl) :
    PE X (.Call (.Attribute o name apos) (e :: es) [] cpos) (tBM K T r to t) := by
  subst hK
  exact pe_bm pa slot hty hm ho ha hbase hfew hline hs hplain
end
section
variable {P : Program} {w : World} {K : PySem.W.Frag} {mg : Str → Option Value} {base : Heap} {C : Addr}
end
section
variable {P : Program} {w : World} {K : PySem.W.Frag} {mg : Str → Option Value} {base : Heap} {C : Addr}
end
theorem as_lc {wi : TI} {g : TG} {tt : TT} {te : TE} {gg : TG} {vs : List Nat} {D : Ends} {σ : L2.St} {H : Hp}
    (h : wi σ H fun J H1 => tLc (fun _ H R => R J H) g tt te vs σ H1 fun z H4 => gg z σ H4 D.nx) : tAsg (tLc wi g tt te vs) gg D σ H := h
theorem at_set {σ : L2.St} {H : Hp} {v : V} {i : Nat} {f : L2.St → Hp → Prop} (h : f (σ.set i (some v)) H) : gName i v σ H f := h
theorem ixl {X : Cx} {K : PySem.W.Frag} (h : X.K = K) : IxR X (rIxL K) := h ▸ ix_list
theorem call_listK {X : Cx} {K : PySem.W.Frag} (h : X.K = K) : CallR X (.type "list") (fun xs H Q => ∃ p ys, xs = [.ref p] ∧ (SqL K H p ys ∨ SqT K H p ys) ∧ ∀ l, H l = none → Q (.ref l) (L2.upd H l (.lst ys))) := by
  subst h
  exact call_list_of
def toI : V → Int
  | .int i => i
  | _ => 0
theorem perm_iv {ys : List V} {ks0 : List Int} (h : ys.Perm (iv ks0)) : ∃ ks, ys = iv ks ∧ ks.Perm ks0 := by
  refine ⟨ys.map toI, ?_, ?_⟩
  · unfold iv
    rw [List.map_map]
    have : ∀ y ∈ ys, y = (V.int ∘ toI) y := fun y hy => by
      obtain ⟨i, _, rfl⟩ := List.mem_map.mp (h.mem_iff.mp hy)
      rfl
    have e := List.map_congr_left this
    rw [← e]
    simp
  · have := h.map toI
    have e : (iv ks0).map toI = ks0 := by
      unfold iv
      rw [List.map_map]
      have : (toI ∘ V.int) = id := rfl
      rw [this, List.map_id]
    rw [e] at this
    exact this
theorem erase_iv : ∀ (ks : List Int) (m : Nat), (iv ks).eraseIdx m = iv (ks.eraseIdx m)
  | [], _ => rfl
  | _ :: _, 0 => rfl
  | a :: t, m + 1 => by
    show V.int a :: (iv t).eraseIdx m = V.int a :: iv (t.eraseIdx m)
    rw [erase_iv t m]
theorem seq_at {j n : Nat} (h : j < n) : seqIndex? (j : Int) n = some j := by
  unfold seqIndex?
  have h1 : ¬ (j : Int) < 0 := by omega
  simp only [if_neg h1]
  rw [if_pos (by simp; omega), Int.toNat_natCast]
theorem cb_lc {r : List V → Hp → VK → Prop} {wi : TI} {g : TG} {tt : TT} {te : TE} {vs : List Nat} {σ : L2.St} {H : Hp} {Q : VK}
    (h : wi σ H fun J H1 => tLc (fun _ H R => R J H) g tt te vs σ H1 fun y H2 => r [y] H2 Q) : tCB r (tCons (tLc wi g tt te vs) tNil) σ H Q := h
/-! ### the methods that the law calls besides -/
abbrev sLenM : Stmt := inClass (top 31) 2
abbrev sStrM : Stmt := inClass (top 31) 3
abbrev sReadM : Stmt := inClass (top 31) 12
abbrev sTold : Stmt := top 25
def spLenM (K : PySem.W.Frag) (C : Addr) : Sp := fun vs H Q _ => ∃ (p : Addr) (ns : List Int), vs = [.ref p] ∧ WordAt K C H p ns ∧ Q (.int (ns.length : Nat)) H
def spStrM (K : PySem.W.Frag) (C : Addr) : Sp := fun vs H Q _ => ∃ (p : Addr) (ns : List Int), vs = [.ref p] ∧ WordAt K C H p ns ∧ ns.length ≤ 500 ∧ Lts ns ∧ ∀ H', Same H H' → Q (.str (txt ns)) H'
theorem all_iv {ws : List V} {ns : List Int} (h : All2 (fun v b => v = V.int b) ws ns) : ws = iv ns := by
  induction h with
  | nil => rfl
  | cons h _ ih => rw [h, ih]; rfl
theorem itm_dash {i : Int} (h1 : 1 ≤ i.natAbs) (h2 : i.natAbs ≤ 26) : itm i ≠ ⟨#[45]⟩ := by
  unfold itm
  split
  · intro e
    injection e with e
    injection e with e
    injection e with e
    omega
  · intro e
    injection e with e
    injection e with e
    injection e with _ e
    cases e
section
variable {P : Program} {w : World} {K : PySem.W.Frag} {mg : Str → Option Value} {base : Heap} {C : Addr}
theorem scLenM : FnScope ["self"] ["self"] (defScope sLenM) := ⟨rfl, rfl, rfl, by decide +kernel, rfl, by decide +kernel, by decide +kernel⟩
theorem ok_lenM {f : Addr} {fd : FuncData} (F : Fun K "__len__" "Word.__len__" sLenM f fd) (T : TxW K mg C) (hlen : mg "len" = none) : FnOk P w K mg base CX0 1 f fd ["self"] (spLenM K C) := by
  refine F.ok scLenM (fun vs H Q E h => ?_) (fun cdv A outer s H vs Q E hr h => ?_)
  · obtain ⟨p, ns, rfl, _⟩ := h
    rfl
  · obtain ⟨p, ns, rfl, hW, k⟩ := h
    refine ⟨_, pss_one (ps_ret (pe_callB call_len_seq (by rfl) hlen PySem.boot_len (pa_cons (pe_fld (pv 0) rfl) pa_nil))), ?_⟩
    obtain ⟨dx, tl, tk, ks, w1, w2, _⟩ := id hW
    refine ⟨_, rfl, p, C, dx, _, _, rfl, w1, T.cl, T.nL, wf_letters, tl, _, rfl, .inr w2.sq, ?_⟩
    rw [List.length_map]
    exact k
theorem scStrM : FnScope ["self", "letter"] ["self"] (defScope sStrM) := ⟨rfl, rfl, rfl, by decide +kernel, rfl, by decide +kernel, by decide +kernel⟩
theorem ok_strM {f : Addr} {fd : FuncData} (F : Fun K "__str__" "Word.__str__" sStrM f fd) (T : TxW K mg C) (GT : Cal P w K mg base "letter_text" 1 ["letter"] spLText) : FnOk P w K mg base CX0 2 f fd ["self"] (spStrM K C) := by
  refine F.ok scStrM (fun vs H Q E h => ?_) (fun cdv A outer s H vs Q E hr h => ?_)
  · obtain ⟨p, ns, rfl, _⟩ := h
    rfl
  · obtain ⟨p, ns, rfl, hW, ln, hl, k⟩ := h
    refine ⟨_, pss_cons (ps_if (pt_not (pt_truth (pe_fld (pv 0) rfl) (by intro _; rfl))) (pss_one (ps_ret pe_str)) pss_nil)
      (pss_one (ps_ret (pe_join pe_str (pe_lc (own := [("letter", 1)]) (g := gName 1) (tt := tYes) rfl scStrM.nd (pi_tup (pe_fld (pv 0) rfl)) (blkOk_by (N := ["self", "letter"]) (sc := defScope sStrM) (by decide +kernel)) (fun _ _ _ _ _ => pg_name (i := 1) scStrM.nd rfl (Or.inl rfl)) (fun _ _ _ _ _ => pts_nil)
        (fun _ _ _ _ _ => pe_cal GT hr (by decide) (by rfl) (pa_cons (pv 1) pa_nil)))))), ?_⟩
    obtain ⟨dx, tl, tk, ks, w1, w2, _⟩ := id hW
    refine ⟨_, rfl, p, C, dx, _, _, rfl, w1, T.cl, T.nL, wf_letters, _, .inr (.inl ⟨_, w2.sq, rfl⟩), ?_⟩
    by_cases h0 : ns = []
    · subst h0
      refine iteT ?_
      exact k H (Same.refl _)
    · have he : (iv ns).isEmpty = false := by
        cases ns with
        | nil => exact absurd rfl h0
        | cons => rfl
      rw [he]
      refine iteF ?_
      refine ⟨⟨_, rfl⟩, lc_in ?_⟩
      refine ⟨_, rfl, p, C, dx, _, _, rfl, w1, T.cl, T.nL, wf_letters, tl, rfl, ⟨_, w2.sq⟩, ?_⟩
      refine lcp (walk_tup (K := K) (a := tl) (xs := iv ns)) (fun _ => true) (fun x => match x with | .int i => .str (itm i) | _ => .non) (by rw [List.length_map]; omega) (fun H3 s3 => WR.Same.seqT s3 w2.sq) ?_ ?_
      · intro x hx H3 s3 Qy Qn ky kn
        obtain ⟨i, hi, rfl⟩ := List.mem_map.mp hx
        obtain ⟨i1, i2⟩ := hl i hi
        refine ⟨rfl, yes_te ?_⟩
        exact ⟨_, rfl, i, rfl, i1, i2, ky rfl H3 (Same.refl _)⟩
      · intro D H3 hD s3 h3
        have e : (((iv ns).filter fun _ => true).map fun x => match x with | .int i => V.str (itm i) | _ => .non) = (ns.map itm).map V.str := by
          rw [List.filter_eq_self.mpr (fun _ _ => rfl)]
          simp [iv, Function.comp_def]
        rw [e] at h3
        refine ⟨_, D, ns.map itm, rfl, rfl, .inl (SqL.of h3), ?_, ?_⟩
        · have hs : ∀ ms : List Int, ((ms.map itm).map (·.length)).sum ≤ 2 * ms.length := by
            intro ms
            induction ms with
            | nil => exact Nat.zero_le _
            | cons a r ih =>
              have := itm_len a
              simp only [List.map_cons, List.sum_cons, List.length_cons]
              omega
          have h1 := hs ns
          have h2 : (ns.map itm).length = ns.length := List.length_map ..
          rw [h2]
          show _ + ns.length * 1 ≤ _
          omega
        · have et : txt ns = Txt.join (Str.ofString " ") (ns.map itm) := by
            unfold txt
            rw [if_neg h0, space_eq]
          have := k H3 s3
          rw [et] at this
          exact this
end

end W03
set_option Elab.async false
set_option linter.all false
/-! Words put for letters, kinds renamed, what a row holds more of a letter than of its contrary. -/
namespace Fr
def sub (f : Int → List Int) (xs : List Int) : List Int := (xs.map f).flatten
/-- the contrary for the contrary -/
def Odd (f : Int → List Int) : Prop := ∀ x, x ≠ 0 → f (-x) = con (f x)
theorem sub_nil (f : Int → List Int) : sub f [] = [] := rfl
theorem sub_cons (f : Int → List Int) (a : Int) (t : List Int) : sub f (a :: t) = f a ++ sub f t := by simp [sub]
theorem sub_app (f : Int → List Int) (xs ys : List Int) : sub f (xs ++ ys) = sub f xs ++ sub f ys := by simp [sub]
theorem sub_one (f : Int → List Int) (a : Int) : sub f [a] = f a := by simp [sub]
theorem sub_congr {f g : Int → List Int} {xs : List Int} (h : ∀ x ∈ xs, f x = g x) : sub f xs = sub g xs := by
  unfold sub
  rw [List.map_congr_left h]
theorem sub_con {f : Int → List Int} (o : Odd f) : ∀ {xs : List Int}, NZ xs → sub f (con xs) = con (sub f xs)
  | [], _ => rfl
  | a :: t, nz => by
    have ha : a ≠ 0 := nz a List.mem_cons_self
    have ht : NZ t := fun x hx => nz x (List.mem_cons_of_mem _ hx)
    rw [con_cons, sub_app, sub_one, sub_cons, con_append, sub_con o ht, o a ha]
theorem sub_push {f : Int → List Int} (o : Odd f) {s : List Int} {a : Int} (ha : a ≠ 0) : Sm (sub f (push s a).reverse) (sub f (s.reverse ++ [a])) := by
  cases s with
  | nil => exact Sm.refl _
  | cons b t =>
    by_cases e : b = -a
    · have h1 : push (b :: t) a = t := by simp [push, e]
      rw [h1, e, List.reverse_cons, sub_app, sub_app, sub_one, sub_one, o a ha, List.append_assoc]
      have := (Sm.refl (sub f t.reverse)).app (sm_con' (f a))
      rw [List.append_nil] at this
      exact this.symm
    · have h1 : push (b :: t) a = a :: b :: t := by simp [push, e]
      rw [h1]
      simp only [List.reverse_cons]
      exact Sm.refl _
theorem sub_act {f : Int → List Int} (o : Odd f) : ∀ {xs : List Int} (s : List Int), NZ xs → Sm (sub f (act s xs).reverse) (sub f (s.reverse ++ xs))
  | [], s, _ => by
    rw [List.append_nil]
    exact Sm.refl _
  | a :: t, s, nz => by
    have ha : a ≠ 0 := nz a List.mem_cons_self
    have ht : NZ t := fun x hx => nz x (List.mem_cons_of_mem _ hx)
    rw [act_cons]
    refine (sub_act o (push s a) ht).trans ?_
    have := (sub_push o (s := s) ha).app (Sm.refl (sub f t))
    rw [← sub_app, ← sub_app, List.append_assoc] at this
    exact this
theorem sub_shr {f : Int → List Int} (o : Odd f) {xs : List Int} (nz : NZ xs) : Sm (sub f (shr xs)) (sub f xs) := sub_act o [] nz
theorem sub_sm {f g : Int → List Int} (h : ∀ x, x ≠ 0 → Sm (f x) (g x)) : ∀ {xs : List Int}, NZ xs → Sm (sub f xs) (sub g xs)
  | [], _ => Sm.refl _
  | a :: t, nz => by
    rw [sub_cons, sub_cons]
    exact (h a (nz a List.mem_cons_self)).app (sub_sm h fun x hx => nz x (List.mem_cons_of_mem _ hx))
theorem sub_id {f : Int → List Int} {xs : List Int} (h : ∀ x ∈ xs, f x = [x]) : sub f xs = xs := by
  induction xs with
  | nil => rfl
  | cons a t ih =>
    rw [sub_cons, h a List.mem_cons_self, ih fun x hx => h x (List.mem_cons_of_mem _ hx)]
    rfl
theorem sub_sub (f g : Int → List Int) : ∀ xs : List Int, sub f (sub g xs) = sub (fun x => sub f (g x)) xs
  | [] => rfl
  | a :: t => by rw [sub_cons, sub_cons, sub_app, sub_sub f g t]
theorem sub_map (h : Int → Int) (xs : List Int) : sub (fun x => [h x]) xs = xs.map h := by
  induction xs with
  | nil => rfl
  | cons a t ih => rw [sub_cons, ih]; rfl
theorem sub_length {f : Int → List Int} {m : Nat} {xs : List Int} (h : ∀ x ∈ xs, (f x).length ≤ m) : (sub f xs).length ≤ xs.length * m := by
  induction xs with
  | nil => simp [sub]
  | cons a t ih =>
    have h1 := h a List.mem_cons_self
    have h2 := ih fun x hx => h x (List.mem_cons_of_mem _ hx)
    rw [sub_cons, List.length_append, List.length_cons, Nat.add_mul]
    omega
theorem sub_mem {f : Int → List Int} {xs : List Int} {y : Int} (h : y ∈ sub f xs) : ∃ x ∈ xs, y ∈ f x := by
  unfold sub at h
  obtain ⟨l, hl, hy⟩ := List.mem_flatten.mp h
  obtain ⟨x, hx, rfl⟩ := List.mem_map.mp hl
  exact ⟨x, hx, hy⟩
/-! ### one kind's letters -/
def putF (k : Int) (os : List Int) (x : Int) : List Int := if x = k then os else if x = -k then con os else [x]
theorem putF_odd {k : Int} (hk : k ≠ 0) (os : List Int) : Odd (putF k os) := by
  intro x hx
  unfold putF
  by_cases h1 : x = k
  · subst h1
    rw [if_neg (by omega), if_pos rfl, if_pos rfl]
  · by_cases h2 : x = -k
    · subst h2
      rw [if_pos (by omega), if_neg h1, if_pos rfl, con_con]
    · rw [if_neg (by omega), if_neg (by omega), if_neg h1, if_neg h2]
      rfl
/-- what is told of the kinds -/
def tabF (g : Int → List Int) (x : Int) : List Int := if 0 < x then g x else con (g (-x))
theorem tabF_odd (g : Int → List Int) : Odd (tabF g) := by
  intro x hx
  unfold tabF
  by_cases h : 0 < x
  · rw [if_neg (by omega), if_pos h, Int.neg_neg]
  · rw [if_pos (by omega), if_neg h, con_con]
theorem tabF_put {k : Int} (hk : 0 < k) (os : List Int) {x : Int} (hx : x ≠ 0) : tabF (fun y => if y = k then os else [y]) x = putF k os x := by
  unfold tabF putF
  by_cases h : 0 < x
  · rw [if_pos h]
    dsimp only
    by_cases e : x = k
    · rw [if_pos e, if_pos e]
    · rw [if_neg e, if_neg e, if_neg (by omega)]
  · rw [if_neg h]
    dsimp only
    have nk : ¬ x = k := by omega
    rw [if_neg nk]
    by_cases e : x = -k
    · rw [if_pos (by omega), if_pos e]
    · rw [if_neg (by omega), if_neg e]
      simp [con]
/-! ### kinds renamed -/
/-- the letter that is told for a kind -/
def told? (prs : List (Int × Int)) (k : Int) : Option Int := (prs.find? fun p => decide (p.1 = k)).map (·.2)
def ren (prs : List (Int × Int)) (x : Int) : Int := if 0 < x then (told? prs x).getD x else -((told? prs (-x)).getD (-x))
theorem ren_odd (prs : List (Int × Int)) {x : Int} (hx : x ≠ 0) : ren prs (-x) = -ren prs x := by
  unfold ren
  by_cases h : 0 < x
  · rw [if_neg (by omega), if_pos h, Int.neg_neg]
  · rw [if_pos (by omega), if_neg h, Int.neg_neg]
theorem renF_odd (prs : List (Int × Int)) : Odd fun x => [ren prs x] := fun x hx => by
  show [ren prs (-x)] = con [ren prs x]
  rw [ren_odd prs hx]
  rfl
theorem told_nil (k : Int) : told? [] k = none := rfl
theorem told_cons (p : Int × Int) (r : List (Int × Int)) (k : Int) : told? (p :: r) k = if p.1 = k then some p.2 else told? r k := by
  unfold told?
  rw [List.find?_cons]
  by_cases h : p.1 = k
  · rw [if_pos h, decide_eq_true h]
    rfl
  · rw [if_neg h, decide_eq_false h]
theorem told_some {prs : List (Int × Int)} {k l : Int} (h : told? prs k = some l) : (k, l) ∈ prs := by
  induction prs with
  | nil => cases h
  | cons p r ih =>
    rw [told_cons] at h
    by_cases e : p.1 = k
    · rw [if_pos e] at h
      obtain rfl := Option.some.inj h
      rw [← e]
      exact List.mem_cons_self
    · rw [if_neg e] at h
      exact List.mem_cons_of_mem _ (ih h)
theorem told_in {prs : List (Int × Int)} (nd : (prs.map (·.1)).Nodup) {k l : Int} (h : (k, l) ∈ prs) : told? prs k = some l := by
  induction prs with
  | nil => cases h
  | cons p r ih =>
    rw [List.map_cons, List.nodup_cons] at nd
    rw [told_cons]
    rcases List.mem_cons.mp h with h | h
    · rw [← h, if_pos rfl]
    · have : p.1 ≠ k := fun e => nd.1 (List.mem_map.mpr ⟨_, h, e.symm⟩)
      rw [if_neg this]
      exact ih nd.2 h
theorem told_none {prs : List (Int × Int)} {k : Int} (h : told? prs k = none) {l : Int} : (k, l) ∉ prs := by
  induction prs with
  | nil => exact fun q => nomatch q
  | cons p r ih =>
    rw [told_cons] at h
    by_cases e : p.1 = k
    · rw [if_pos e] at h
      cases h
    · rw [if_neg e] at h
      intro q
      rcases List.mem_cons.mp q with q | q
      · rw [← q] at e
        exact e rfl
      · exact ih h q
/-- the order is nothing -/
theorem told_perm {ps qs : List (Int × Int)} (np : (ps.map (·.1)).Nodup) (h : ∀ p, p ∈ ps ↔ p ∈ qs) (nq : (qs.map (·.1)).Nodup) (k : Int) : told? ps k = told? qs k := by
  cases e : told? ps k with
  | some l => exact (told_in nq ((h _).mp (told_some e))).symm
  | none =>
    cases e2 : told? qs k with
    | none => rfl
    | some l => exact absurd ((h _).mpr (told_some e2)) (told_none e)
theorem ren_perm {ps qs : List (Int × Int)} (np : (ps.map (·.1)).Nodup) (h : ∀ p, p ∈ ps ↔ p ∈ qs) (nq : (qs.map (·.1)).Nodup) (x : Int) : ren ps x = ren qs x := by
  unfold ren
  rw [told_perm np h nq, told_perm np h nq]
/-! ### balance -/
def cnt (xs : List Int) (k : Int) : Int := (xs.count k : Int) - (xs.count (-k) : Int)
theorem cnt_app (xs ys : List Int) (k : Int) : cnt (xs ++ ys) k = cnt xs k + cnt ys k := by
  unfold cnt
  rw [List.count_append, List.count_append]
  omega
theorem cnt_nil (k : Int) : cnt [] k = 0 := rfl
theorem cnt_con (xs : List Int) (k : Int) : cnt (con xs) k = -cnt xs k := by
  have h : ∀ j : Int, (con xs).count j = xs.count (-j) := by
    intro j
    unfold con
    rw [← List.count_reverse (l := xs)]
    generalize xs.reverse = ys
    induction ys with
    | nil => rfl
    | cons a t ih =>
      rw [List.map_cons, List.count_cons, List.count_cons, ih]
      have : (-a == j) = (a == -j) := by
        rw [Bool.eq_iff_iff, beq_iff_eq, beq_iff_eq]
        omega
      rw [this]
  unfold cnt
  rw [h, h, Int.neg_neg]
  omega
theorem cnt_one (a k : Int) : cnt [a] k = (if a = k then 1 else 0) - (if a = -k then 1 else 0) := by
  unfold cnt
  simp only [List.count_cons, List.count_nil, beq_iff_eq]
  split <;> split <;> rfl
theorem cnt_cons (a : Int) (t : List Int) (k : Int) : cnt (a :: t) k = cnt [a] k + cnt t k := cnt_app [a] t k
theorem cnt_pair (a k : Int) : cnt [-a] k = -cnt [a] k := cnt_con [a] k
theorem cnt_push (s : List Int) (a k : Int) : cnt (push s a) k = cnt s k + cnt [a] k := by
  cases s with
  | nil => rw [cnt_nil]; show cnt [a] k = _; omega
  | cons b t =>
    by_cases e : b = -a
    · have h1 : push (b :: t) a = t := by simp [push, e]
      rw [h1, e, cnt_cons (-a) t, cnt_pair]
      omega
    · have h1 : push (b :: t) a = a :: b :: t := by simp [push, e]
      rw [h1, cnt_cons a]
      omega
theorem cnt_act : ∀ (xs s : List Int) (k : Int), cnt (act s xs) k = cnt s k + cnt xs k
  | [], s, k => by rw [act_nil, cnt_nil]; omega
  | a :: t, s, k => by
    rw [act_cons, cnt_act t, cnt_push, cnt_cons a t]
    omega
theorem cnt_rev (xs : List Int) (k : Int) : cnt xs.reverse k = cnt xs k := by
  unfold cnt
  rw [List.count_reverse, List.count_reverse]
theorem cnt_shr (xs : List Int) (k : Int) : cnt (shr xs) k = cnt xs k := by
  unfold shr
  rw [cnt_rev, cnt_act, cnt_nil]
  omega
theorem cnt_rep (n : Nat) (xs : List Int) (k : Int) : cnt (rep n xs) k = n * cnt xs k := by
  induction n with
  | zero => rw [rep_zero, cnt_nil]; simp
  | succ n ih =>
    rw [rep_succ, cnt_app, ih, Int.natCast_add, Int.add_mul]
    show cnt xs k + _ = _ + 1 * cnt xs k
    omega
theorem cnt_sub {k : Int} (hk : 0 < k) (os : List Int) {e : Int} (he : 0 < e) : ∀ xs : List Int, NZ xs → cnt (sub (putF k os) xs) e = (if e = k then 0 else cnt xs e) + cnt xs k * cnt os e
  | [], _ => by rw [sub_nil, cnt_nil, cnt_nil]; simp
  | a :: t, nz => by
    have ih := cnt_sub hk os he t fun x hx => nz x (List.mem_cons_of_mem _ hx)
    have ha : a ≠ 0 := nz a List.mem_cons_self
    rw [sub_cons, cnt_app, ih, cnt_cons a t, cnt_cons a t k, Int.add_mul]
    have c1 : ∀ j : Int, 0 < j → cnt [j] j = 1 := fun j hj => by rw [cnt_one, if_pos rfl, if_neg (by omega)]; rfl
    have c0 : ∀ i j : Int, i ≠ j → i ≠ -j → cnt [i] j = 0 := fun i j h1 h2 => by rw [cnt_one, if_neg h1, if_neg h2]; rfl
    have key : cnt (putF k os a) e = (if e = k then 0 else cnt [a] e) + cnt [a] k * cnt os e := by
      unfold putF
      by_cases h1 : a = k
      · rw [if_pos h1, h1, c1 k hk]
        by_cases h2 : e = k
        · rw [if_pos h2]; omega
        · rw [if_neg h2, c0 k e (by omega) (by omega)]; omega
      · rw [if_neg h1]
        by_cases h2 : a = -k
        · rw [if_pos h2, cnt_con, h2, cnt_pair, cnt_pair, c1 k hk]
          by_cases h3 : e = k
          · rw [if_pos h3]; omega
          · rw [if_neg h3, c0 k e (by omega) (by omega)]; omega
        · rw [if_neg h2, c0 a k h1 h2]
          by_cases h3 : e = k
          · rw [if_pos h3, h3, c0 a k h1 h2]; omega
          · rw [if_neg h3]; omega
    rw [key]
    by_cases h3 : e = k
    · rw [if_pos h3]; omega
    · rw [if_neg h3, if_neg h3, if_neg h3]; omega
/-- each kind that stands more often forward than backward, or less -/
def bal (xs : List Int) : List (Int × Int) := ((List.range 26).map fun (i : Nat) => ((i : Int) + 1, cnt xs ((i : Int) + 1))).filter fun p => decide (p.2 ≠ 0)
theorem bal_congr {xs ys : List Int} (h : ∀ k, cnt xs k = cnt ys k) : bal xs = bal ys := by
  unfold bal
  congr 1
  exact List.map_congr_left fun i _ => by rw [h]
theorem bal_shr (xs : List Int) : bal (shr xs) = bal xs := bal_congr (cnt_shr xs)
end Fr
set_option Elab.async false
set_option linter.all false
set_option maxRecDepth 100000
set_option maxHeartbeats 1000000
namespace W03
open PySem L2 PySem.Spec PyProof.Rows WR WB
theorem sorted_ext : ∀ (l1 l2 : List Int), l1.Pairwise (· < ·) → l2.Pairwise (· < ·) → (∀ x, x ∈ l1 ↔ x ∈ l2) → l1 = l2
  | [], [], _, _, _ => rfl
  | [], b :: t, _, _, h => absurd ((h b).mpr List.mem_cons_self) (fun q => nomatch q)
  | a :: s, [], _, _, h => absurd ((h a).mp List.mem_cons_self) (fun q => nomatch q)
  | a :: s, b :: t, h1, h2, h => by
    rw [List.pairwise_cons] at h1 h2
    have e : a = b := by
      rcases List.mem_cons.mp ((h a).mp List.mem_cons_self) with e | m
      · exact e
      · rcases List.mem_cons.mp ((h b).mpr List.mem_cons_self) with e | m2
        · exact e.symm
        · have := h2.1 a m
          have := h1.1 b m2
          omega
    subst e
    rw [sorted_ext s t h1.2 h2.2 fun x => ⟨fun hx => ?_, fun hx => ?_⟩]
    · rcases List.mem_cons.mp ((h x).mp (List.mem_cons_of_mem _ hx)) with e | m
      · have := h1.1 x hx
        omega
      · exact m
    · rcases List.mem_cons.mp ((h x).mpr (List.mem_cons_of_mem _ hx)) with e | m
      · have := h2.1 x hx
        omega
      · exact m
theorem cnt_zero {ns : List Int} {k : Int} (h : ¬ ∃ x ∈ ns, k = (x.natAbs : Int)) (hk : 0 < k) : Fr.cnt ns k = 0 := by
  have h1 : ns.count k = 0 := List.count_eq_zero.mpr fun q => h ⟨k, q, by omega⟩
  have h2 : ns.count (-k) = 0 := List.count_eq_zero.mpr fun q => h ⟨-k, q, by omega⟩
  unfold Fr.cnt
  rw [h1, h2]
  rfl
theorem bal_kinds {ns ks : List Int} (h : Lts ns) (hk : kindsOk ns ks) : (ks.map fun k => (k, Fr.cnt ns k)).filter (fun p => decide (p.2 ≠ 0)) = Fr.bal ns := by
  have e : Fr.bal ns = (((List.range 26).map fun (i : Nat) => (i : Int) + 1).map fun k => (k, Fr.cnt ns k)).filter (fun p => decide (p.2 ≠ 0)) := by
    unfold Fr.bal
    rw [List.map_map]
    rfl
  rw [e, List.filter_map, List.filter_map]
  congr 1
  refine sorted_ext _ _ (hk.1.filter _) (List.Pairwise.filter _ ?_) fun x => ?_
  · rw [List.pairwise_map]
    exact List.pairwise_lt_range.imp fun h => by omega
  · rw [List.mem_filter, List.mem_filter]
    refine and_congr_left fun hc => ?_
    have hc : Fr.cnt ns x ≠ 0 := of_decide_eq_true hc
    rw [hk.2 x, List.mem_map]
    constructor
    · rintro ⟨y, hy, rfl⟩
      obtain ⟨y1, y2⟩ := h y hy
      exact ⟨y.natAbs - 1, List.mem_range.mpr (by omega), by omega⟩
    · rintro ⟨i, hi, rfl⟩
      exact Decidable.byContradiction fun q => hc (cnt_zero q (by omega))
abbrev sBalOf : Stmt := top 13
theorem mt_lcountK {X : Cx} {K : PySem.W.Frag} (h : X.K = K) : MtR X "list.count" (rCntI K) := by
  subst h
  exact mt_lcount
/-- a tuple of two ints -/
def PrT (K : PySem.W.Frag) (H : Hp) (v : V) (p : Int × Int) : Prop := ∃ q : Addr, v = .ref q ∧ SqT K H q [.int p.1, .int p.2]
theorem PrT.same {K : PySem.W.Frag} {H H' : Hp} {v : V} {p : Int × Int} (h : PrT K H v p) (s : Same H H') : PrT K H' v p := by
  obtain ⟨q, e, h⟩ := h
  exact ⟨q, e, WR.Same.seqT s h⟩
theorem PrT.put {K : PySem.W.Frag} {D : Addr} {H : Hp} {ws : List V} {o : HO} {v : V} {p : Int × Int} (hD : H D = some (.lst ws)) (h : PrT K H v p) : PrT K (L2.upd H D o) v p := by
  obtain ⟨q, e, h⟩ := h
  exact ⟨q, e, SqT.keptL hD Kept.upd h⟩
def BalAt (K : PySem.W.Frag) (H : Hp) (a : Addr) (ps : List (Int × Int)) : Prop := ∃ vs, SqT K H a vs ∧ All2 (PrT K H) vs ps
theorem BalAt.same {K : PySem.W.Frag} {H H' : Hp} {a : Addr} {ps : List (Int × Int)} (h : BalAt K H a ps) (s : Same H H') : BalAt K H' a ps := by
  obtain ⟨vs, h1, h2⟩ := h
  exact ⟨vs, WR.Same.seqT s h1, h2.imp fun _ _ r => r.same s⟩
def spBalOf (K : PySem.W.Frag) : Sp := fun vs H Q _ => ∃ (a : Addr) (ns : List Int), vs = [.ref a] ∧ SqL K H a (iv ns) ∧ ns.length ≤ 1000 ∧ Lts ns ∧ ∀ p H', Same H H' → BalAt K H' p (Fr.bal ns) → Q (.ref p) H'
abbrev nBalOf : List Str := ["letters", "pairs", "kind", "more"]
theorem kinds_len {ns ks : List Int} (h : Lts ns) (hk : kindsOk ns ks) : ks.length ≤ 26 := by
  refine pigeon 26 ks ?_ fun k hk' => ?_
  · exact hk.1.imp fun h => by omega
  · obtain ⟨x, hx, rfl⟩ := (hk.2 k).mp hk'
    obtain ⟨y1, y2⟩ := h x hx
    omega
section
variable {P : Program} {w : World} {K : PySem.W.Frag} {mg : Str → Option Value} {base : Heap}
theorem scBalOf : FnScope nBalOf ["letters"] (defScope sBalOf) := ⟨rfl, rfl, rfl, by decide +kernel, rfl, by decide +kernel, by decide +kernel⟩
theorem ok_balOf {f : Addr} {fd : FuncData} (F : Fun K "balance_of" "balance_of" sBalOf f fd) (T : TxA mg) (GK : Cal P w K mg base "kinds_of" 1 ["letters"] (spKinds K)) : FnOk P w K mg base CX0 2 f fd ["letters"] (spBalOf K) := by
  refine F.ok scBalOf (fun vs H Q E h => ?_) (fun cdv A outer s H vs Q E hr h => ?_)
  · obtain ⟨a, ns, rfl, _⟩ := h
    rfl
  · obtain ⟨a, ns, rfl, hA, hlen, hl, k⟩ := h
    refine ⟨_, pss_cons (ps_setLc (i := 1) (own := [("kind", 2)]) (g := gName 2) (tt := tYes) rfl scBalOf.nd rfl rfl (sw_true rfl rfl rfl (by decide +kernel)) (pi_tup (pe_cal GK hr (by decide) (by rfl) (pa_cons (pv 0) pa_nil)))
        (blkOk_by (N := nBalOf) (sc := defScope sBalOf) (by decide +kernel)) (fun _ _ _ _ _ => pg_name (i := 2) scBalOf.nd rfl (Or.inl rfl)) (fun _ _ _ _ _ => pts_nil)
        (fun _ _ _ _ _ => pe_tup (pa_cons (pv 2) (pa_cons (pe_op op_sub (pe_bmK (K := K) rfl PySem.F.plainAttrs_list PySem.F.slot_list_count PySem.F.type_list_count (mt_lcountK (K := K) rfl) (pv 0) (pa_cons (pv 2) pa_nil)) (pe_bmK (K := K) rfl PySem.F.plainAttrs_list PySem.F.slot_list_count PySem.F.type_list_count (mt_lcountK (K := K) rfl) (pv 0) (pa_cons (pe_un un_neg (pv 2)) pa_nil))) pa_nil))))
      (pss_one (ps_ret (pe_callTy call_tuple_of (by rfl) T.tuple (by decide +kernel) (pa_cons (pe_lc (own := [("kind", 2), ("more", 3)]) (g := gTup K 2 (gCons (gName 2) (gCons (gName 3) gNil))) rfl scBalOf.nd (pi_list (pv 1))
        (blkOk_by (N := nBalOf) (sc := defScope sBalOf) (by decide +kernel)) (fun _ _ _ _ _ => pg_tup (n := 2) rfl (pgs_cons (pg_name (i := 2) scBalOf.nd rfl (Or.inl rfl)) (pgs_cons (pg_name (i := 3) scBalOf.nd rfl (Or.inl rfl)) pgs_nil)))
        (fun _ _ _ _ _ => pts_one (pt_cmpR op_ne (pv 3) pe_int (nomark _))) (fun _ _ _ _ _ => pe_tup (pa_cons (pv 2) (pa_cons (pv 3) pa_nil)))) pa_nil)))), ?_⟩
    refine as_lc ?_
    refine ⟨_, rfl, a, ns, rfl, .inl hA, hlen, hl, fun ks hk kp H1 s1 hkp => ?_⟩
    have hkl := kinds_len hl hk
    have hA1 := s1.seq hA
    refine ⟨kp, rfl, ⟨_, hkp⟩, ?_⟩
    refine lcM (walk_tup (K := K) (a := kp) (xs := iv ks)) (ks.map fun k => (k, Fr.cnt ns k)) (fun D H v p => PrT K H v p) (fun _ _ _ _ _ h s => h.same s) (fun _ _ _ _ _ _ hD h => h.put hD) (by rw [List.length_map]; omega) (by rw [List.length_map, List.length_map]) (fun H2 s2 => WR.Same.seqT s2 hkp) ?_ (fun x σ1 H A B k h => gName_mono k h) ?_
    · intro i x b hx hb D H2 hD ⟨us, hus⟩ s2 Qy ky
      obtain ⟨z, hz, rfl⟩ : ∃ z, ks[i]? = some z ∧ x = V.int z := by
        rw [List.getElem?_map] at hx
        cases e : ks[i]? with
        | none => rw [e] at hx; cases hx
        | some z => rw [e] at hx; exact ⟨z, rfl, (Option.some.inj hx).symm⟩
      rw [List.getElem?_map, hz] at hb
      obtain rfl := Option.some.inj hb
      have hA2 := s2.seq hA1
      have hne : iv ns ≠ [] := fun e => by
        obtain ⟨y, hy, _⟩ := (hk.2 z).mp (List.mem_of_getElem? hz)
        have : ns = [] := List.map_eq_nil_iff.mp e
        rw [this] at hy
        cases hy
      refine ⟨rfl, ?_⟩
      refine ⟨_, rfl, _, rfl, .inl ⟨rfl, _, hA2⟩, _, rfl, a, ns, z, rfl, rfl, hA2, _, rfl, .inl ⟨rfl, _, hA2⟩, _, rfl, _, rfl, a, ns, -z, rfl, rfl, hA2, ?_⟩
      refine ⟨_, _, rfl, rfl, by show 2 ≤ sizeLine; decide, fun q hq => ?_⟩
      exact ky (.ref q) _ (same_upd hq) ⟨q, rfl, SqT.of upd_same⟩
    intro D H2 ws hD s2 h2 r2
    have l2 := r2.length
    rw [List.length_map] at l2
    refine at_set ?_
    try dsimp only
    refine ⟨_, rfl, D, rfl, ⟨_, SqL.of h2⟩, fun D2 hD2 => ?_⟩
    refine lc_it (walk_list (K := K) (a := D) (xs := ws)) (fun j H' => Same H2 H' ∧ ∃ us, H' D2 = some (.lst us) ∧ us.length ≤ j ∧ All2 (PrT K H') us (((ks.map fun k => (k, Fr.cnt ns k)).take j).filter fun p => decide (p.2 ≠ 0)))
      ⟨same_upd hD2, [], upd_same, Nat.le_refl _, by rw [List.take_zero]; exact .nil⟩ (fun j H' _ q => SqL.of (q.1 _ _ h2)) ?_ ?_
    · rintro j x H3 _ hj ⟨sm, us, hus, lu, hu⟩ ⟨rfl, hx⟩
      obtain ⟨b, hb, q, rfl, hq⟩ := r2.at hx
      have hjk : j < (ks.map fun k => (k, Fr.cnt ns k)).length := (List.getElem?_eq_some_iff.mp hb).1
      have eb : (ks.map fun k => (k, Fr.cnt ns k))[j] = b := (List.getElem?_eq_some_iff.mp hb).2
      refine ⟨q, _, rfl, WR.Same.seqT sm hq, rfl, _, _, rfl, _, _, rfl, rfl, ?_⟩
      refine ⟨rfl, ?_⟩
      refine ⟨_, rfl, rfl, _, rfl, ?_⟩
      rw [List.take_succ_eq_append_getElem hjk, eb, List.filter_append]
      refine ite2 (fun hn => ?_) (fun hn => ?_)
      · refine ⟨_, rfl, _, rfl, by show 2 ≤ sizeLine; decide, fun t ht => ?_⟩
        have st := same_upd (o := .tup [.int b.1, .int b.2]) ht
        have hbn : b.2 ≠ 0 := fun z => by
          rw [z] at hn
          exact absurd hn (by decide)
        have hus2 := st _ _ hus
        refine ⟨us, hus2, Evl.sz_lt (by rw [List.length_map] at hjk; omega), fun b' o e => ?_, us ++ [.ref t], upd_same, by rw [List.length_append]; show _ + 1 ≤ _; omega, ?_⟩
        · rw [upd_ne (ne_of_none e hD2)]
          exact st _ _ (sm _ _ e)
        · refine All2.app (hu.imp fun _ _ r => (r.same st).put hus2) ?_
          have : ([b].filter fun p => decide (p.2 ≠ 0)) = [b] := by simp [hbn]
          rw [this]
          exact .cons (PrT.put hus2 ⟨t, rfl, SqT.of upd_same⟩) .nil
      · refine ⟨sm, us, hus, by omega, ?_⟩
        have hbz : b.2 = 0 := Decidable.byContradiction fun z => hn (by
          have : ¬ (V.int b.2 = V.int 0) := fun q => z (by injection q)
          simp [this])
        have : ([b].filter fun p => decide (p.2 ≠ 0)) = [] := by simp [hbz]
        rw [this, List.append_nil]
        exact hu
    · rintro H3 ⟨sm, us, hus, lu, hu⟩
      rw [l2] at hu
      rw [List.take_of_length_le (by rw [List.length_map]; exact Nat.le_refl _), bal_kinds hl hk] at hu
      refine ⟨D2, _, rfl, .inl ⟨SqL.of hus, fun p hp => ?_⟩⟩
      have sp := same_upd (o := .tup us) hp
      exact k p _ (((s1.trans s2).trans sm).trans sp) ⟨us, SqT.of upd_same, hu.imp fun _ _ r => r.same sp⟩
end
end W03
set_option Elab.async false
set_option linter.all false
set_option maxRecDepth 100000
set_option maxHeartbeats 1000000
namespace W03
open PySem L2 PySem.Spec PyProof.Rows WR WB
/-! ### a comprehension of two walks in which nothing else changes -/
theorem lc2_in {J1 : It} {ys : List V} {G1 : Hp → Prop} (w1 : Walk J1 ys.length G1 (YAt ys)) {g1 : TG} {tt1 : TT} {te : TE} {vs1 : List Nat} {σ2 : L2.St} {H1 H4 : Hp} {D : Addr} {acc : List V} {Nx : Hp → Prop} (v : V → V) (hD : H1 D = none) (s4 : Same H1 H4) (a4 : H4 D = some (.lst acc)) (hz : acc.length + ys.length < 40000) (hG : ∀ H, Same H1 H → G1 H)
    (hs : ∀ y ∈ ys, ∀ H, Same H1 H → ∀ Qy : V → Hp → Prop, (∀ H', Same H H' → Qy (v y) H') → ∀ Qn : Hp → Prop, g1 y (wipe σ2 vs1) H fun σ3 H5 => wipe σ3 vs1 = wipe σ2 vs1 ∧ tt1 σ3 H5 fun b H6 => if b = true then te σ3 H6 Qy else Qn H6)
    (hd : ∀ H, Same H1 H → H D = some (.lst (acc ++ ys.map v)) → Nx H) :
    ∃ W1 : Nat → Nat → Hp → Prop, (∃ m, W1 0 m H4) ∧ ∀ j k H, W1 j k H →
      (J1.stop j H ∧ Nx H) ∨ (J1.go j H ∧ ∃ Nx1 : Hp → Prop, (∀ H', Nx1 H' → ∃ k', k' < k ∧ W1 (j + 1) k' H') ∧ ∀ x H', J1.yld j H x H' → g1 x (wipe σ2 vs1) H' fun σ3 H5 => wipe σ3 vs1 = wipe σ2 vs1 ∧ tt1 σ3 H5 fun b H6 =>
        if b = true then te σ3 H6 fun y H7 => ∃ acc, H7 D = some (.lst acc) ∧ acc.length < sizeLine ∧ Nx1 (L2.upd H7 D (.lst (acc ++ [y]))) else Nx1 H6) := by
  refine ⟨fun j k H => k = ys.length - j ∧ j ≤ ys.length ∧ Same H1 H ∧ H D = some (.lst (acc ++ (ys.take j).map v)), ⟨_, rfl, Nat.zero_le _, s4, by rw [List.take_zero]; simpa using a4⟩, ?_⟩
  rintro j k H ⟨rfl, hj, sm, hDD⟩
  by_cases hlt : j < ys.length
  · right
    refine ⟨w1.goes j H hlt (hG H sm), fun H' => Same H1 H' ∧ H' D = some (.lst (acc ++ (ys.take (j + 1)).map v)), fun H' q => ⟨ys.length - (j + 1), by omega, rfl, hlt, q.1, q.2⟩, fun x H' hy => ?_⟩
    obtain ⟨rfl, hx⟩ := w1.yields j H x H' hlt (hG H sm) hy
    have ex : ys[j] = x := (List.getElem?_eq_some_iff.mp hx).2
    refine hs x (List.mem_of_getElem? hx) H' sm _ (fun H2 s2 => ⟨_, s2 _ _ hDD, ?_, ?_, ?_⟩) _
    · refine Evl.sz_lt ?_
      rw [List.length_append, List.length_map, List.length_take]
      omega
    · intro b o e
      rw [upd_ne (ne_of_none e hD)]
      exact s2 _ _ (sm _ _ e)
    · rw [upd_same, List.take_succ_eq_append_getElem hlt, ex, List.map_append, ← List.append_assoc]
      rfl
  · left
    have e : j = ys.length := by omega
    subst e
    rw [List.take_length] at hDD
    exact ⟨w1.stops H (hG H sm), hd H sm hDD⟩
theorem lc2_out {J : It} {n : Nat} {G : Hp → Prop} {Y : Nat → Hp → V → Hp → Prop} (w : Walk J n G Y) {g : TG} {tt : TT} {wi1 : TI} {g1 : TG} {tt1 : TT} {te : TE} {vs vs1 : List Nat} {σ : L2.St} {H1 : Hp} {Q : VK} (out : Nat → List V) (hG : ∀ H, Same H1 H → G H)
    (hs : ∀ i x D H H', i < n → Y i H x H' → H1 D = none → Same H1 H → H D = some (.lst (((List.range i).map out).flatten)) → ∀ Nx : Hp → Prop, (∀ H', Same H1 H' → H' D = some (.lst (((List.range i).map out).flatten ++ out i)) → Nx H') →
      g x (wipe σ vs) H' fun σ2 H2 => wipe σ2 vs = wipe σ vs ∧ tt σ2 H2 fun b H3 => if b = true then wi1 σ2 H3 fun J1 H4 => ∃ W1 : Nat → Nat → Hp → Prop, (∃ m, W1 0 m H4) ∧ ∀ j k H, W1 j k H →
      (J1.stop j H ∧ Nx H) ∨ (J1.go j H ∧ ∃ Nx1 : Hp → Prop, (∀ H', Nx1 H' → ∃ k', k' < k ∧ W1 (j + 1) k' H') ∧ ∀ x H', J1.yld j H x H' → g1 x (wipe σ2 vs1) H' fun σ3 H5 => wipe σ3 vs1 = wipe σ2 vs1 ∧ tt1 σ3 H5 fun b H6 =>
        if b = true then te σ3 H6 fun y H7 => ∃ acc, H7 D = some (.lst acc) ∧ acc.length < sizeLine ∧ Nx1 (L2.upd H7 D (.lst (acc ++ [y]))) else Nx1 H6) else Nx H3)
    (hd : ∀ D H, H1 D = none → Same H1 H → H D = some (.lst (((List.range n).map out).flatten)) → Q (.ref D) H) : tLc2 (fun _ H R => R J H) g tt wi1 g1 tt1 te vs vs1 σ H1 Q := by
  intro D hD
  refine ⟨fun i m H => m = n - i ∧ i ≤ n ∧ Same H1 H ∧ H D = some (.lst (((List.range i).map out).flatten)), ⟨_, rfl, Nat.zero_le _, fun b o e => by rw [upd_ne (ne_of_none e hD)]; exact e, by rw [upd_same]; rfl⟩, ?_⟩
  rintro i m H ⟨rfl, hi, sm, hDD⟩
  by_cases hlt : i < n
  · right
    refine ⟨w.goes i H hlt (hG H sm), fun H' => Same H1 H' ∧ H' D = some (.lst (((List.range (i + 1)).map out).flatten)), fun H' q => ⟨n - (i + 1), by omega, rfl, hlt, q.1, q.2⟩, fun x H' hy => ?_⟩
    refine hs i x D H H' hlt (w.yields i H x H' hlt (hG H sm) hy) hD sm hDD _ fun H2 s2 h2 => ⟨s2, ?_⟩
    rw [h2, List.range_succ, List.map_append, List.flatten_append]
    simp
  · left
    have e : i = n := by omega
    subst e
    exact ⟨w.stops H (hG H sm), hd D H hD sm hDD⟩
theorem pe_fldK {X : Cx} {K : PySem.W.Frag} {e : Expr} {f : Str} {pos : Pos} {ta : TE} (h : X.K = K) (he : PE X e ta) (hb : attributeBase e f X.env (eval e X.env) = eval e X.env) : PE X (.Attribute e f pos) (tFld K ta f) := by
  subst h
  exact pe_fld he hb
theorem ar_lc {wi : TI} {g : TG} {tt : TT} {te : TE} {vs : List Nat} {σ : L2.St} {H : Hp} {Q : List V → Hp → Prop}
    (h : wi σ H fun J H1 => tLc (fun _ H R => R J H) g tt te vs σ H1 fun y H2 => Q [y] H2) : tCons (tLc wi g tt te vs) tNil σ H Q := h
/-! ### the small defs that rims want -/
abbrev sFilled : Stmt := top 29
abbrev sNeedB : Stmt := top 33
abbrev sFewP : Stmt := top 38
abbrev sNexts : Stmt := top 40
structure TxR (mg : Str → Option Value) : Prop where
  words : ∃ t, mg "MOST_WORDS" = some (.int 4 t)
  places : ∃ t, mg "MOST_PLACES" = some (.int 24 t)
  range : mg "range" = none
  enum : mg "enumerate" = none
def spFilled (K : PySem.W.Frag) (C : Addr) : Sp := fun vs H Q _ => ∃ (p : Addr) (ns : List Int), vs = [.ref p] ∧ WordAt K C H p ns ∧ Q (.bl (decide (0 < (ns.length : Int)))) H
def spNeedB (K : PySem.W.Frag) : Sp := fun vs H Q _ => ∃ (a : Addr) (ns : List Int), vs = [.ref a] ∧ SqL K H a (iv ns) ∧ ns.length ≤ 1000 ∧ Lts ns ∧ Fr.bal ns = [] ∧ ∀ H', Same H H' → Q .non H'
def spFewP : Sp := fun vs H Q _ => ∃ n : Int, vs = [.int n] ∧ n ≤ 24 ∧ Q .non H
/-- the places that stand behind each one, from place f on -/
def nxF (f : Nat) : List (List Int) → List Int
  | [] => []
  | w :: r => ((List.range w.length).map fun (t : Nat) => (f : Int) + (((t + 1) % w.length : Nat) : Int)) ++ nxF (f + w.length) r
theorem nxF_len : ∀ (ws : List (List Int)) (f : Nat), (nxF f ws).length = ws.flatten.length
  | [], _ => rfl
  | w :: r, f => by
    unfold nxF
    rw [List.length_append, nxF_len r, List.flatten_cons, List.length_append, List.length_map, List.length_range]
theorem nxF_snoc : ∀ (ws : List (List Int)) (w : List Int) (f : Nat), nxF f (ws ++ [w]) = nxF f ws ++ ((List.range w.length).map fun (t : Nat) => ((f + ws.flatten.length : Nat) : Int) + (((t + 1) % w.length : Nat) : Int))
  | [], w, f => by simp [nxF]
  | a :: r, w, f => by
    rw [List.cons_append]
    unfold nxF
    rw [nxF_snoc r w, List.append_assoc, List.flatten_cons, List.length_append]
    congr 3
    funext t
    congr 2
    omega
theorem nxF_take {ws : List (List Int)} {i : Nat} {w : List Int} (h : ws[i]? = some w) : nxF 0 (ws.take (i + 1)) = nxF 0 (ws.take i) ++ ((List.range w.length).map fun (t : Nat) => (((ws.take i).flatten.length : Nat) : Int) + (((t + 1) % w.length : Nat) : Int)) := by
  have hi := (List.getElem?_eq_some_iff.mp h).1
  have e := (List.getElem?_eq_some_iff.mp h).2
  rw [List.take_succ_eq_append_getElem hi, e, nxF_snoc, Nat.zero_add]
theorem flat_take {ws : List (List Int)} {i : Nat} {w : List Int} (h : ws[i]? = some w) : (ws.take i).flatten.length + w.length ≤ ws.flatten.length := by
  have hi := (List.getElem?_eq_some_iff.mp h).1
  have e := (List.getElem?_eq_some_iff.mp h).2
  have s : ws = ws.take i ++ (w :: ws.drop (i + 1)) := by
    rw [← e, List.getElem_cons_drop, List.take_append_drop]
  have := congrArg (fun z => z.flatten.length) s
  simp only [List.flatten_append, List.flatten_cons, List.length_append] at this
  omega
/-- words that stand at these places -/
def Wds (K : PySem.W.Frag) (C : Addr) (H : Hp) (xs : List Addr) (ws : List (List Int)) : Prop := All2 (fun p ns => WordAt K C H p ns) xs ws
theorem Wds.same {K : PySem.W.Frag} {C : Addr} {H H' : Hp} {xs : List Addr} {ws : List (List Int)} (h : Wds K C H xs ws) (s : Same H H') : Wds K C H' xs ws := h.imp fun _ _ r => r.same s
def spNexts (K : PySem.W.Frag) (C : Addr) : Sp := fun vs H Q _ => ∃ (a : Addr) (xs : List Addr) (ws : List (List Int)), vs = [.ref a] ∧ SqL K H a (xs.map V.ref) ∧ Wds K C H xs ws ∧ ws.length ≤ 4 ∧ (∀ w ∈ ws, w ≠ []) ∧ ws.flatten.length ≤ 24 ∧ NewB K H Q (iv (nxF 0 ws))
section
variable {P : Program} {w : World} {K : PySem.W.Frag} {mg : Str → Option Value} {base : Heap} {C : Addr}
theorem scFilled : FnScope ["value"] ["value"] (defScope sFilled) := ⟨rfl, rfl, rfl, by decide +kernel, rfl, by decide +kernel, by decide +kernel⟩
theorem ok_filled {f : Addr} {fd : FuncData} (F : Fun K "is_filled" "is_filled" sFilled f fd) (T : TxW K mg C) : FnOk P w K mg base CX0 1 f fd ["value"] (spFilled K C) := by
  refine F.ok scFilled (fun vs H Q E h => ?_) (fun cdv A outer s H vs Q E hr h => ?_)
  · obtain ⟨p, ns, rfl, _⟩ := h
    rfl
  · obtain ⟨p, ns, rfl, W1, k⟩ := h
    refine ⟨_, pss_one (ps_ret (pe_and (pe_callB call_isi (by rfl) T.isin (by decide +kernel) (pa_cons (pv 0) (pa_cons (pe_glob (v := .ref C) (by rfl) T.mgW rfl) pa_nil)))
      (pe_one (pe_cmpR op_gt (pe_fld (pv 0) rfl) pe_int (nomark _))))), ?_⟩
    refine ⟨_, rfl, _, _, _, _, _, rfl, .own C, W1.tyx T, kit_self C, _, rfl, ?_⟩
    refine iteT ?_
    obtain ⟨dx, tl, tk, ks, h1, h2, h3, h4⟩ := W1
    exact ⟨_, rfl, p, C, dx, _, _, rfl, h1, T.cl, T.nN, wf_length, _, _, rfl, rfl, k⟩
theorem scFewP : FnScope ["many"] ["many"] (defScope sFewP) := ⟨rfl, rfl, rfl, by decide +kernel, rfl, by decide +kernel, by decide +kernel⟩
theorem ok_fewP {f : Addr} {fd : FuncData} (F : Fun K "need_few_places" "need_few_places" sFewP f fd) (T : TxR mg) : FnOk P w K mg base CX0 1 f fd ["many"] spFewP := by
  refine F.ok scFewP (fun vs H Q E h => ?_) (fun cdv A outer s H vs Q E hr h => ?_)
  · obtain ⟨n, rfl, _⟩ := h
    rfl
  · obtain ⟨n, rfl, hn, k⟩ := h
    obtain ⟨tk, mM⟩ := T.places
    refine ⟨_, pss_one (ps_if (pt_cmpR op_gt (pv 0) (pe_glob (v := .int 24) (by rfl) mM ⟨_, rfl⟩) (nomark _)) (pss_one ps_never) pss_nil), ?_⟩
    refine ⟨_, rfl, _, _, rfl, rfl, _, rfl, ?_⟩
    exact iteF' (decide_eq_false (by omega)) k
theorem scNeedB : FnScope ["letters", "pairs"] ["letters"] (defScope sNeedB) := ⟨rfl, rfl, rfl, by decide +kernel, rfl, by decide +kernel, by decide +kernel⟩
theorem ok_needB {f : Addr} {fd : FuncData} (F : Fun K "need_balanced" "need_balanced" sNeedB f fd) (GB : Cal P w K mg base "balance_of" 2 ["letters"] (spBalOf K)) : FnOk P w K mg base CX0 3 f fd ["letters"] (spNeedB K) := by
  refine F.ok scNeedB (fun vs H Q E h => ?_) (fun cdv A outer s H vs Q E hr h => ?_)
  · obtain ⟨a, ns, rfl, _⟩ := h
    rfl
  · obtain ⟨a, ns, rfl, hA, hlen, hl, hb, k⟩ := h
    refine ⟨_, pss_cons (ps_set (i := 1) scNeedB.nd rfl (Or.inl rfl) (pe_cal GB hr (by decide) (by rfl) (pa_cons (pv 0) pa_nil)))
      (pss_one (ps_if (pt_truth (pv 1) (by intro _; rfl)) (pss_one ps_never) pss_nil)), ?_⟩
    refine ⟨_, rfl, a, ns, rfl, hA, hlen, hl, fun p H1 s1 hB => ?_⟩
    rw [hb] at hB
    obtain ⟨vs, h1, h2⟩ := hB
    cases h2
    refine at_set ?_
    try dsimp only
    exact ⟨_, rfl, _, .inr (.inl ⟨_, h1, rfl⟩), iteF (k H1 s1)⟩
abbrev nNexts : List Str := ["words", "nexts", "word", "first", "at"]
theorem scNexts : FnScope nNexts ["words"] (defScope sNexts) := ⟨rfl, rfl, rfl, by decide +kernel, rfl, by decide +kernel, by decide +kernel⟩
theorem ok_nexts {f : Addr} {fd : FuncData} (F : Fun K "nexts_of" "nexts_of" sNexts f fd) (T : TxW K mg C) (TA : TxA mg) (R : TxR mg) : FnOk P w K mg base CX0 1 f fd ["words"] (spNexts K C) := by
  refine F.ok scNexts (fun vs H Q E h => ?_) (fun cdv A outer s H vs Q E hr h => ?_)
  · obtain ⟨a, xs, ws, rfl, _⟩ := h
    rfl
  · obtain ⟨a, xs, ws, rfl, hA, hW, l4, hne, l24, k⟩ := h
    refine ⟨_, pss_cons (ps_set (i := 1) scNexts.nd rfl (Or.inl rfl) (pe_lst pa_nil))
      (pss_cons (ps_for PassesOwn.never rfl (pi_list (pv 0)) (pg_name (i := 2) scNexts.nd rfl (Or.inr rfl))
        (pss_cons (ps_set (i := 3) scNexts.nd rfl (Or.inr rfl) (pe_callB call_len_seq (by rfl) TA.len PySem.boot_len (pa_cons (pv 1) pa_nil)))
        (pss_one (ps_expr (pe_bm PySem.F.plainAttrs_list PySem.F.slot_list_extend PySem.F.type_list_extend mt_extend (pv 1) (pa_cons (pe_lc (own := [("at", 4)]) (g := gName 4) (tt := tYes) rfl scNexts.nd (pi_range1 (by rfl) R.range (pa_cons (pe_fld (pv 2) rfl) pa_nil))
          (blkOk_by (N := nNexts) (sc := defScope sNexts) (by decide +kernel)) (fun _ _ _ _ _ => pg_name (i := 4) scNexts.nd rfl (Or.inl rfl)) (fun _ _ _ _ _ => pts_nil)
          (fun _ _ _ _ _ => pe_op op_add (pv 3) (pe_op op_mod (pe_op op_add (pv 4) pe_int) (pe_fldK (K := K) rfl (pv 2) rfl)))) pa_nil))))))
      (pss_one (ps_ret (pe_callTy call_tupB (by rfl) TA.tuple (by decide +kernel) (pa_cons (pv 1) pa_nil))))), ?_⟩
    refine ⟨Nat.zero_le _, fun l hl0 => ?_⟩
    have s0 := same_upd (o := .lst []) hl0
    refine ⟨_, rfl, a, rfl, ⟨_, s0.seq hA⟩, for_list (K := K) (a := a) (xs := xs.map V.ref) (fun i σ H' => ∃ v2 v3 : Option V, σ = [some (.ref a), some (.ref l), v2, v3, none] ∧ Same H H' ∧ H' l = some (.lst (iv (nxF 0 (ws.take i)))))
      ⟨none, none, rfl, s0, upd_same⟩ (fun i σ H1 _ ⟨_, _, _, s, _⟩ => s.seq hA) ?_ ?_⟩
    · rintro i y σ H1 hi ⟨v2, v3, rfl, sm, hL⟩
      obtain ⟨q, hq, rfl⟩ : ∃ q, xs[i]? = some q ∧ y = V.ref q := by
        rw [List.getElem?_map] at hi
        cases e : xs[i]? with
        | none => rw [e] at hi; cases hi
        | some q => rw [e] at hi; exact ⟨q, rfl, (Option.some.inj hi).symm⟩
      obtain ⟨u, hu, Wq⟩ := hW.at hq
      have Wq := Wq.same sm
      have hft := flat_take hu
      have hup : 0 < u.length := List.length_pos_iff.mpr (hne u (List.mem_of_getElem? hu))
      refine ⟨_, rfl, l, _, rfl, .inl (SqL.of hL), ?_⟩
      refine at_set ?_
      try dsimp only
      have el : ((iv (nxF 0 (ws.take i))).length : Int) = (((ws.take i).flatten.length : Nat) : Int) := by rw [List.length_map, nxF_len]
      rw [el]
      refine ⟨_, rfl, .inl ⟨rfl, _, SqL.of hL⟩, ?_⟩
      refine ar_lc ?_
      obtain ⟨dx, tl, tk, ks, w1, _⟩ := id Wq
      refine ⟨_, rfl, q, C, dx, _, _, rfl, w1, T.cl, T.nN, wf_length, _, rfl, by omega, by omega, fun D hD => ?_⟩
      have sD := same_upd (o := .lst []) hD
      refine lc_range (lo := 0) (n := ((u.length : Nat) : Int).toNat) (fun j H' => Same H1 H' ∧ H' D = some (.lst (iv ((List.range j).map fun (t : Nat) => (((ws.take i).flatten.length : Nat) : Int) + (((t + 1) % u.length : Nat) : Int))))) ⟨sD, upd_same⟩ ?_ ?_
      · rintro j H2 hj ⟨s2, hDD⟩
        rw [Int.toNat_natCast] at hj
        have w2 := s2 _ _ w1
        refine ⟨rfl, yes_te ?_⟩
        refine ⟨_, rfl, _, rfl, _, _, rfl, rfl, _, rfl, q, C, dx, _, _, rfl, w2, T.cl, T.nN, wf_length, _, _, rfl, rfl, by omega, _, _, rfl, rfl, ?_⟩
        refine ⟨_, hDD, Evl.sz_lt (by rw [List.length_map, List.length_map, List.length_range]; omega), fun b o e => ?_, ?_⟩
        · rw [upd_ne (ne_of_none e hD)]
          exact s2 _ _ e
        · rw [upd_same, List.range_succ, List.map_append]
          unfold iv
          rw [List.map_append]
          have ev : ((0 : Int) + (j : Nat) + 1) % ((u.length : Nat) : Int) = (((j + 1) % u.length : Nat) : Int) := by
            rw [Int.natCast_emod]
            congr 1
            omega
          exact congrArg (fun z => some (HO.lst (_ ++ [V.int ((((ws.take i).flatten.length : Nat) : Int) + z)]))) ev
      · rintro H2 ⟨s2, hDD⟩
        rw [Int.toNat_natCast] at hDD
        have hL2 := s2 _ _ hL
        refine ⟨l, D, _, _, rfl, rfl, hL2, hDD, Evl.sz_of (by rw [List.length_map, List.length_map, List.length_map, List.length_range, nxF_len]; omega), ?_⟩
        refine ⟨_, _, rfl, same_put (sm.trans s2) hl0, ?_⟩
        rw [upd_same, nxF_take hu]
        unfold iv
        rw [List.map_append]
    · rintro σ H1 ⟨v2, v3, rfl, sm, hL⟩
      have e : ws.take (xs.map V.ref).length = ws := List.take_of_length_le (by rw [List.length_map, hW.length]; exact Nat.le_refl _)
      rw [e] at hL
      refine ⟨_, rfl, l, _, rfl, .inl ⟨SqL.of hL, fun t H2 s2 B2 => k t H2 (sm.trans s2) B2⟩⟩
end
end W03
set_option Elab.async false
set_option linter.all false
set_option maxRecDepth 100000
set_option maxHeartbeats 1000000
namespace W03
open PySem L2 PySem.Spec PyProof.Rows WR WB
abbrev sInitR : Stmt := inClass (top 39) 0
theorem pi_tupK {X : Cx} {K : PySem.W.Frag} {tg l : Expr} {tl : TE} (h : X.K = K) (hl : PE X l tl) : PI X tg l (iTup K tl) := by
  subst h
  exact pi_tup hl
theorem nx_lc2 {wi wi1 : TI} {g g1 gg : TG} {tt tt1 : TT} {te : TE} {vs vs1 : List Nat} {D : Ends} {σ : L2.St} {H : Hp} {Cc : TS} {b1 b2 : L2.St → Hp → Prop} {rt : VK}
    (h : wi σ H fun J H1 => tLc2 (fun _ H R => R J H) g tt wi1 g1 tt1 te vs vs1 σ H1 fun z H4 => gg z σ H4 (Cc D)) : tNext { nx := tSeq (tAsg (tLc2 wi g tt wi1 g1 tt1 te vs vs1) gg) Cc D, rt := rt, bk := b1, ct := b2 } σ H := h
theorem nx_not_lc {r : List V → Hp → VK → Prop} {wi : TI} {g : TG} {tt : TT} {te : TE} {vs : List Nat} {D : Ends} {σ : L2.St} {H : Hp} {A B Cc : TS} {b1 b2 : L2.St → Hp → Prop} {rt : VK}
    (h : wi σ H fun J H1 => tLc (fun _ H R => R J H) g tt te vs σ H1 fun x H2 => r [x] H2 fun v H3 => ∃ c, v = .bl c ∧ if (!c) = true then A { D with nx := Cc D } σ H3 else B { D with nx := Cc D } σ H3) :
    tNext { nx := tSeq (tIfS (tNot (fun σ H Q => tCB r (tCons (tLc wi g tt te vs) tNil) σ H fun x H1 => ∃ c, x = .bl c ∧ Q c H1)) A B) Cc D, rt := rt, bk := b1, ct := b2 } σ H := h
theorem sq_fld {K : PySem.W.Frag} {ta tv : TE} {f : Str} {Cc : TS} {D : Ends} {σ : L2.St} {H : Hp} (h : tv σ H fun y H1 => sFld K ta (fun _ H Q => Q y H) f { D with nx := Cc D } σ H1) : tSeq (sFld K ta tv f) Cc D σ H := h
theorem cb_lc2 {r : List V → Hp → VK → Prop} {wi wi1 : TI} {g g1 : TG} {tt tt1 : TT} {te : TE} {vs vs1 : List Nat} {σ : L2.St} {H : Hp} {Q : VK}
    (h : wi σ H fun J H1 => tLc2 (fun _ H R => R J H) g tt wi1 g1 tt1 te vs vs1 σ H1 fun y H2 => r [y] H2 Q) : tCB r (tCons (tLc2 wi g tt wi1 g1 tt1 te vs vs1) tNil) σ H Q := h
theorem flat_to {ws : List (List Int)} {i : Nat} (h : i ≤ ws.length) : ((List.range i).map fun i => iv (ws.getD i [])).flatten = iv (ws.take i).flatten := by
  have e : (List.range i).map (fun i => ws.getD i []) = ws.take i := by
    refine List.ext_getElem (by rw [List.length_map, List.length_range, List.length_take]; omega) fun j h1 h2 => ?_
    rw [List.length_take] at h2
    rw [List.getElem_map, List.getElem_range, List.getElem_take, List.getD_eq_getElem?_getD, List.getElem?_eq_getElem (by omega)]
    rfl
  rw [← e]
  unfold iv
  rw [List.map_flatten, List.map_map]
  rfl
def rf (tw tl : Addr) (n b : Nat) (sh : Bool) (th tn : Addr) : List (Str × V) := [("words", .ref tw), ("letters", .ref tl), ("many", .int (n : Int)), ("bands", .int (b : Int)), ("is_short", .bl sh), ("homes", .ref th), ("nexts", .ref tn)]
theorem pr1 {tw : Addr} : putF "words" (.ref tw) ([] : List (Str × V)) = ([("words", .ref tw)] : List (Str × V)) := by
  rfl
theorem pr2 {tw : Addr} {tl : Addr} : putF "letters" (.ref tl) ([("words", .ref tw)] : List (Str × V)) = ([("words", .ref tw), ("letters", .ref tl)] : List (Str × V)) := by
  rw [pf_ne (show ¬ (("words" : Str) = "letters") by decide +kernel)]
  rfl
theorem pr3 {tw : Addr} {tl : Addr} {n : Nat} : putF "many" (.int (n : Int)) ([("words", .ref tw), ("letters", .ref tl)] : List (Str × V)) = ([("words", .ref tw), ("letters", .ref tl), ("many", .int (n : Int))] : List (Str × V)) := by
  rw [pf_ne (show ¬ (("words" : Str) = "many") by decide +kernel), pf_ne (show ¬ (("letters" : Str) = "many") by decide +kernel)]
  rfl
theorem pr4 {tw : Addr} {tl : Addr} {n : Nat} {b : Nat} : putF "bands" (.int (b : Int)) ([("words", .ref tw), ("letters", .ref tl), ("many", .int (n : Int))] : List (Str × V)) = ([("words", .ref tw), ("letters", .ref tl), ("many", .int (n : Int)), ("bands", .int (b : Int))] : List (Str × V)) := by
  rw [pf_ne (show ¬ (("words" : Str) = "bands") by decide +kernel), pf_ne (show ¬ (("letters" : Str) = "bands") by decide +kernel), pf_ne (show ¬ (("many" : Str) = "bands") by decide +kernel)]
  rfl
theorem pr5 {tw : Addr} {tl : Addr} {n : Nat} {b : Nat} {sh : Bool} : putF "is_short" (.bl sh) ([("words", .ref tw), ("letters", .ref tl), ("many", .int (n : Int)), ("bands", .int (b : Int))] : List (Str × V)) = ([("words", .ref tw), ("letters", .ref tl), ("many", .int (n : Int)), ("bands", .int (b : Int)), ("is_short", .bl sh)] : List (Str × V)) := by
  rw [pf_ne (show ¬ (("words" : Str) = "is_short") by decide +kernel), pf_ne (show ¬ (("letters" : Str) = "is_short") by decide +kernel), pf_ne (show ¬ (("many" : Str) = "is_short") by decide +kernel), pf_ne (show ¬ (("bands" : Str) = "is_short") by decide +kernel)]
  rfl
theorem pr6 {tw : Addr} {tl : Addr} {n : Nat} {b : Nat} {sh : Bool} {th : Addr} : putF "homes" (.ref th) ([("words", .ref tw), ("letters", .ref tl), ("many", .int (n : Int)), ("bands", .int (b : Int)), ("is_short", .bl sh)] : List (Str × V)) = ([("words", .ref tw), ("letters", .ref tl), ("many", .int (n : Int)), ("bands", .int (b : Int)), ("is_short", .bl sh), ("homes", .ref th)] : List (Str × V)) := by
  rw [pf_ne (show ¬ (("words" : Str) = "homes") by decide +kernel), pf_ne (show ¬ (("letters" : Str) = "homes") by decide +kernel), pf_ne (show ¬ (("many" : Str) = "homes") by decide +kernel), pf_ne (show ¬ (("bands" : Str) = "homes") by decide +kernel), pf_ne (show ¬ (("is_short" : Str) = "homes") by decide +kernel)]
  rfl
theorem pr7 {tw : Addr} {tl : Addr} {n : Nat} {b : Nat} {sh : Bool} {th : Addr} {tn : Addr} : putF "nexts" (.ref tn) ([("words", .ref tw), ("letters", .ref tl), ("many", .int (n : Int)), ("bands", .int (b : Int)), ("is_short", .bl sh), ("homes", .ref th)] : List (Str × V)) = rf tw tl n b sh th tn := by
  rw [pf_ne (show ¬ (("words" : Str) = "nexts") by decide +kernel), pf_ne (show ¬ (("letters" : Str) = "nexts") by decide +kernel), pf_ne (show ¬ (("many" : Str) = "nexts") by decide +kernel), pf_ne (show ¬ (("bands" : Str) = "nexts") by decide +kernel), pf_ne (show ¬ (("is_short" : Str) = "nexts") by decide +kernel), pf_ne (show ¬ (("homes" : Str) = "nexts") by decide +kernel)]
  rfl
/-- the number of each letter's word, from f on -/
def hmF (f : Nat) : List (List Int) → List Int
  | [] => []
  | w :: r => List.replicate w.length (f : Int) ++ hmF (f + 1) r
theorem hm_to : ∀ (ws : List (List Int)) (f : Nat), ((List.range ws.length).map fun i => iv (List.replicate (ws.getD i []).length ((f + i : Nat) : Int))).flatten = iv (hmF f ws)
  | [], f => rfl
  | w :: r, f => by
    have ih := hm_to r (f + 1)
    rw [List.length_cons, List.range_succ_eq_map, List.map_cons, List.flatten_cons, List.map_map]
    unfold hmF
    have e : (List.range r.length).map ((fun i => iv (List.replicate ((w :: r).getD i []).length ((f + i : Nat) : Int))) ∘ Nat.succ) = (List.range r.length).map fun i => iv (List.replicate (r.getD i []).length ((f + 1 + i : Nat) : Int)) := by
      refine List.map_congr_left fun i _ => ?_
      show iv (List.replicate ((w :: r).getD (i + 1) []).length ((f + (i + 1) : Nat) : Int)) = _
      rw [List.getD_cons_succ, show f + (i + 1) = f + 1 + i by omega]
    rw [e, ih]
    unfold iv
    rw [List.map_append]
    rfl
theorem all_bl {vs : List V} {ws : List (List Int)} {f : List Int → Bool} (h : All2 (fun v u => v = V.bl (f u)) vs ws) : vs = (ws.map f).map V.bl := by
  induction h with
  | nil => rfl
  | cons e _ ih => rw [e, ih]; rfl
theorem all_map (ws : List (List Int)) (f : List Int → Bool) : (ws.map f).all id = ws.all f := by
  rw [List.all_map]
  rfl
def RimsAt (K : PySem.W.Frag) (C CR : Addr) (H : Hp) (p : Addr) (xs : List Addr) (ws : List (List Int)) : Prop :=
  ∃ (dx tw tl th tn : Addr), H p = some (.ins CR dx (rf tw tl ws.flatten.length (ws.flatten.length / 2) (ws.all fun w => decide (Fr.rnd w = w)) th tn)) ∧ SqB K H tw (xs.map V.ref) ∧ Wds K C H xs ws ∧ SqB K H tl (iv ws.flatten) ∧ SqB K H th (iv (hmF 0 ws)) ∧ SqB K H tn (iv (nxF 0 ws))
/-- what may be made to rims -/
def RimOk (ws : List (List Int)) : Prop := 1 ≤ ws.length ∧ ws.length ≤ 4 ∧ (∀ w ∈ ws, w ≠ []) ∧ ws.flatten.length ≤ 24 ∧ Lts ws.flatten ∧ Fr.bal ws.flatten = []
structure TxRC (K : PySem.W.Frag) (mg : Str → Option Value) (CR : Addr) : Prop where
  cl : Cls K CR
  n1 : NoAttr K CR "words"
  n2 : NoAttr K CR "letters"
  n3 : NoAttr K CR "many"
  n4 : NoAttr K CR "bands"
  n5 : NoAttr K CR "is_short"
  n6 : NoAttr K CR "homes"
  n7 : NoAttr K CR "nexts"
  mgR : mg "Rims" = some (.ref CR)
  ca : PySem.W.findIn K (.ref CR) "__class__" = some (some (.builtin "object.__class__"))
  cm : PySem.W.mroIn K CR (.type "object") = some true
def spInitR (K : PySem.W.Frag) (C CR : Addr) : Sp := fun vs H Q _ => ∃ (H0 : Hp) (p dx a : Addr) (xs : List Addr) (ws : List (List Int)), vs = [.ref p, .ref a] ∧ Same H0 H ∧ H0 p = none ∧ H p = some (.ins CR dx []) ∧ SqL K H0 a (xs.map V.ref) ∧ Wds K C H0 xs ws ∧ RimOk ws ∧
  ∀ H', Same H0 H' → RimsAt K C CR H' p xs ws → Q .non H'
abbrev nInitR : List Str := ["self", "words", "letters", "word", "letter", "home", "_"]
section
variable {P : Program} {w : World} {K : PySem.W.Frag} {mg : Str → Option Value} {base : Heap} {C CR : Addr}
theorem scInitR : FnScope nInitR ["self", "words"] (defScope sInitR) := ⟨rfl, rfl, rfl, by decide +kernel, rfl, by decide +kernel, by decide +kernel⟩
theorem ok_initR {f : Addr} {fd : FuncData} (F : Fun K "__init__" "Rims.__init__" sInitR f fd) (T : TxW K mg C) (TC : TxRC K mg CR) (TA : TxA mg) (R : TxR mg) (GL : Cal P w K mg base "is_listed" 1 ["value"] (spListE K)) (GF : Cal P w K mg base "is_filled" 1 ["value"] (spFilled K C))
    (GP : Cal P w K mg base "need_few_places" 1 ["many"] spFewP) (GB : Cal P w K mg base "need_balanced" 3 ["letters"] (spNeedB K)) (GN : Cal P w K mg base "nexts_of" 1 ["words"] (spNexts K C)) :
    FnOk P w K mg base CX0 4 f fd ["self", "words"] (spInitR K C CR) := by
  refine F.ok scInitR (fun vs H Q E h => ?_) (fun cdv A outer s H vs Q E hr h => ?_)
  · obtain ⟨H0, p, dx, a, xs, ws, rfl, _⟩ := h
    rfl
  · obtain ⟨H0, p, dx, a, xs, ws, rfl, s0, p0, hp, hS, hW, ⟨l1, l4, hne, l24, hl, hb⟩, k⟩ := h
    obtain ⟨tW, mW⟩ := R.words
    refine ⟨_, pss_cons (ps_if (PW.pt (pw_or (pt_not (pt_val (pe_cal GL hr (by decide) (by rfl) (pa_cons (pv 1) pa_nil)))) (pw_or1 (pt_not (pt_chain op_le op_le pe_int (pe_callB call_len_seq (by rfl) TA.len PySem.boot_len (pa_cons (pv 1) pa_nil)) (pe_glob (v := .int 4) (by rfl) mW ⟨_, rfl⟩)))))) (pss_one ps_never) pss_nil)
      (pss_cons (ps_if (pt_not (pt_val (pe_callB (cr_all rfl) (by rfl) T.all (by decide +kernel) (pa_cons (pe_lc (own := [("word", 3)]) (g := gName 3) (tt := tYes) rfl scInitR.nd (pi_list (pv 1))
          (blkOk_by (N := nInitR) (sc := defScope sInitR) (by decide +kernel)) (fun _ _ _ _ _ => pg_name (i := 3) scInitR.nd rfl (Or.inl rfl)) (fun _ _ _ _ _ => pts_nil)
          (fun _ _ _ _ _ => pe_cal GF hr (by decide) (by rfl) (pa_cons (pv 3) pa_nil))) pa_nil)))) (pss_one ps_never) pss_nil)
      (pss_cons (ps_setLc2 (i := 2) (own := [("word", 3), ("letter", 4)]) (vs1 := [4]) (g := gName 3) (tt := tYes) (g1 := gName 4) (tt1 := tYes) rfl scInitR.nd rfl rfl (sw_true rfl rfl rfl (by decide +kernel)) (pi_list (pv 1))
          (blkOk_by (N := nInitR) (sc := defScope sInitR) (by decide +kernel)) (by decide) (fun _ _ _ _ _ => pg_name (i := 3) scInitR.nd rfl (Or.inl rfl)) (fun _ _ _ _ _ => pts_nil)
          (fun _ _ _ _ _ => pi_tupK (K := K) rfl (pe_fldK (K := K) rfl (pv 3) rfl)) (fun _ _ _ _ _ => pg_name (i := 4) scInitR.nd rfl (Or.inl rfl)) (fun _ _ _ _ _ => pts_nil) (fun _ _ _ _ _ => pv 4))
      (pss_cons (ps_expr (pe_cal GP hr (by decide) (by rfl) (pa_cons (pe_callB call_len_seq (by rfl) TA.len PySem.boot_len (pa_cons (pv 2) pa_nil)) pa_nil)))
      (pss_cons (ps_expr (pe_cal GB hr (by decide) (by rfl) (pa_cons (pv 2) pa_nil)))
      (pss_cons (ps_fld (pv 0) (pe_callTy call_tupB (by rfl) TA.tuple (by decide +kernel) (pa_cons (pv 1) pa_nil)) rfl)
      (pss_cons (ps_fld (pv 0) (pe_callTy call_tupB (by rfl) TA.tuple (by decide +kernel) (pa_cons (pv 2) pa_nil)) rfl)
      (pss_cons (ps_fld (pv 0) (pe_callB call_len_seq (by rfl) TA.len PySem.boot_len (pa_cons (pv 2) pa_nil)) rfl)
      (pss_cons (ps_fld (pv 0) (pe_op op_fdiv (pe_callB call_len_seq (by rfl) TA.len PySem.boot_len (pa_cons (pv 2) pa_nil)) pe_int) rfl)
      (pss_cons (ps_fld (pv 0) (pe_callB (cr_all rfl) (by rfl) T.all (by decide +kernel) (pa_cons (pe_lc (own := [("word", 3)]) (g := gName 3) (tt := tYes) rfl scInitR.nd (pi_list (pv 1))
          (blkOk_by (N := nInitR) (sc := defScope sInitR) (by decide +kernel)) (fun _ _ _ _ _ => pg_name (i := 3) scInitR.nd rfl (Or.inl rfl)) (fun _ _ _ _ _ => pts_nil)
          (fun _ _ _ _ _ => pe_fldK (K := K) rfl (pv 3) rfl)) pa_nil)) rfl)
      (pss_cons (ps_fld (pv 0) (pe_callTy call_tupB (by rfl) TA.tuple (by decide +kernel) (pa_cons (pe_lc2 (own := [("home", 5), ("word", 3), ("_", 6)]) (vs1 := [6]) (g := gTup K 2 (gCons (gName 5) (gCons (gName 3) gNil))) (tt := tYes) (g1 := gName 6) (tt1 := tYes) rfl scInitR.nd (pi_enum (by rfl) R.enum (pa_cons (pv 1) pa_nil))
          (blkOk_by (N := nInitR) (sc := defScope sInitR) (by decide +kernel)) (by decide) (fun _ _ _ _ _ => pg_tup (n := 2) rfl (pgs_cons (pg_name (i := 5) scInitR.nd rfl (Or.inl rfl)) (pgs_cons (pg_name (i := 3) scInitR.nd rfl (Or.inl rfl)) pgs_nil))) (fun _ _ _ _ _ => pts_nil)
          (fun _ _ _ _ _ => pi_tupK (K := K) rfl (pe_fldK (K := K) rfl (pv 3) rfl)) (fun _ _ _ _ _ => pg_name (i := 6) scInitR.nd rfl (Or.inl rfl)) (fun _ _ _ _ _ => pts_nil) (fun _ _ _ _ _ => pv 5)) pa_nil)) rfl)
      (pss_one (ps_fld (pv 0) (pe_cal GN hr (by decide) (by rfl) (pa_cons (pv 1) pa_nil)) rfl)))))))))))), ?_⟩
    have lxw : xs.length = ws.length := hW.length
    have E0 : SqE K H0 a (xs.map V.ref) := .inl hS
    refine ⟨_, rfl, a, _, rfl, E0.same s0, fun H1 s1 => ⟨_, rfl, ?_⟩⟩
    have s01 := s0.trans s1
    refine iteF ?_
    have hp1 := s1 _ _ hp
    refine ⟨_, rfl, a, _, rfl, .inl (s01.seq hS), _, _, rfl, rfl, _, rfl, iteT' (decide_eq_true (by rw [List.length_map, lxw]; omega)) ⟨_, _, rfl, rfl, _, rfl, no_ne (decide_eq_true (by rw [List.length_map, lxw]; omega)) ?_⟩⟩
    refine nx_not_lc ?_
    refine ⟨_, rfl, a, rfl, ⟨_, s01.seq hS⟩, ?_⟩
    refine lcp (walk_list (xs := xs.map V.ref)) (fun _ => true) (fun _ => V.bl true) (by rw [List.length_map]; omega) (fun H2 s => (s01.trans s).seq hS) ?_ ?_
    · intro x hx H2 s2 Qy Qn ky kn
      obtain ⟨q, hq, rfl⟩ := List.mem_map.mp hx
      obtain ⟨u, hu, Wq⟩ := All2.mem hW hq
      have up : 0 < u.length := List.length_pos_iff.mpr (hne u hu)
      refine ⟨rfl, yes_te ⟨_, rfl, q, u, rfl, Wq.same (s01.trans s2), ?_⟩⟩
      rw [decide_eq_true (show (0 : Int) < (u.length : Int) by omega)]
      exact ky rfl H2 (fun _ _ e => e)
    intro D1 H2 hD1 s2 h2
    have s02 := s01.trans s2
    have hp2 := s2 _ _ hp1
    refine ⟨D1, xs.map fun _ => true, rfl, SqL.of (by
      rw [h2, List.filter_eq_self.mpr (fun _ _ => rfl), List.map_map, List.map_map]
      rfl), ?_⟩
    have eall : (xs.map fun _ => true).all id = true := by
      rw [List.all_eq_true]
      intro b hb
      obtain ⟨_, _, rfl⟩ := List.mem_map.mp hb
      rfl
    rw [eall]
    refine ⟨_, rfl, iteF ?_⟩
    refine nx_lc2 ?_
    refine ⟨_, rfl, a, rfl, ⟨_, s02.seq hS⟩, ?_⟩
    refine lc2_out (walk_list (xs := xs.map V.ref)) (fun i => iv (ws.getD i [])) (fun H s => (s02.trans s).seq hS) ?_ ?_
    · rintro i x D H H' hi ⟨rfl, hx⟩ hD sm hDD Nx kN
      obtain ⟨q, hq, rfl⟩ : ∃ q, xs[i]? = some q ∧ x = V.ref q := by
        rw [List.getElem?_map] at hx
        cases e : xs[i]? with
        | none => rw [e] at hx; cases hx
        | some q => rw [e] at hx; exact ⟨q, rfl, (Option.some.inj hx).symm⟩
      obtain ⟨u, hu, Wq⟩ := hW.at hq
      have eu : ws.getD i [] = u := by rw [List.getD_eq_getElem?_getD, hu]; rfl
      obtain ⟨dx1, tl, tk, ks, w1, w2, _⟩ := Wq.same s02
      refine ⟨rfl, yes_te ?_⟩
      refine ⟨_, rfl, q, C, dx1, _, _, rfl, sm _ _ w1, T.cl, T.nL, wf_letters, tl, rfl, ⟨_, WR.Same.seqT sm w2.sq⟩, ?_⟩
      have hft := flat_take hu
      refine lc2_in (walk_tup (xs := iv u)) (fun y => y) hD sm hDD ?_ (fun H s => ?_) ?_ ?_
      · rw [flat_to (by have := (List.getElem?_eq_some_iff.mp hu).1; omega)]
        rw [List.length_map, List.length_map]
        omega
      · exact WR.Same.seqT s w2.sq
      · intro y hy H2 s2 Qy ky Qn
        exact ⟨rfl, yes_te ⟨_, rfl, ky H2 (fun _ _ e => e)⟩⟩
      · intro H2 s2 h2
        refine kN H2 s2 ?_
        rw [h2, List.map_id', eu]
    intro D H3 hD s3 h3
    have eD : ((List.range (xs.map V.ref).length).map fun i => iv (ws.getD i [])).flatten = iv ws.flatten := by
      rw [List.length_map, lxw, flat_to (Nat.le_refl _), List.take_length]
    rw [eD] at h3
    refine at_set ?_
    try dsimp only
    have s03 := s02.trans s3
    have hp3 := s3 _ _ hp2
    have elen : ((iv ws.flatten).length : Int) = (ws.flatten.length : Int) := by rw [List.length_map]
    refine ⟨_, rfl, D, _, rfl, .inl (SqL.of h3), _, rfl, by rw [elen]; omega, ?_⟩
    refine ⟨_, rfl, D, ws.flatten, rfl, SqL.of h3, by omega, hl, hb, fun H4 s4 => ?_⟩
    have s04 := s03.trans s4
    have hp4 := s4 _ _ hp3
    have h4 := s4 _ _ h3
    -- its words
    refine ⟨_, rfl, a, _, rfl, .inl ⟨s04.seq hS, fun tw H5 s5 B5 => ?_⟩⟩
    refine ⟨_, rfl, p, CR, dx, _, rfl, s5 _ _ hp4, TC.cl, TC.n1, (by show 0 < 1000; decide), ?_⟩
    have hDp : ¬ D = p := fun c => by
      rw [c, hp4] at h4
      cases h4
    have s05 := s04.trans s5
    have h5 := s5 _ _ h4
    have hpp1 : L2.upd H5 p (.ins CR dx (putF "words" (.ref tw) [])) p = some (.ins CR dx [("words", .ref tw)]) := by rw [upd_same, pr1]
    have s06 := same_put (o := (.ins CR dx (putF "words" (.ref tw) []))) s05 p0
    have w6 := SqB.put (o := (.ins CR dx (putF "words" (.ref tw) []))) B5 (s5 _ _ hp4)
    have h6 : L2.upd H5 p (.ins CR dx (putF "words" (.ref tw) [])) D = some (.lst (iv ws.flatten)) := by rw [upd_ne (fun c => hDp c)]; exact h5
    obtain ⟨H6, eH6⟩ : ∃ H', H' = L2.upd H5 p (.ins CR dx (putF "words" (.ref tw) [])) := ⟨_, rfl⟩
    rw [← eH6] at hpp1 s06 w6 h6 ⊢
    clear eH6
    refine ⟨_, rfl, D, _, rfl, .inl ⟨SqL.of h6, fun tl H7 s7 B7 => ?_⟩⟩
    refine ⟨_, rfl, p, CR, dx, _, rfl, s7 _ _ hpp1, TC.cl, TC.n2, (by show 1 < 1000; decide), ?_⟩
    have s07 := s06.trans s7
    have w7 := SqB.same s7 w6
    have h7 := s7 _ _ h6
    have hpp2 : L2.upd H7 p (.ins CR dx (putF "letters" (.ref tl) [("words", .ref tw)])) p = some (.ins CR dx [("words", .ref tw), ("letters", .ref tl)]) := by rw [upd_same, pr2]
    have s08 := same_put (o := (.ins CR dx (putF "letters" (.ref tl) [("words", .ref tw)]))) s07 p0
    have w8 := SqB.put (o := (.ins CR dx (putF "letters" (.ref tl) [("words", .ref tw)]))) w7 (s7 _ _ hpp1)
    have b8 := SqB.put (o := (.ins CR dx (putF "letters" (.ref tl) [("words", .ref tw)]))) B7 (s7 _ _ hpp1)
    have h8 : L2.upd H7 p (.ins CR dx (putF "letters" (.ref tl) [("words", .ref tw)])) D = some (.lst (iv ws.flatten)) := by rw [upd_ne (fun c => hDp c)]; exact h7
    obtain ⟨H8, eH8⟩ : ∃ H', H' = L2.upd H7 p (.ins CR dx (putF "letters" (.ref tl) [("words", .ref tw)])) := ⟨_, rfl⟩
    rw [← eH8] at hpp2 s08 w8 b8 h8 ⊢
    clear eH8
    refine ⟨_, rfl, D, _, rfl, .inl (SqL.of h8), ?_⟩
    rw [elen]
    refine ⟨_, rfl, p, CR, dx, _, rfl, hpp2, TC.cl, TC.n3, (by show 2 < 1000; decide), ?_⟩
    have hpp3 : L2.upd H8 p (.ins CR dx (putF "many" (.int (ws.flatten.length : Nat)) [("words", .ref tw), ("letters", .ref tl)])) p = some (.ins CR dx [("words", .ref tw), ("letters", .ref tl), ("many", .int (ws.flatten.length : Nat))]) := by rw [upd_same, pr3]
    have s09 := same_put (o := (.ins CR dx (putF "many" (.int (ws.flatten.length : Nat)) [("words", .ref tw), ("letters", .ref tl)]))) s08 p0
    have w9 := SqB.put (o := (.ins CR dx (putF "many" (.int (ws.flatten.length : Nat)) [("words", .ref tw), ("letters", .ref tl)]))) w8 hpp2
    have b9 := SqB.put (o := (.ins CR dx (putF "many" (.int (ws.flatten.length : Nat)) [("words", .ref tw), ("letters", .ref tl)]))) b8 hpp2
    have h9 : L2.upd H8 p (.ins CR dx (putF "many" (.int (ws.flatten.length : Nat)) [("words", .ref tw), ("letters", .ref tl)])) D = some (.lst (iv ws.flatten)) := by rw [upd_ne (fun c => hDp c)]; exact h8
    obtain ⟨H9, eH9⟩ : ∃ H', H' = L2.upd H8 p (.ins CR dx (putF "many" (.int (ws.flatten.length : Nat)) [("words", .ref tw), ("letters", .ref tl)])) := ⟨_, rfl⟩
    rw [← eH9] at hpp3 s09 w9 b9 h9 ⊢
    clear eH9
    refine ⟨_, rfl, D, _, rfl, .inl (SqL.of h9), _, _, rfl, rfl, ⟨by decide, by decide⟩, ?_⟩
    rw [elen]
    have e2 : ((ws.flatten.length : Nat) : Int) / 2 = ((ws.flatten.length / 2 : Nat) : Int) := by omega
    try dsimp only
    rw [e2]
    refine ⟨_, rfl, p, CR, dx, _, rfl, hpp3, TC.cl, TC.n4, (by show 3 < 1000; decide), ?_⟩
    have hpp4 : L2.upd H9 p (.ins CR dx (putF "bands" (.int ((ws.flatten.length / 2) : Nat)) [("words", .ref tw), ("letters", .ref tl), ("many", .int (ws.flatten.length : Nat))])) p = some (.ins CR dx [("words", .ref tw), ("letters", .ref tl), ("many", .int (ws.flatten.length : Nat)), ("bands", .int ((ws.flatten.length / 2) : Nat))]) := by rw [upd_same, pr4]
    have s0A := same_put (o := (.ins CR dx (putF "bands" (.int ((ws.flatten.length / 2) : Nat)) [("words", .ref tw), ("letters", .ref tl), ("many", .int (ws.flatten.length : Nat))]))) s09 p0
    have wA := SqB.put (o := (.ins CR dx (putF "bands" (.int ((ws.flatten.length / 2) : Nat)) [("words", .ref tw), ("letters", .ref tl), ("many", .int (ws.flatten.length : Nat))]))) w9 hpp3
    have bA := SqB.put (o := (.ins CR dx (putF "bands" (.int ((ws.flatten.length / 2) : Nat)) [("words", .ref tw), ("letters", .ref tl), ("many", .int (ws.flatten.length : Nat))]))) b9 hpp3
    obtain ⟨HA, eHA⟩ : ∃ H', H' = L2.upd H9 p (.ins CR dx (putF "bands" (.int ((ws.flatten.length / 2) : Nat)) [("words", .ref tw), ("letters", .ref tl), ("many", .int (ws.flatten.length : Nat))])) := ⟨_, rfl⟩
    rw [← eHA] at hpp4 s0A wA bA ⊢
    clear eHA
    have sqA := s0A.seq hS
    have WA : Wds K C HA xs ws := hW.same s0A
    refine sq_fld ?_
    refine cb_lc ?_
    refine ⟨_, rfl, a, rfl, ⟨_, sqA⟩, ?_⟩
    refine lcM (walk_list (K := K) (a := a) (xs := xs.map V.ref)) ws (fun _ _ v u => v = V.bl (decide (Fr.rnd u = u))) (fun _ _ _ _ _ h _ => h) (fun _ _ _ _ _ _ _ h => h) (by rw [List.length_map]; omega) (by rw [List.length_map]; exact lxw) (fun H s => s.seq sqA) ?_ (fun x σ1 H A B k h => gName_mono k h) ?_
    · intro i x u hx hu D2 H2 hD2 _ s2 Qy ky
      obtain ⟨q, hq, rfl⟩ : ∃ q, xs[i]? = some q ∧ x = V.ref q := by
        rw [List.getElem?_map] at hx
        cases e : xs[i]? with
        | none => rw [e] at hx; cases hx
        | some q => rw [e] at hx; exact ⟨q, rfl, (Option.some.inj hx).symm⟩
      obtain ⟨u', hu', Wq⟩ := WA.at hq
      obtain rfl : u' = u := Option.some.inj (hu'.symm.trans hu)
      obtain ⟨dx1, tl1, tk, ks, w1, _⟩ := Wq.same s2
      exact ⟨rfl, _, rfl, q, C, dx1, _, _, rfl, w1, T.cl, T.nR, wf_round, ky _ H2 (fun _ _ e => e) rfl⟩
    intro D2 HB bs hD2 sB hB2 hbs
    rw [all_bl hbs] at hB2
    refine ⟨D2, _, rfl, SqL.of hB2, ?_⟩
    rw [all_map]
    have s0B := s0A.trans sB
    have wB := SqB.same sB wA
    have bB := SqB.same sB bA
    refine ⟨_, rfl, p, CR, dx, _, rfl, sB _ _ hpp4, TC.cl, TC.n5, (by show 4 < 1000; decide), ?_⟩
    have hpp5 : L2.upd HB p (.ins CR dx (putF "is_short" (.bl (ws.all fun w => decide (Fr.rnd w = w))) [("words", .ref tw), ("letters", .ref tl), ("many", .int (ws.flatten.length : Nat)), ("bands", .int ((ws.flatten.length / 2) : Nat))])) p = some (.ins CR dx [("words", .ref tw), ("letters", .ref tl), ("many", .int (ws.flatten.length : Nat)), ("bands", .int ((ws.flatten.length / 2) : Nat)), ("is_short", .bl (ws.all fun w => decide (Fr.rnd w = w)))]) := by rw [upd_same, pr5]
    have s0C := same_put (o := (.ins CR dx (putF "is_short" (.bl (ws.all fun w => decide (Fr.rnd w = w))) [("words", .ref tw), ("letters", .ref tl), ("many", .int (ws.flatten.length : Nat)), ("bands", .int ((ws.flatten.length / 2) : Nat))]))) s0B p0
    have wC := SqB.put (o := (.ins CR dx (putF "is_short" (.bl (ws.all fun w => decide (Fr.rnd w = w))) [("words", .ref tw), ("letters", .ref tl), ("many", .int (ws.flatten.length : Nat)), ("bands", .int ((ws.flatten.length / 2) : Nat))]))) wB (sB _ _ hpp4)
    have bC := SqB.put (o := (.ins CR dx (putF "is_short" (.bl (ws.all fun w => decide (Fr.rnd w = w))) [("words", .ref tw), ("letters", .ref tl), ("many", .int (ws.flatten.length : Nat)), ("bands", .int ((ws.flatten.length / 2) : Nat))]))) bB (sB _ _ hpp4)
    obtain ⟨HC, eHC⟩ : ∃ H', H' = L2.upd HB p (.ins CR dx (putF "is_short" (.bl (ws.all fun w => decide (Fr.rnd w = w))) [("words", .ref tw), ("letters", .ref tl), ("many", .int (ws.flatten.length : Nat)), ("bands", .int ((ws.flatten.length / 2) : Nat))])) := ⟨_, rfl⟩
    rw [← eHC] at hpp5 s0C wC bC ⊢
    clear eHC
    have sqC := s0C.seq hS
    have WC : Wds K C HC xs ws := hW.same s0C
    try dsimp only
    refine sq_fld ?_
    refine cb_lc2 ?_
    refine ⟨_, rfl, a, _, rfl, sqC, ?_⟩
    refine lc2_out (walk_enum (xs := xs.map V.ref)) (fun i => iv (List.replicate (ws.getD i []).length ((0 + i : Nat) : Int))) (fun H s => s.seq sqC) ?_ ?_
    · rintro i x D3 H H' hi ⟨T3, y1, y2, rfl, hT, rfl, e1, hx⟩ hD sm hDD Nx kN
      cases e1
      have hx : (xs.map V.ref)[i]? = some y2 := hx
      obtain ⟨q, hq, rfl⟩ : ∃ q, xs[i]? = some q ∧ y2 = V.ref q := by
        rw [List.getElem?_map] at hx
        cases e : xs[i]? with
        | none => rw [e] at hx; cases hx
        | some q => rw [e] at hx; exact ⟨q, rfl, (Option.some.inj hx).symm⟩
      obtain ⟨u, hu, Wq⟩ := WC.at hq
      have eu : ws.getD i [] = u := by rw [List.getD_eq_getElem?_getD, hu]; rfl
      have sT := same_upd (o := .tup [.int (i : Nat), .ref q]) hT
      have smT := sm.trans sT
      obtain ⟨dx1, tl1, tk, ks, w1, w2, _⟩ := Wq
      have hft := flat_take hu
      refine ⟨T3, _, rfl, SqT.of upd_same, rfl, _, _, rfl, _, _, rfl, rfl, ?_⟩
      refine ⟨rfl, yes_te ?_⟩
      refine ⟨_, rfl, q, C, dx1, _, _, rfl, smT _ _ w1, T.cl, T.nL, wf_letters, tl1, rfl, ⟨_, WR.Same.seqT smT w2.sq⟩, ?_⟩
      refine lc2_in (walk_tup (xs := iv u)) (fun _ => .int ((0 + i : Nat) : Int)) hD smT (sT _ _ hDD) ?_ (fun H s => WR.Same.seqT s w2.sq) ?_ ?_
      · have el : ∀ j, j ≤ ws.length → (((List.range j).map fun i => iv (List.replicate (ws.getD i []).length ((0 + i : Nat) : Int))).flatten).length = (ws.take j).flatten.length := by
          intro j
          induction j with
          | zero => intro _; rfl
          | succ j ih =>
            intro hj
            have ej : ws[j]? = some (ws.getD j []) := by
              rw [List.getD_eq_getElem?_getD, List.getElem?_eq_getElem (show j < ws.length by omega)]
              rfl
            rw [List.range_succ, List.map_append, List.flatten_append, List.length_append, ih (by omega), List.take_succ_eq_append_getElem (show j < ws.length by omega), List.flatten_append, List.length_append]
            simp only [List.map_cons, List.map_nil, List.flatten_cons, List.flatten_nil, List.append_nil, List.length_map, List.length_replicate]
            rw [List.getD_eq_getElem?_getD, List.getElem?_eq_getElem (show j < ws.length by omega)]
            rfl
        rw [el i (by have := (List.getElem?_eq_some_iff.mp hu).1; omega), List.length_map]
        omega
      · intro y hy H2 s2 Qy ky Qn
        refine ⟨rfl, yes_te ⟨_, rfl, ?_⟩⟩
        have := ky H2 (fun _ _ e => e)
        rw [Nat.zero_add] at this
        exact this
      · intro H2 s2 h2
        refine kN H2 s2 ?_
        rw [h2, eu]
        congr 3
        unfold iv
        rw [List.map_map, List.map_replicate]
        exact List.map_const ..
    intro D3 HD hD3 sD hDD
    rw [List.length_map, lxw, hm_to ws 0] at hDD
    have s0D := s0C.trans sD
    refine ⟨D3, _, rfl, .inl ⟨SqL.of hDD, fun th HE sE BE => ?_⟩⟩
    have s0E := s0D.trans sE
    have sCE := sD.trans sE
    have wE := SqB.same sCE wC
    have bE := SqB.same sCE bC
    refine ⟨_, rfl, p, CR, dx, _, rfl, sCE _ _ hpp5, TC.cl, TC.n6, (by show 5 < 1000; decide), ?_⟩
    have hpp6 : L2.upd HE p (.ins CR dx (putF "homes" (.ref th) [("words", .ref tw), ("letters", .ref tl), ("many", .int (ws.flatten.length : Nat)), ("bands", .int ((ws.flatten.length / 2) : Nat)), ("is_short", .bl (ws.all fun w => decide (Fr.rnd w = w)))])) p = some (.ins CR dx [("words", .ref tw), ("letters", .ref tl), ("many", .int (ws.flatten.length : Nat)), ("bands", .int ((ws.flatten.length / 2) : Nat)), ("is_short", .bl (ws.all fun w => decide (Fr.rnd w = w))), ("homes", .ref th)]) := by rw [upd_same, pr6]
    have s0F := same_put (o := (.ins CR dx (putF "homes" (.ref th) [("words", .ref tw), ("letters", .ref tl), ("many", .int (ws.flatten.length : Nat)), ("bands", .int ((ws.flatten.length / 2) : Nat)), ("is_short", .bl (ws.all fun w => decide (Fr.rnd w = w)))]))) s0E p0
    have wF := SqB.put (o := (.ins CR dx (putF "homes" (.ref th) [("words", .ref tw), ("letters", .ref tl), ("many", .int (ws.flatten.length : Nat)), ("bands", .int ((ws.flatten.length / 2) : Nat)), ("is_short", .bl (ws.all fun w => decide (Fr.rnd w = w)))]))) wE (sCE _ _ hpp5)
    have bF := SqB.put (o := (.ins CR dx (putF "homes" (.ref th) [("words", .ref tw), ("letters", .ref tl), ("many", .int (ws.flatten.length : Nat)), ("bands", .int ((ws.flatten.length / 2) : Nat)), ("is_short", .bl (ws.all fun w => decide (Fr.rnd w = w)))]))) bE (sCE _ _ hpp5)
    have tF := SqB.put (o := (.ins CR dx (putF "homes" (.ref th) [("words", .ref tw), ("letters", .ref tl), ("many", .int (ws.flatten.length : Nat)), ("bands", .int ((ws.flatten.length / 2) : Nat)), ("is_short", .bl (ws.all fun w => decide (Fr.rnd w = w)))]))) BE (sCE _ _ hpp5)
    obtain ⟨HF, eHF⟩ : ∃ H', H' = L2.upd HE p (.ins CR dx (putF "homes" (.ref th) [("words", .ref tw), ("letters", .ref tl), ("many", .int (ws.flatten.length : Nat)), ("bands", .int ((ws.flatten.length / 2) : Nat)), ("is_short", .bl (ws.all fun w => decide (Fr.rnd w = w)))])) := ⟨_, rfl⟩
    rw [← eHF] at hpp6 s0F wF bF tF ⊢
    clear eHF
    refine ⟨_, rfl, a, xs, ws, rfl, s0F.seq hS, hW.same s0F, l4, hne, l24, fun tn HG sG BG => ?_⟩
    have s0G := s0F.trans sG
    have wG := SqB.same sG wF
    have bG := SqB.same sG bF
    have tG := SqB.same sG tF
    refine ⟨_, rfl, p, CR, dx, _, rfl, sG _ _ hpp6, TC.cl, TC.n7, (by show 6 < 1000; decide), ?_⟩
    have hpp7 : L2.upd HG p (.ins CR dx (putF "nexts" (.ref tn) [("words", .ref tw), ("letters", .ref tl), ("many", .int (ws.flatten.length : Nat)), ("bands", .int ((ws.flatten.length / 2) : Nat)), ("is_short", .bl (ws.all fun w => decide (Fr.rnd w = w))), ("homes", .ref th)])) p = some (.ins CR dx (rf tw tl ws.flatten.length (ws.flatten.length / 2) (ws.all fun w => decide (Fr.rnd w = w)) th tn)) := by rw [upd_same, pr7]
    have s0I := same_put (o := (.ins CR dx (putF "nexts" (.ref tn) [("words", .ref tw), ("letters", .ref tl), ("many", .int (ws.flatten.length : Nat)), ("bands", .int ((ws.flatten.length / 2) : Nat)), ("is_short", .bl (ws.all fun w => decide (Fr.rnd w = w))), ("homes", .ref th)]))) s0G p0
    have wI := SqB.put (o := (.ins CR dx (putF "nexts" (.ref tn) [("words", .ref tw), ("letters", .ref tl), ("many", .int (ws.flatten.length : Nat)), ("bands", .int ((ws.flatten.length / 2) : Nat)), ("is_short", .bl (ws.all fun w => decide (Fr.rnd w = w))), ("homes", .ref th)]))) wG (sG _ _ hpp6)
    have bI := SqB.put (o := (.ins CR dx (putF "nexts" (.ref tn) [("words", .ref tw), ("letters", .ref tl), ("many", .int (ws.flatten.length : Nat)), ("bands", .int ((ws.flatten.length / 2) : Nat)), ("is_short", .bl (ws.all fun w => decide (Fr.rnd w = w))), ("homes", .ref th)]))) bG (sG _ _ hpp6)
    have tI := SqB.put (o := (.ins CR dx (putF "nexts" (.ref tn) [("words", .ref tw), ("letters", .ref tl), ("many", .int (ws.flatten.length : Nat)), ("bands", .int ((ws.flatten.length / 2) : Nat)), ("is_short", .bl (ws.all fun w => decide (Fr.rnd w = w))), ("homes", .ref th)]))) tG (sG _ _ hpp6)
    have nI := SqB.put (o := (.ins CR dx (putF "nexts" (.ref tn) [("words", .ref tw), ("letters", .ref tl), ("many", .int (ws.flatten.length : Nat)), ("bands", .int ((ws.flatten.length / 2) : Nat)), ("is_short", .bl (ws.all fun w => decide (Fr.rnd w = w))), ("homes", .ref th)]))) BG (sG _ _ hpp6)
    obtain ⟨HI, eHI⟩ : ∃ H', H' = L2.upd HG p (.ins CR dx (putF "nexts" (.ref tn) [("words", .ref tw), ("letters", .ref tl), ("many", .int (ws.flatten.length : Nat)), ("bands", .int ((ws.flatten.length / 2) : Nat)), ("is_short", .bl (ws.all fun w => decide (Fr.rnd w = w))), ("homes", .ref th)])) := ⟨_, rfl⟩
    rw [← eHI] at hpp7 s0I wI bI tI nI ⊢
    clear eHI
    exact k HI s0I ⟨dx, tw, tl, th, tn, hpp7, wI, hW.same s0I, bI, tI, nI⟩
end
end W03
set_option Elab.async false
set_option linter.all false
set_option maxRecDepth 100000
set_option maxHeartbeats 2000000
/-! t == u of tuples, whatever their items' == answers. -/
namespace TE
open PySem PySem.SeqAt PySem.Spec PyProof.Rows
open AutoSeq1 (wpAny_loadPart')
section
variable {P : Program} {w : World} {A : Around} {R : Result → Shared → Prop}
/-- the whole answer -/
abbrev ans (xs ys : Array Value) (e : Nat → Bool) : Bool := (List.range (min xs.size ys.size)).all e && xs.size == ys.size
theorem tup_eq (l b : Addr) (xs ys : Array Value) (n k : Nat) (d1 d2 : Option Addr) (o1 o2 : Array (Option Value)) (e : Nat → Bool) (I : Nat → Shared → Prop)
    (step : ∀ i (h1 : i < xs.size) (h2 : i < ys.size) t, I i t → wpAny (model P w) A.in1 (eqBool xs[i] ys[i]) (fun r t' => r = e i ∧ I (i + 1) t') (fun x t' => R (.error x) t') t)
    (out : ∀ i t, I i t → R (.ok (.ret (.bool (ans xs ys e)))) t) {s : Shared} (at1 : s.heap.get? l = some { cls := .type "tuple", dict := d1, data := .seq xs n, slots := o1 }) (at2 : s.heap.get? b = some { cls := .type "tuple", dict := d2, data := .seq ys k, slots := o2 }) (start : I 0 s) :
    wpAny (model P w) A.in1 (Builtin.«tuple.__eq__» ⟨[.ref l, .ref b], []⟩) (GQ.FinOf P w A R) (fun x t => R (.error x) t) s := by
  have sub := AutoSeq1.sub_tuple_tuple
  have len : (xs.toList.zip ys.toList).length = min xs.size ys.size := by simp
  have i0 := start
  obtain ⟨hp, g, d, tk, os⟩ := s
  wp_walk using wpAny_loadPart' at1, wpAny_loadPart' at2, wpAny_forIn_list _ (fun rest b t => b.1 = none ∧ ∃ i, rest = (xs.toList.zip ys.toList).drop i ∧ (∀ j, j < i → j < min xs.size ys.size → e j = true) ∧ I i t) _
  case turn =>
    rintro ⟨y, x⟩ rest b t ⟨hb, i, hz, before, it⟩
    have lt : i < (xs.toList.zip ys.toList).length := Nat.lt_of_not_le fun h' => by
      rw [List.drop_of_length_le h'] at hz
      cases hz
    have lm : i < min xs.size ys.size := len ▸ lt
    have h1 : i < xs.size := by omega
    have h2 : i < ys.size := by omega
    rw [List.drop_eq_getElem_cons lt] at hz
    obtain ⟨pq, more⟩ := List.cons.inj hz
    obtain rfl : y = xs[i] := by simpa using congrArg Prod.fst pq
    obtain rfl : x = ys[i] := by simpa using congrArg Prod.snd pq
    refine wpAny_bind (wpAny_mono (step i h1 h2 t it) (fun r t2 q => ?_) fun _ _ z => z)
    obtain ⟨rfl, it2⟩ := q
    cases he : e i with
    | true =>
      wp_walk
      refine ⟨rfl, i + 1, more, fun j hj lj => ?_, it2⟩
      rcases Nat.lt_succ_iff_lt_or_eq.mp hj with h | rfl
      · exact before j h lj
      · exact he
    | false =>
      wp_walk
      have no : ans xs ys e = false := by
        have : (List.range (min xs.size ys.size)).all e = false := List.all_eq_false.mpr ⟨i, List.mem_range.mpr lm, by rw [he]; decide⟩
        rw [ans, this, Bool.false_and]
      have := out _ _ it2
      rw [no] at this
      exact this
  case fin =>
    rintro ⟨b1, b2⟩ t ⟨hb, i, hz, before, it⟩
    simp only at hb
    subst hb
    have ge : min xs.size ys.size ≤ i := Nat.le_of_not_lt fun h => by
      rw [List.drop_eq_getElem_cons (len ▸ h)] at hz
      cases hz
    have yes : (List.range (min xs.size ys.size)).all e = true := List.all_eq_true.mpr fun j hj => before j (by have := List.mem_range.mp hj; omega) (List.mem_range.mp hj)
    have fin := out _ _ it
    rw [ans, yes, Bool.true_and] at fin
    wp_walk
    simpa [Builtin.Tuple.tupleCompareSizes] using fin
  case h => exact ⟨rfl, 0, rfl, fun j hj => absurd hj (Nat.not_lt_zero j), i0⟩
end
end TE
set_option Elab.async false
set_option linter.all false
set_option maxRecDepth 100000
set_option maxHeartbeats 1000000
namespace W03
open PySem L2 PySem.Spec PyProof.Rows WR WB
/-! ### tuples of words, held against one another -/
section
variable {X : Cx} {C : Addr} {pins : List (Addr × Obj)} {σ : L2.St} {H : Hp} {s : Shared}
theorem vals_ints_inj : ∀ {ns ms : List Int} {us : List Value}, Vals (iv ns) us → Vals (iv ms) us → ns = ms
  | [], [], _, _, _ => rfl
  | [], _ :: _, _, .nil, h => nomatch h
  | _ :: _, [], _, h, .nil => nomatch h
  | n :: ns, m :: ms, _, .cons h1 t1, h2 => by
    cases h2 with
    | cons h3 t3 =>
      obtain ⟨t, rfl⟩ := h1
      obtain ⟨t', e⟩ := h3
      cases e
      rw [vals_ints_inj t1 t3]
theorem word_inj (I : Inv X pins σ H s) {p : Addr} {ns ms : List Int} (h1 : WordAt X.K C H p ns) (h2 : WordAt X.K C H p ms) : ns = ms := by
  obtain ⟨dx, tl, tk, ks, a1, a2, _⟩ := h1
  obtain ⟨dy, ul, uk, js, b1, b2, _⟩ := h2
  have e := Option.some.inj (a1.symm.trans b1)
  injection e with _ _ ef
  have et : tl = ul := by
    have := List.cons.inj ef
    have := Prod.mk.inj this.1
    injection this.2
  subst et
  obtain ⟨its, v1, ⟨o1, g1, _, n1, d1⟩, _⟩ := I.tuple a2.sq
  obtain ⟨its2, v2, ⟨o2, g2, _, n2, d2⟩, _⟩ := I.tuple b2.sq
  have eo := Option.some.inj (g1.symm.trans g2)
  subst eo
  have ei : its = its2 := by
    have := d1.symm.trans d2
    injection this with this
    simpa using this
  subst ei
  exact vals_ints_inj v1 v2
theorem rcW (M : EqW X.prog X.w X.K X.mg X.base C) {A : Around} (sb : Sub X 1 A) (I : Inv X pins σ H s) {a b : Addr} {ns ms : List Int} (W1 : WordAt X.K C H a ns) (W2 : WordAt X.K C H b ms) :
    wpAny (model X.prog X.w) A (richCompare .Eq (.ref a) (.ref b)) (fun r s' => r = .bool (decide (ns = ms)) ∧ Inv X pins σ H s') X.xe s := by
  obtain ⟨f, fd, F, hs, hf, hb⟩ := M.ex
  obtain ⟨dx, tl, tk, ks, ha, _⟩ := id W1
  obtain ⟨dx', tl', tk', ks', hb', _⟩ := id W2
  obtain ⟨mA, J, _⟩ := ins_get I.hok ha
  obtain ⟨mB, J', _⟩ := ins_get I.hok hb'
  obtain ⟨od, J, _⟩ := J.look
  obtain ⟨od', J', _⟩ := J'.look
  obtain ⟨m, hF⟩ := I.fr
  refine PySem.W.cmp_K (op := .Eq) (tb := .ref C) sb.room.units0 hF I.ok.mod.kin J J'.type (by simp [PySem.W.notFirst]) hs hf ?_
  have hsp : spEq X.K C [.ref a, .ref b] H (fun v H' => v = .bl (decide (ns = ms)) ∧ H' = H) E0 := ⟨a, b, ns, ms, rfl, W1, W2, rfl, rfl⟩
  have e0 : Env0 X.prog X.w X.K X.mg X.base A X.stack s H := by
    have e := I.env0
    exact ⟨by rw [sb.fr]; exact e.frames, e.mod, e.bs, e.bsz, e.funs, e.frf, e.hok, e.bare⟩
  have hl := F.len _ _ _ _ hsp
  have r2 : Vals [V.ref a, V.ref b] [Value.ref a, Value.ref b] := .cons rfl (.cons rfl .nil)
  refine wpAny_call (codeAny_mono (F.run A X.stack s H ⟨[.ref a, .ref b], []⟩ [.ref a, .ref b] [.ref a, .ref b] _ E0 sb.room e0 (by
    have := hb s [.ref a, .ref b] I.kIn (by simpa using hl)
    simpa using this) r2 hsp) fun r s' hq => ?_)
  cases r with
  | error e => exact pass0 pins σ H s e s' I hq
  | ok fl =>
    cases fl with
    | ret w =>
      obtain ⟨z, H', I', rz, ez, eH⟩ := I.after hq
      subst ez eH
      cases rz
      exact ⟨rfl, I'⟩
    | next => exact False.elim hq
    | brk => exact False.elim hq
    | cont => exact False.elim hq
theorem ebW (M : EqW X.prog X.w X.K X.mg X.base C) {A : Around} (sb : Sub X 1 A) (I : Inv X pins σ H s) {a b : Addr} {ns ms : List Int} (W1 : WordAt X.K C H a ns) (W2 : WordAt X.K C H b ms) :
    wpAny (model X.prog X.w) A (eqBool (.ref a) (.ref b)) (fun r s' => r = decide (ns = ms) ∧ Inv X pins σ H s') X.xe s := by
  by_cases hab : a = b
  · subst hab
    have e := word_inj I W1 W2
    subst e
    exact (SeqAt.EqAt.same (A := A) (s := s) (.ref a)) X.prog X.w X.xe _ ⟨(decide_eq_true rfl).symm, I⟩
  · refine GQ.eqBool_refG hab (wpAny_mono (rcW M sb I W1 W2) (fun v s' q => ⟨_, q.1, rfl, q.2⟩) fun _ _ z => z)
end
def rEqWT (K : PySem.W.Frag) (C : Addr) : R2 := fun x y H Q => ∃ (a b : Addr) (xs ys : List Addr) (ws vs : List (List Int)), x = .ref a ∧ y = .ref b ∧ SqT K H a (xs.map V.ref) ∧ SqT K H b (ys.map V.ref) ∧ Wds K C H xs ws ∧ Wds K C H ys vs ∧ Q (.bl (decide (ws = vs))) H
theorem all_same {ws vs : List (List Int)} {n m : Nat} (hn : n = ws.length) (hm : m = vs.length) : (((List.range (min n m)).all fun i => decide (ws.getD i [] = vs.getD i [])) && n == m) = decide (ws = vs) := by
  subst hn hm
  rw [Bool.eq_iff_iff, Bool.and_eq_true, List.all_eq_true, decide_eq_true_eq, beq_iff_eq]
  constructor
  · rintro ⟨h1, h2⟩
    refine List.ext_getElem h2 fun i a b => ?_
    have := of_decide_eq_true (h1 i (List.mem_range.mpr (by omega)))
    rw [List.getD_eq_getElem?_getD, List.getD_eq_getElem?_getD, List.getElem?_eq_getElem a, List.getElem?_eq_getElem b] at this
    exact this
  · rintro rfl
    exact ⟨fun i _ => decide_eq_true rfl, rfl⟩
section
variable {X : Cx} {C : Addr}
theorem op_eqWT (M : EqW X.prog X.w X.K X.mg X.base C) {j : Nat} (hr : Room j X.A) (hj : 2 ≤ j) : OpR X (compareOp .Eq) (rEqWT X.K C) := by
  intro pins s σ H x y u v Q I rx ry d
  obtain ⟨a, b, xs, ys, ws, vs, rfl, rfl, ha, hb, hW, hV, q⟩ := d
  cases rx
  cases ry
  have rm : Room 2 X.A := hr.mono hj
  obtain ⟨its, r, ⟨⟨cls, dd, data, sl⟩, ho, hc, n, hd⟩, _⟩ := I.tuple ha
  obtain ⟨its2, r2, ⟨⟨cls2, dd2, data2, sl2⟩, ho2, hc2, n2, hd2⟩, _⟩ := I.tuple hb
  simp only at hc hd hc2 hd2
  subst hc hd hc2 hd2
  have l1 : its.toArray.size = ws.length := by rw [List.size_toArray, ← r.length, List.length_map, hW.length]
  have l2 : its2.toArray.size = vs.length := by rw [List.size_toArray, ← r2.length, List.length_map, hV.length]
  have sb : Sub X 1 X.A.in1 := ⟨rm.in1, rfl⟩
  show wpAny (model X.prog X.w) X.A (richCompare .Eq (.ref a) (.ref b)) (EP X pins σ Q) X.xe s
  refine wpAny_richCompare_same_room (op := .Eq) ⟨_, ho, rfl⟩ ⟨_, ho2, rfl⟩ PySem.F.slot_tuple_eq (GQ.call_here PySem.F.slot_tuple_eq ⟨_, ho, rfl⟩ PySem.F.entry_tuple_eq (PySem.F.args_tuple_eq_2 _ _) ?_) rm.units0
  refine TE.tup_eq a b its.toArray its2.toArray n n2 dd dd2 sl sl2 (fun i => decide (ws.getD i [] = vs.getD i [])) (fun _ t => Inv X pins σ H t) (fun i h1 h2 t It => ?_) (fun i t It => ?_) ho ho2 I
  · have k1 : i < xs.length := by rw [hW.length]; omega
    have k2 : i < ys.length := by rw [hV.length]; omega
    obtain ⟨w1, hw1, Wa⟩ := hW.at (List.getElem?_eq_getElem k1)
    obtain ⟨w2, hw2, Wb⟩ := hV.at (List.getElem?_eq_getElem k2)
    obtain ⟨u1, hu1, ru1⟩ := r.get (show (xs.map V.ref)[i]? = some (V.ref xs[i]) by rw [List.getElem?_map, List.getElem?_eq_getElem k1]; rfl)
    obtain ⟨u2, hu2, ru2⟩ := r2.get (show (ys.map V.ref)[i]? = some (V.ref ys[i]) by rw [List.getElem?_map, List.getElem?_eq_getElem k2]; rfl)
    cases ru1
    cases ru2
    have e1 : its.toArray[i] = .ref xs[i] := by
      have := (List.getElem?_eq_some_iff.mp hu1).2
      simpa using this
    have e2 : its2.toArray[i] = .ref ys[i] := by
      have := (List.getElem?_eq_some_iff.mp hu2).2
      simpa using this
    rw [e1, e2, List.getD_eq_getElem?_getD, List.getD_eq_getElem?_getD, hw1, hw2]
    exact ebW M sb It Wa Wb
  · have e : TE.ans its.toArray its2.toArray (fun i => decide (ws.getD i [] = vs.getD i [])) = decide (ws = vs) := all_same l1 l2
    rw [e]
    exact ⟨(fun z => nomatch z), .bl _, H, It, rfl, q⟩
end
end W03
set_option Elab.async false
set_option linter.all false
set_option maxRecDepth 100000
set_option maxHeartbeats 1000000
namespace W03
open PySem L2 PySem.Spec PyProof.Rows WR WB
theorem rf_words {tw tl th tn : Addr} {n b : Nat} {sh : Bool} : (rf tw tl n b sh th tn).lookup ("words" : Str) = some (.ref tw) := by
  unfold rf
  exact lk_eq
theorem rf_letters {tw tl th tn : Addr} {n b : Nat} {sh : Bool} : (rf tw tl n b sh th tn).lookup ("letters" : Str) = some (.ref tl) := by
  unfold rf
  rw [lk_ne (show ¬ (("letters" : Str) = "words") by decide +kernel)]
  exact lk_eq
theorem rf_many {tw tl th tn : Addr} {n b : Nat} {sh : Bool} : (rf tw tl n b sh th tn).lookup ("many" : Str) = some (.int (n : Int)) := by
  unfold rf
  rw [lk_ne (show ¬ (("many" : Str) = "words") by decide +kernel), lk_ne (show ¬ (("many" : Str) = "letters") by decide +kernel)]
  exact lk_eq
theorem rf_bands {tw tl th tn : Addr} {n b : Nat} {sh : Bool} : (rf tw tl n b sh th tn).lookup ("bands" : Str) = some (.int (b : Int)) := by
  unfold rf
  rw [lk_ne (show ¬ (("bands" : Str) = "words") by decide +kernel), lk_ne (show ¬ (("bands" : Str) = "letters") by decide +kernel), lk_ne (show ¬ (("bands" : Str) = "many") by decide +kernel)]
  exact lk_eq
theorem rf_is_short {tw tl th tn : Addr} {n b : Nat} {sh : Bool} : (rf tw tl n b sh th tn).lookup ("is_short" : Str) = some (.bl sh) := by
  unfold rf
  rw [lk_ne (show ¬ (("is_short" : Str) = "words") by decide +kernel), lk_ne (show ¬ (("is_short" : Str) = "letters") by decide +kernel), lk_ne (show ¬ (("is_short" : Str) = "many") by decide +kernel), lk_ne (show ¬ (("is_short" : Str) = "bands") by decide +kernel)]
  exact lk_eq
theorem rf_homes {tw tl th tn : Addr} {n b : Nat} {sh : Bool} : (rf tw tl n b sh th tn).lookup ("homes" : Str) = some (.ref th) := by
  unfold rf
  rw [lk_ne (show ¬ (("homes" : Str) = "words") by decide +kernel), lk_ne (show ¬ (("homes" : Str) = "letters") by decide +kernel), lk_ne (show ¬ (("homes" : Str) = "many") by decide +kernel), lk_ne (show ¬ (("homes" : Str) = "bands") by decide +kernel), lk_ne (show ¬ (("homes" : Str) = "is_short") by decide +kernel)]
  exact lk_eq
theorem rf_nexts {tw tl th tn : Addr} {n b : Nat} {sh : Bool} : (rf tw tl n b sh th tn).lookup ("nexts" : Str) = some (.ref tn) := by
  unfold rf
  rw [lk_ne (show ¬ (("nexts" : Str) = "words") by decide +kernel), lk_ne (show ¬ (("nexts" : Str) = "letters") by decide +kernel), lk_ne (show ¬ (("nexts" : Str) = "many") by decide +kernel), lk_ne (show ¬ (("nexts" : Str) = "bands") by decide +kernel), lk_ne (show ¬ (("nexts" : Str) = "is_short") by decide +kernel), lk_ne (show ¬ (("nexts" : Str) = "homes") by decide +kernel)]
  exact lk_eq
/-- no name of a method is a field -/
theorem rf_no {tw tl th tn : Addr} {n b : Nat} {sh : Bool} {m : Str} (h : (["words", "letters", "many", "bands", "is_short", "homes", "nexts"] : List Str).all (fun x => !decide (m = x)) = true) : (rf tw tl n b sh th tn).lookup m = none := by
  have g : ∀ x ∈ (["words", "letters", "many", "bands", "is_short", "homes", "nexts"] : List Str), ¬ m = x := fun x hx => by
    have := List.all_eq_true.mp h x hx
    simpa using this
  unfold rf
  rw [lk_ne (g _ (by simp)), lk_ne (g _ (by simp)), lk_ne (g _ (by simp)), lk_ne (g _ (by simp)), lk_ne (g _ (by simp)), lk_ne (g _ (by simp)), lk_ne (g _ (by simp))]
  rfl
theorem RimsAt.same {K : PySem.W.Frag} {C CR : Addr} {H H' : Hp} {p : Addr} {xs : List Addr} {ws : List (List Int)} (h : RimsAt K C CR H p xs ws) (s : Same H H') : RimsAt K C CR H' p xs ws := by
  obtain ⟨dx, tw, tl, th, tn, h1, h2, h3, h4, h5, h6⟩ := h
  exact ⟨dx, tw, tl, th, tn, s _ _ h1, SqB.same s h2, h3.same s, SqB.same s h4, SqB.same s h5, SqB.same s h6⟩
theorem RimsAt.tyx {K : PySem.W.Frag} {mg : Str → Option Value} {C CR : Addr} {H : Hp} {p : Addr} {xs : List Addr} {ws : List (List Int)} (h : RimsAt K C CR H p xs ws) (T : TxW K mg C) (TC : TxRC K mg CR) : TyX K H (.ref p) (.ref CR) := by
  obtain ⟨dx, tw, tl, th, tn, h1, _⟩ := h
  exact .base (.ins h1 TC.cl TC.ca T.cn T.ct TC.cm)
/-! ### rims made -/
structure MkR (P : Program) (w : World) (K : PySem.W.Frag) (mg : Str → Option Value) (base : Heap) (C CR : Addr) : Prop where
  ex : ∃ (f : Addr) (fd : FuncData), Mk K CR f ∧ FnOk P w K mg base CX0 4 f fd ["self", "words"] (spInitR K C CR) ∧ Binds K fd ["self", "words"] []
def NewR (K : PySem.W.Frag) (C CR : Addr) (H : Hp) (Q : VK) (xs : List Addr) (ws : List (List Int)) : Prop := ∀ p H', Same H H' → RimsAt K C CR H' p xs ws → Q (.ref p) H'
section
variable {X : Cx} {C CR : Addr} {p pos : Pos} {e : Expr} {es : List Expr} {t : TA} {j : Nat}
theorem pe_rims {mg : Str → Option Value} (M : MkR X.prog X.w X.K X.mg X.base C CR) (T : TxRC X.K X.mg CR) (hr : Room j X.A) (hkj : 5 ≤ j) (hg : Gl X "Rims") (ha : PA X (e :: es) t)
    (he : starEach (e :: es) X.env = (false, eval e X.env) :: starEach es X.env := by rfl) (hpl : (backTo pos (starEach es X.env)).any (·.1) = false := by rfl) :
    PE X (.Call (.Name "Rims" p) (e :: es) [] pos) (tMake CR (spInitR X.K C CR) [] E0 t) := by
  obtain ⟨f, fd, M, F, hb⟩ := M.ex
  exact pe_make M F (hr.mono hkj) hg T.mgR hb .nil pass0 ha (by decide) he hpl
end
theorem rims_at {K : PySem.W.Frag} {C CR : Addr} {H1 : Hp} {q x dx : Addr} {xs : List Addr} {ws : List (List Int)} {G : Hp → Prop} {E : XK} (nx : H1 x = none) (ndx : H1 dx = none) (hq : SqL K H1 q (xs.map V.ref)) (hW : Wds K C H1 xs ws) (ok : RimOk ws) (k : ∀ H', Same H1 H' → RimsAt K C CR H' x xs ws → G H') :
    spInitR K C CR [.ref x, .ref q] (L2.upd (L2.upd H1 dx (.own x)) x (.ins CR dx [])) (fun v H2 => v = .non ∧ G H2) E := by
  have s0 : Same H1 (L2.upd (L2.upd H1 dx (.own x)) x (.ins CR dx [])) := fun b o e => by
    rw [upd_ne (ne_of_none e nx), upd_ne (ne_of_none e ndx)]
    exact e
  exact ⟨H1, x, dx, q, xs, ws, rfl, s0, nx, upd_same, hq, hW, ok, fun H' s' W' => ⟨rfl, k H' s' W'⟩⟩
/-! ### rims held against one another, and their places -/
abbrev sEqR : Stmt := inClass (top 39) 1
abbrev sNeedPl : Stmt := top 37
def spEqR (K : PySem.W.Frag) (C CR : Addr) : Sp := fun vs H Q _ => ∃ (p q : Addr) (xs ys : List Addr) (ws us : List (List Int)), vs = [.ref p, .ref q] ∧ RimsAt K C CR H p xs ws ∧ RimsAt K C CR H q ys us ∧ Q (.bl (decide (ws = us))) H
def spNeedPl (K : PySem.W.Frag) (C CR : Addr) : Sp := fun vs H Q _ => ∃ (p : Addr) (i : Int) (xs : List Addr) (ws : List (List Int)), vs = [.ref p, .int i] ∧ RimsAt K C CR H p xs ws ∧ 0 ≤ i ∧ i < ws.flatten.length ∧ Q .non H
theorem hmF_len : ∀ (ws : List (List Int)) (f : Nat), (hmF f ws).length = ws.flatten.length
  | [], _ => rfl
  | w :: r, f => by
    unfold hmF
    rw [List.length_append, hmF_len r, List.flatten_cons, List.length_append, List.length_replicate]
section
variable {P : Program} {w : World} {K : PySem.W.Frag} {mg : Str → Option Value} {base : Heap} {C CR : Addr}
theorem scEqR : FnScope ["self", "other"] ["self", "other"] (defScope sEqR) := ⟨rfl, rfl, rfl, by decide +kernel, rfl, by decide +kernel, by decide +kernel⟩
theorem ok_eqR {f : Addr} {fd : FuncData} (F : Fun K "__eq__" "Rims.__eq__" sEqR f fd) (T : TxW K mg C) (TC : TxRC K mg CR) (M : EqW P w K mg base C) : FnOk P w K mg base CX0 3 f fd ["self", "other"] (spEqR K C CR) := by
  refine F.ok scEqR (fun vs H Q E h => ?_) (fun cdv A outer s H vs Q E hr h => ?_)
  · obtain ⟨p, q, xs, ys, ws, us, rfl, _⟩ := h
    rfl
  · obtain ⟨p, q, xs, ys, ws, us, rfl, R1, R2, k⟩ := h
    refine ⟨_, pss_one (ps_ret (pe_and (pe_callB call_isi (by rfl) T.isin (by decide +kernel) (pa_cons (pv 1) (pa_cons (pe_glob (v := .ref CR) (by rfl) TC.mgR rfl) pa_nil)))
      (pe_one (pe_cmpR (op_eqWT M hr (by decide)) (pe_fld (pv 0) rfl) (pe_fld (pv 1) rfl) (nomark _))))), ?_⟩
    refine ⟨_, rfl, _, _, _, _, _, rfl, .own CR, R2.tyx T TC, kit_self CR, _, rfl, ?_⟩
    refine iteT ?_
    obtain ⟨dx, tw, tl, th, tn, h1, h2, h3, _⟩ := R1
    obtain ⟨dy, uw, ul, uh, un, g1, g2, g3, _⟩ := R2
    exact ⟨_, rfl, p, CR, dx, _, _, rfl, h1, TC.cl, TC.n1, rf_words, _, rfl, q, CR, dy, _, _, rfl, g1, TC.cl, TC.n1, rf_words, tw, uw, xs, ys, ws, us, rfl, rfl, h2.sq, g2.sq, h3, g3, k⟩
theorem scNeedPl : FnScope ["rims", "value"] ["rims", "value"] (defScope sNeedPl) := ⟨rfl, rfl, rfl, by decide +kernel, rfl, by decide +kernel, by decide +kernel⟩
theorem ok_needPl {f : Addr} {fd : FuncData} (F : Fun K "need_place" "need_place" sNeedPl f fd) (TC : TxRC K mg CR) (GW : Cal P w K mg base "is_within" 2 ["value", "least", "most"] spWithin) : FnOk P w K mg base CX0 3 f fd ["rims", "value"] (spNeedPl K C CR) := by
  refine F.ok scNeedPl (fun vs H Q E h => ?_) (fun cdv A outer s H vs Q E hr h => ?_)
  · obtain ⟨p, i, xs, ws, rfl, _⟩ := h
    rfl
  · obtain ⟨p, i, xs, ws, rfl, R1, i0, i1, k⟩ := h
    refine ⟨_, pss_one (ps_if (pt_not (pt_val (pe_cal GW hr (by decide) (by rfl) (pa_cons (pv 1) (pa_cons pe_int (pa_cons (pe_op op_sub (pe_fld (pv 0) rfl) pe_int) pa_nil)))))) (pss_one ps_never) pss_nil), ?_⟩
    obtain ⟨dx, tw, tl, th, tn, h1, _⟩ := R1
    refine ⟨_, rfl, _, rfl, p, CR, dx, _, _, rfl, h1, TC.cl, TC.n3, rf_many, _, _, rfl, rfl, ?_⟩
    refine ⟨.int i, .int 0, .int ((ws.flatten.length : Int) - 1), "int", rfl, .int i, .inr ⟨_, rfl⟩, .inr ⟨_, rfl⟩, _, rfl, ?_⟩
    refine no_ne ?_ k
    show (decide ((0 : Int) ≤ i) && decide (i ≤ (ws.flatten.length : Int) - 1)) = true
    rw [decide_eq_true i0, decide_eq_true (show i ≤ (ws.flatten.length : Int) - 1 by omega)]
    rfl
end
end W03
set_option Elab.async false
set_option linter.all false
set_option maxRecDepth 100000
set_option maxHeartbeats 1000000
namespace W03
open PySem L2 PySem.Spec PyProof.Rows WR WB
/-! ### rims == rims, rims != rims -/
structure EqR (P : Program) (w : World) (K : PySem.W.Frag) (mg : Str → Option Value) (base : Heap) (C CR : Addr) : Prop where
  ex : ∃ (f : Addr) (fd : FuncData), FnOk P w K mg base CX0 3 f fd ["self", "other"] (spEqR K C CR) ∧ PySem.W.findIn K (.ref CR) "__eq__" = some (some (.ref f)) ∧ PySem.W.isFn K (.ref f) = true ∧ Binds K fd ["self", "other"] []
def rEqR (K : PySem.W.Frag) (C CR : Addr) : R2 := fun x y H Q => ∃ (p q : Addr) (xs ys : List Addr) (ws us : List (List Int)), x = .ref p ∧ y = .ref q ∧ RimsAt K C CR H p xs ws ∧ RimsAt K C CR H q ys us ∧ Q (.bl (decide (ws = us))) H
def rNeR (K : PySem.W.Frag) (C CR : Addr) : R2 := fun x y H Q => ∃ (p q : Addr) (xs ys : List Addr) (ws us : List (List Int)), x = .ref p ∧ y = .ref q ∧ RimsAt K C CR H p xs ws ∧ RimsAt K C CR H q ys us ∧ Q (.bl (!decide (ws = us))) H
section
variable {X : Cx} {C CR : Addr} {pins : List (Addr × Obj)} {σ : L2.St} {H : Hp} {s : Shared}
theorem callEqR (M : EqR X.prog X.w X.K X.mg X.base C CR) {A : Around} (sb : Sub X 3 A) (I : Inv X pins σ H s) {a b : Addr} {xs ys : List Addr} {ws us : List (List Int)} (R1 : RimsAt X.K C CR H a xs ws) (R2 : RimsAt X.K C CR H b ys us) :
    ∃ f : Addr, PySem.W.findIn X.K (.ref CR) "__eq__" = some (some (.ref f)) ∧ PySem.W.isFn X.K (.ref f) = true ∧ wpAny (model X.prog X.w) A (call (.ref f) [.ref a, .ref b]) (fun r s' => r = .bool (decide (ws = us)) ∧ Inv X pins σ H s') X.xe s := by
  obtain ⟨f, fd, F, hs, hf, hb⟩ := M.ex
  refine ⟨f, hs, hf, ?_⟩
  have hsp : spEqR X.K C CR [.ref a, .ref b] H (fun v H' => v = .bl (decide (ws = us)) ∧ H' = H) E0 := ⟨a, b, xs, ys, ws, us, rfl, R1, R2, rfl, rfl⟩
  have e0 : Env0 X.prog X.w X.K X.mg X.base A X.stack s H := by
    have e := I.env0
    exact ⟨by rw [sb.fr]; exact e.frames, e.mod, e.bs, e.bsz, e.funs, e.frf, e.hok, e.bare⟩
  have hl := F.len _ _ _ _ hsp
  have r2 : Vals [V.ref a, V.ref b] [Value.ref a, Value.ref b] := .cons rfl (.cons rfl .nil)
  refine wpAny_call (codeAny_mono (F.run A X.stack s H ⟨[.ref a, .ref b], []⟩ [.ref a, .ref b] [.ref a, .ref b] _ E0 sb.room e0 (by
    have := hb s [.ref a, .ref b] I.kIn (by simpa using hl)
    simpa using this) r2 hsp) fun r s' hq => ?_)
  cases r with
  | error e => exact pass0 pins σ H s e s' I hq
  | ok fl =>
    cases fl with
    | ret w =>
      obtain ⟨z, H', I', rz, ez, eH⟩ := I.after hq
      subst ez eH
      cases rz
      exact ⟨rfl, I'⟩
    | next => exact False.elim hq
    | brk => exact False.elim hq
    | cont => exact False.elim hq
theorem op_eqR (M : EqR X.prog X.w X.K X.mg X.base C CR) {j : Nat} (hr : Room j X.A) (hj : 3 ≤ j) : OpR X (compareOp .Eq) (rEqR X.K C CR) := by
  intro pins s σ H x y u v Q I rx ry d
  obtain ⟨a, b, xs, ys, ws, us, rfl, rfl, R1, R2, hq⟩ := d
  cases rx
  cases ry
  obtain ⟨dx, tw, tl, th, tn, ha, _⟩ := id R1
  obtain ⟨dy, uw, ul, uh, un, hb', _⟩ := id R2
  obtain ⟨mA, J, _⟩ := ins_get I.hok ha
  obtain ⟨mB, J', _⟩ := ins_get I.hok hb'
  obtain ⟨od, J, _⟩ := J.look
  obtain ⟨od', J', _⟩ := J'.look
  obtain ⟨m, hF⟩ := I.fr
  have rm : Room 3 X.A := hr.mono hj
  obtain ⟨f, hs, hf, hc⟩ := callEqR M ⟨rm, rfl⟩ I R1 R2
  show wpAny (model X.prog X.w) X.A (richCompare .Eq (.ref a) (.ref b)) (EP X pins σ Q) X.xe s
  refine PySem.W.cmp_K (op := .Eq) (tb := .ref CR) rm.units0 hF I.ok.mod.kin J J'.type (by simp [PySem.W.notFirst]) hs hf (wpAny_mono hc (fun r s' q => ?_) fun _ _ z => z)
  obtain ⟨rfl, I'⟩ := q
  exact ⟨.bl _, H, I', rfl, hq⟩
theorem op_neR (M : EqR X.prog X.w X.K X.mg X.base C CR) (hne : PySem.W.findIn X.K (.ref CR) "__ne__" = some (some (.builtin "object.__ne__"))) (hmr : PySem.W.mroIn X.K CR (.type "object") = some true) {j : Nat} (hr : Room j X.A) (hj : 4 ≤ j) : OpR X (compareOp .NotEq) (rNeR X.K C CR) := by
  intro pins s σ H x y u v Q I rx ry d
  obtain ⟨a, b, xs, ys, ws, us, rfl, rfl, R1, R2, hq⟩ := d
  cases rx
  cases ry
  obtain ⟨dx, tw, tl, th, tn, ha, _⟩ := id R1
  obtain ⟨dy, uw, ul, uh, un, hb', _⟩ := id R2
  obtain ⟨mA, J, _⟩ := ins_get I.hok ha
  obtain ⟨mB, J', _⟩ := ins_get I.hok hb'
  obtain ⟨od, J, _⟩ := J.look
  obtain ⟨od', J', _⟩ := J'.look
  have rm4 : Room 4 X.A := hr.mono hj
  obtain ⟨f, hs, hf, hc⟩ := callEqR (A := X.A.in1) M ⟨rm4.in1, rfl⟩ I R1 R2
  show wpAny (model X.prog X.w) X.A (richCompare .NotEq (.ref a) (.ref b)) (EP X pins σ Q) X.xe s
  refine NeK.rc_ne (by have := rm4.in1.units0; exact this) I.kIn J J' hmr hs hf hne (wpAny_mono hc (fun r s' q => ?_) fun _ _ z => z)
  obtain ⟨rfl, I'⟩ := q
  exact ⟨_, rfl, .bl _, H, I', rfl, hq⟩
end
end W03
set_option Elab.async false
set_option linter.all false
set_option maxRecDepth 100000
set_option maxHeartbeats 1000000
namespace W03
open PySem L2 PySem.Spec PyProof.Rows WR WB
/-! ### str of rims -/
abbrev sStrR : Stmt := inClass (top 39) 2
def txtR (ws : List (List Int)) : Str := Txt.join (Str.ofString " / ") (ws.map txt)
def spStrR (K : PySem.W.Frag) (C CR : Addr) : Sp := fun vs H Q _ => ∃ (p : Addr) (xs : List Addr) (ws : List (List Int)), vs = [.ref p] ∧ RimsAt K C CR H p xs ws ∧ RimOk ws ∧ ∀ H', Same H H' → Q (.str (txtR ws)) H'
theorem all_str {vs : List V} {ws : List (List Int)} {f : List Int → Str} (h : All2 (fun v u => v = V.str (f u)) vs ws) : vs = (ws.map f).map V.str := by
  induction h with
  | nil => rfl
  | cons e _ ih => rw [e, ih]; rfl
theorem txts_len : ∀ ws : List (List Int), ((ws.map txt).map (·.length)).sum ≤ 3 * ws.flatten.length + ws.length
  | [] => Nat.zero_le _
  | w :: r => by
    have h1 := txt_len (ns := w)
    have h2 := txts_len r
    simp only [List.map_cons, List.sum_cons, List.flatten_cons, List.length_append, List.length_cons]
    omega
theorem Lts.word {ws : List (List Int)} (h : Lts ws.flatten) {w : List Int} (hw : w ∈ ws) : Lts w := fun x hx => h x (List.mem_flatten.mpr ⟨w, hw, hx⟩)
theorem word_le {ws : List (List Int)} {w : List Int} (hw : w ∈ ws) : w.length ≤ ws.flatten.length := by
  obtain ⟨i, hi, e⟩ := List.mem_iff_getElem.mp hw
  have := flat_take (ws := ws) (i := i) (w := w) (by rw [List.getElem?_eq_getElem hi, e])
  omega
section
variable {P : Program} {w : World} {K : PySem.W.Frag} {mg : Str → Option Value} {base : Heap} {C CR : Addr}
theorem scStrR : FnScope ["self", "word"] ["self"] (defScope sStrR) := ⟨rfl, rfl, rfl, by decide +kernel, rfl, by decide +kernel, by decide +kernel⟩
theorem ok_strR {f : Addr} {fd : FuncData} (F : Fun K "__str__" "Rims.__str__" sStrR f fd) (TC : TxRC K mg CR) (hstr : mg "str" = none) (M : MStr.Spe P w K mg base C "__str__" 2 (spStrM K C)) : FnOk P w K mg base CX0 5 f fd ["self"] (spStrR K C CR) := by
  refine F.ok scStrR (fun vs H Q E h => ?_) (fun cdv A outer s H vs Q E hr h => ?_)
  · obtain ⟨p, xs, ws, rfl, _⟩ := h
    rfl
  · obtain ⟨p, xs, ws, rfl, R1, ⟨l1, l4, hne, l24, hl, hb⟩, k⟩ := h
    refine ⟨_, pss_one (ps_ret (pe_join pe_str (pe_lc (own := [("word", 1)]) (g := gName 1) (tt := tYes) rfl scStrR.nd (pi_tup (pe_fld (pv 0) rfl)) (blkOk_by (N := ["self", "word"]) (sc := defScope sStrR) (by decide +kernel)) (fun _ _ _ _ _ => pg_name (i := 1) scStrR.nd rfl (Or.inl rfl)) (fun _ _ _ _ _ => pts_nil)
        (fun _ _ _ _ _ => pe_callTy (MStr.call_strO M hr (by decide)) (by rfl) hstr (by decide +kernel) (pa_cons (pv 1) pa_nil))))), ?_⟩
    obtain ⟨dx, tw, tl, th, tn, h1, h2, h3, _⟩ := R1
    have lxw : xs.length = ws.length := h3.length
    refine ⟨⟨_, rfl⟩, lc_in ?_⟩
    refine ⟨_, rfl, p, CR, dx, _, _, rfl, h1, TC.cl, TC.n1, rf_words, tw, rfl, ⟨_, h2.sq⟩, ?_⟩
    refine lcM (walk_tup (K := K) (a := tw) (xs := xs.map V.ref)) ws (fun _ _ v u => v = V.str (txt u)) (fun _ _ _ _ _ h _ => h) (fun _ _ _ _ _ _ _ h => h) (by rw [List.length_map]; omega) (by rw [List.length_map]; exact lxw) (fun H s => WR.Same.seqT s h2.sq) ?_ (fun x σ1 H A B k h => gName_mono k h) ?_
    · intro i x u hx hu D2 H2 hD2 _ s2 Qy ky
      obtain ⟨q, hq, rfl⟩ : ∃ q, xs[i]? = some q ∧ x = V.ref q := by
        rw [List.getElem?_map] at hx
        cases e : xs[i]? with
        | none => rw [e] at hx; cases hx
        | some q => rw [e] at hx; exact ⟨q, rfl, (Option.some.inj hx).symm⟩
      obtain ⟨u', hu', Wq⟩ := h3.at hq
      obtain rfl : u' = u := Option.some.inj (hu'.symm.trans hu)
      have mem : u' ∈ ws := List.mem_of_getElem? hu
      have Wq2 := Wq.same s2
      obtain ⟨dx1, tl1, tk, ks, w1, _⟩ := id Wq2
      exact ⟨rfl, _, rfl, q, dx1, _, rfl, w1, q, u', rfl, Wq2, by have := word_le mem; omega, hl.word mem, fun H3 s3 => ⟨_, rfl, ky _ H3 s3 rfl⟩⟩
    · intro D H3 vs hD s3 h3' hvs
      rw [all_str hvs] at h3'
      refine ⟨_, D, ws.map txt, rfl, rfl, .inl (SqL.of h3'), ?_, k H3 s3⟩
      have h1 := txts_len ws
      have h2 : (ws.map txt).length = ws.length := List.length_map ..
      rw [h2]
      show _ + ws.length * 3 ≤ _
      exact Nat.le_trans (show _ ≤ 100 by omega) (by decide)
end
end W03
set_option Elab.async false
set_option linter.all false
set_option maxRecDepth 100000
set_option maxHeartbeats 2000000
/-! try with several except clauses, each with a name or without. -/
namespace TM
open PySem PySem.Spec PyProof.Rows L2
/-- a clause: its class, the slot of its name if it has one, what its suite says -/
structure Cla where
  of : Value
  slot : Option Nat
  say : Addr → Value → Option Addr → TS
def offS : Option Nat → L2.St → L2.St
  | none, σ => σ
  | some i, σ => σ.set i none
def onS : Option Nat → Addr → L2.St → L2.St
  | none, _, σ => σ
  | some i, a, σ => σ.set i (some (.ref a))
def endsS (o : Option Nat) (D : Ends) : Ends := { nx := fun σ H => D.nx (offS o σ) H, rt := D.rt, bk := fun σ H => D.bk (offS o σ) H, ct := fun σ H => D.ct (offS o σ) H }
/-- the first clause that fits takes it -/
def wish (K : PySem.W.Frag) (out : WX) (D : Ends) : List Cla → WX
  | [] => out
  | q :: r => fun cls d σ H => ∃ b, PySem.W.exmOne K cls q.of = some b ∧ (b = true → ∀ a, H a = none → q.say a cls d (endsS q.slot D) (onS q.slot a σ) H) ∧ (b = false → wish K out D r cls d σ H)
def Says (X : Cx) (bs : List Stmt) (say : Addr → Value → Option Addr → TS) : Prop :=
  ∀ (a : Addr) (o : Obj) (cls : Value) (d : Option Addr) (pn : List (Addr × Obj)), Zc cls d o → (∃ vs, o.data = .fields vs) → PSs (X.suite a ((a, o) :: pn)) bs (say a cls d)
inductive Fit (X : Cx) : ExceptHandler → Cla → Prop
  | bare {x : Str} {c : Value} {say : Addr → Value → Option Addr → TS} {b : Stmt} {bs : List Stmt} {p1 p2 : Pos} (hc : Names X x c) (hs : Says X (b :: bs) say) : Fit X (.ExceptHandler (some (.Name x p1)) none (b :: bs) p2) ⟨c, none, say⟩
  | named {x n : Str} {i : Nat} {c : Value} {say : Addr → Value → Option Addr → TS} {b : Stmt} {bs : List Stmt} {p1 p2 : Pos} (hN : X.N.Nodup) (hi : X.N[i]? = some n) (hl : X.env.kindOf n = some .local) (hc : Names X x c) (hs : Says X (b :: bs) say) :
      Fit X (.ExceptHandler (some (.Name x p1)) (some n) (b :: bs) p2) ⟨c, some i, say⟩
inductive Fits (X : Cx) : List ExceptHandler → List Cla → Prop
  | nil : Fits X [] []
  | cons {h : ExceptHandler} {q : Cla} {hs : List ExceptHandler} {l : List Cla} (f : Fit X h q) (r : Fits X hs l) : Fits X (h :: hs) (q :: l)
/-- an exception that flies over X's frame, with the state that it left -/
structure Held (X : Cx) (pins : List (Addr × Obj)) (σ : L2.St) (H : Hp) (cls : Value) (d : Option Addr) (a : Addr) (B : Heap) (s0 s : Shared) : Prop where
  inv : Inv X pins σ H s0
  old : ∀ b o, s0.heap.get? b = some o → b ∉ frs X.stack → B.get? b = some o
  up : s0.heap.UpToSlots s.heap
  fly : HandSPX.FlyingZ B (X.env :: X.outer) a (Zc cls d) s.heap
  os : s.os = s0.os
  bare : AllBare s.gens
  free : H a = none
section
variable {X : Cx} {pins : List (Addr × Obj)} {σ : L2.St} {H : Hp} {D : Ends} {out : WX} {cls : Value} {d : Option Addr} {a : Addr} {B : Heap} {s0 s : Shared}
theorem Held.now (h : Held X pins σ H cls d a B s0 s) : Inv X pins σ H s := h.inv.landed h.old h.fly.1 h.up h.os h.bare
theorem Held.pinned (h : Held X pins σ H cls d a B s0 s) (hf : X.env.frame = some X.env.locals) : ∃ o : Obj, s.heap.get? a = some o ∧ Zc cls d o ∧ (∃ vs, o.data = .fields vs) ∧ Inv (X.suite a ((a, o) :: (X.pn ++ pins))) [] σ H s := by
  obtain ⟨o, vs, ea, z, ed⟩ := h.fly.there
  have out_ : a ∉ frs (X.env :: X.outer) := fun hm => by
    obtain ⟨_, o', e', nf⟩ := h.fly.2.2.1.mem hm
    rw [ea] at e'
    cases e'
    exact nf _ ed
  have n1 : a ≠ X.env.locals := fun z => out_ (List.mem_filterMap.mpr ⟨X.env, List.mem_cons_self, by rw [hf, z]⟩)
  have n2 : a ∉ X.fs := fun hm => by
    obtain ⟨e, he, q⟩ := List.mem_filterMap.mp hm
    exact out_ (List.mem_filterMap.mpr ⟨e, List.mem_cons_of_mem _ he, q⟩)
  exact ⟨o, ea, z, ⟨vs, ed⟩, h.now.suite ea ed h.free n1 n2⟩
/-- the clause's class is named, and held against the exception's -/
theorem Held.asked (h : Held X pins σ H cls d a B s0 s) (hf : X.env.frame = some X.env.locals) {x : Str} {c : Value} {b : Bool} {p : Pos} {Q : Bool → Shared → Prop} {E : Value → Shared → Prop} (hc : Names X x c) (eb : PySem.W.exmOne X.K cls c = some b)
    {G : Value → Sem Bool} (hG : ∀ {Q' : Bool → Shared → Prop}, Q' b s → wpAny (model X.prog X.w) (X.A.mark (some (.ref a))) (G c) Q' E s) (k : Q b s) :
    wpAny (model X.prog X.w) (X.A.mark (some (.ref a))) (eval (.Name x p) X.env >>= G) Q E s := by
  obtain ⟨o, ea, z, ed, S⟩ := h.pinned hf
  refine wpAny_bind ?_
  obtain ⟨g1, g2, m | ⟨m, v, nn⟩⟩ := hc
  · exact ld_glob (X := X.suite a ((a, o) :: (X.pn ++ pins))) S g1 m (hG k) g2
  · exact ld_blt (X := X.suite a ((a, o) :: (X.pn ++ pins))) S g1 m v (hG k) nn g2
theorem Held.pass (h : Held X pins σ H cls d a B s0 s) (hs : X.stack = X.env :: X.outer) (hf : X.env.frame = some X.env.locals) (tk : Takes X out) (w : out cls d σ H) : wpAny (model X.prog X.w) X.A (handleBy (.ref a) X.env []) (SP X pins D) X.xe s := by
  obtain ⟨_, _, _, oe, vs, T, oT, ts', he, hz, hd, h1, _⟩ := id h.fly
  refine wpAny_handleBy_nil ?_
  unfold PySem.passOn
  refine wpAny_bind (wpAny_field he hd h1 ?_)
  rw [if_neg (show ¬ ((Value.ref T == Value.none) = true) from by simp)]
  have last : wpAny (model X.prog X.w) X.A (setFlight (.ref a) X.env.frame) (fun _ s4 => wpAny (model X.prog X.w) X.A (throw (.ref a) : Sem Flow) (SP X pins D) X.xe s4) X.xe s := by
    rw [hf]
    exact HandSPX.setFlight_upZ h.fly fun h4 hh4 up4 => wpAny_throw (tk _ _ ⟨a, B, s0, pins, σ, H, cls, d, rfl, h.inv, h.old, h.up.trans up4, .inr (.inr (by rw [hs]; exact hh4)), h.free, h.os, h.bare, w⟩)
  first
    | exact wpAny_bind (wpAny_pure (wpAny_bind last))
    | exact wpAny_bind last
theorem Held.goes (h : Held X pins σ H cls d a B s0 s) (hs : X.stack = X.env :: X.outer) (hf : X.env.frame = some X.env.locals) (tk : Takes X out) {hds : List ExceptHandler} {l : List Cla} (fs : Fits X hds l) (w : wish X.K out D l cls d σ H) :
    wpAny (model X.prog X.w) X.A (handleBy (.ref a) X.env hds) (SP X pins D) X.xe s := by
  induction fs with
  | nil => exact h.pass hs hf tk w
  | @cons hd q hds l f r ih =>
    obtain ⟨b, eb, yes, no⟩ := w
    obtain ⟨o, ea, z, ed, S⟩ := h.pinned hf
    have look : PySem.W.Looks (model X.prog X.w) s.heap (typeOf (.ref a)) cls := fun A Q E s' k q => wpAny_typeOf_ref (k _ _ ea) (by rw [z.1]; exact q)
    have lm := PySem.W.exm_one (M := model X.prog X.w) h.now.kIn look eb
    have named : ∀ {x : Str} {c : Value} {p : Pos} {Q : Value → Shared → Prop} {E : Value → Shared → Prop}, Names X x c → Q c s → wpAny (model X.prog X.w) (X.A.mark (some (.ref a))) (eval (.Name x p) X.env) Q E s := fun {x c p Q E} hc k => by
      obtain ⟨g1, g2, m | ⟨m, v, nn⟩⟩ := hc
      · exact ld_glob (X := X.suite a ((a, o) :: (X.pn ++ pins))) S g1 m k g2
      · exact ld_blt (X := X.suite a ((a, o) :: (X.pn ++ pins))) S g1 m v k nn g2
    cases f with
    | bare hc say =>
      refine wpAny_handleBy_cons (codeAny_handlers_test (named hc (lm.here ?_))) (by intro q; cases q)
      cases b with
      | false => exact ih (no rfl)
      | true =>
        refine codeAny_handlers_suite (HandSPX.lands_againZ h.fly fun h4 fl4 up4 => ?_)
        have h' : Held X pins σ H cls d a B s0 { s with heap := h4 } := ⟨h.inv, h.old, h.up.trans up4, fl4, h.os, h.bare, h.free⟩
        obtain ⟨o4, _, z4, ed4, S4⟩ := h'.pinned hf
        refine wpAny_mono ((say a o4 cls d (X.pn ++ pins) z4 ed4).run [] _ _ H _ S4 (yes rfl a h.free)) (fun f s6 hsp => ?_) (fun _ _ z => False.elim z)
        have ok := h.inv.ok
        cases f with
        | next => obtain ⟨σ6, H6, S6, q6⟩ := hsp; exact ⟨_, _, S6.unsuite ok, q6⟩
        | brk => obtain ⟨σ6, H6, S6, q6⟩ := hsp; exact ⟨_, _, S6.unsuite ok, q6⟩
        | cont => obtain ⟨σ6, H6, S6, q6⟩ := hsp; exact ⟨_, _, S6.unsuite ok, q6⟩
        | ret u => obtain ⟨v6, σ6, H6, S6, r6, q6⟩ := hsp; exact ⟨_, _, _, S6.unsuite ok, r6, q6⟩
    | @named x n i c say0 b0 bs p1 p2 hN hi hl hc say =>
      refine wpAny_handleBy_cons (codeAny_handlers_test (named hc (lm.here ?_))) (by intro q; cases q)
      cases b with
      | false => exact ih (no rfl)
      | true =>
        refine codeAny_handlers_suite_as (HandSPX.lands_againZ h.fly fun h4 fl4 up4 => ?_)
        have h' : Held X pins σ H cls d a B s0 { s with heap := h4 } := ⟨h.inv, h.old, h.up.trans up4, fl4, h.os, h.bare, h.free⟩
        obtain ⟨o4, _, z4, ed4, S4⟩ := h'.pinned hf
        refine store_ok (X := X.suite a ((a, o4) :: (X.pn ++ pins))) (v := .ref a) S4 hN hi (.inl hl) rfl (fun s5 S5 => ?_) (.inr hl)
        refine wpAny_mono ((say a o4 cls d (X.pn ++ pins) z4 ed4).run [] s5 _ H _ S5 (yes rfl a h.free)) (fun f s6 hsp => ?_) (fun _ _ z => False.elim z)
        have ok := h.inv.ok
        have end_ : ∀ {σ6 : L2.St} {H6 : Hp} {Q : Shared → Prop}, Inv (X.suite a ((a, o4) :: (X.pn ++ pins))) [] σ6 H6 s6 → (∀ s7, Inv X pins (σ6.set i none) H6 s7 → Q s7) →
            wpAny (model X.prog X.w) X.A (do bindName X.env n .none; unbindBehindTheSuite X.env n p2) (fun _ s7 => Q s7) X.xe s6 := fun {σ6 H6 Q} S6 hq => gone_ok (S6.unsuite ok) hN hi hl hq
        cases f with
        | next => obtain ⟨σ6, H6, S6, q6⟩ := hsp; exact end_ S6 fun s7 J7 => ⟨_, _, J7, q6⟩
        | brk => obtain ⟨σ6, H6, S6, q6⟩ := hsp; exact end_ S6 fun s7 J7 => ⟨_, _, J7, q6⟩
        | cont => obtain ⟨σ6, H6, S6, q6⟩ := hsp; exact end_ S6 fun s7 J7 => ⟨_, _, J7, q6⟩
        | ret u => obtain ⟨v6, σ6, H6, S6, r6, q6⟩ := hsp; exact end_ S6 fun s7 J7 => ⟨_, _, _, J7, r6, q6⟩
end
section
variable {X : Cx} {body : List Stmt} {h0 : ExceptHandler} {hds : List ExceptHandler} {l : List Cla} {pos : Pos} {tb : WX → TS} {out : WX}
theorem ps_try_ms (hs : X.stack = X.env :: X.outer) (hf : X.env.frame = some X.env.locals) (tk : Takes X out)
    (hb : ∀ (W : WX) (pn : List (Addr × Obj)) (xe : Value → Shared → Prop), Takes (X.tr pn xe) W → PassesOwn (model X.prog X.w) X.A X.env xe → PSs (X.tr pn xe) body (tb W))
    (fs : Fits X (h0 :: hds) l) : PS X (.Try body (h0 :: hds) [] [] pos) (fun D σ H => tb (wish X.K out D l) D σ H) := by
  refine ⟨fun pins s σ H D I h => ?_⟩
  have ok := I.ok
  have hfr : X.A.frames = some (X.env :: X.outer) := by rw [ok.frames, hs]
  refine wpAny_Try_except (wpAny_mono ((hb (wish X.K out D l) (X.pn ++ pins) (fun e s₁ => wpAny (model X.prog X.w) X.A (noteFrame e X.env) (fun _ s₂ => wpAny (model X.prog X.w) X.A (setFlight e none) (fun _ s₃ =>
    wpAny (model X.prog X.w) X.A (handleBy e X.env (h0 :: hds)) (SP X pins D) X.xe s₃) X.xe s₂) X.xe s₁) (fun u s' xx => ?_) PassesOwn.looking).run [] s σ H D (I.toTry _) h) (fun f s1 hsp => ?_) (fun e s1 he => he))
  · obtain ⟨a, B, s0, pins', σ', H', cls, d, rfl, J', old, up, sky, free, os, bare, w⟩ := xx
    have sky' : Sky B (X.env :: X.outer) a (Zc cls d) X.env.locals s'.heap := by rw [← hs]; exact sky
    exact Sky.land Zc.steady hfr hf sky' fun h3 fl3 up3 => Held.goes (s := { s' with heap := h3 }) ⟨J'.ofTry ok, old, up.trans up3, fl3, os, bare, free⟩ hs hf tk fs w
  · cases f with
    | next => obtain ⟨σ', H', J', q⟩ := hsp; exact wpAny_execs_nil ⟨σ', H', J'.ofTry ok, q⟩
    | brk => obtain ⟨σ', H', J', q⟩ := hsp; exact ⟨σ', H', J'.ofTry ok, q⟩
    | cont => obtain ⟨σ', H', J', q⟩ := hsp; exact ⟨σ', H', J'.ofTry ok, q⟩
    | ret u => obtain ⟨v, σ', H', J', r, q⟩ := hsp; exact ⟨v, σ', H', J'.ofTry ok, r, q⟩
end
end TM
set_option Elab.async false
set_option linter.all false
set_option maxRecDepth 100000
set_option maxHeartbeats 600000
namespace W03
open PySem L2 PySem.Spec PyProof.Rows WR WB
/-! ### what an item of a text tells -/
def lofL : List Nat → Option Int
  | [c] => if 97 ≤ c ∧ c ≤ 122 then some ((c : Int) - 96) else none
  | [c, d] => if d = 39 ∧ 97 ≤ c ∧ c ≤ 122 then some (-((c : Int) - 96)) else none
  | _ => none
theorem lofL1 (c : Nat) : lofL [c] = if 97 ≤ c ∧ c ≤ 122 then some ((c : Int) - 96) else none := rfl
theorem lofL2 (c d : Nat) : lofL [c, d] = if d = 39 ∧ 97 ≤ c ∧ c ≤ 122 then some (-((c : Int) - 96)) else none := rfl
def lof (z : Str) : Option Int := lofL z.cps.toList
def optV : Option Int → V
  | some i => .int i
  | none => .non
abbrev Fit (z : Str) : Prop := (∀ c ∈ z.cps.toList, c < 128) ∧ z.length ≤ 4000
theorem find_all : ∀ c, c < 128 → Txt.find alphS ⟨#[c]⟩ = if 97 ≤ c ∧ c ≤ 122 then (c : Int) - 97 else -1 := by decide +kernel
theorem find_no : Txt.find alphS ⟨#[]⟩ = 0 := by decide +kernel
theorem eta (z : Str) : z = ⟨z.cps.toList.toArray⟩ := by
  cases z
  rfl
theorem lof_itm {i : Int} (h1 : 1 ≤ i.natAbs) (h2 : i.natAbs ≤ 26) : lof (itm i) = some i := by
  unfold lof itm
  split
  · show (if 97 ≤ 96 + i.natAbs ∧ 96 + i.natAbs ≤ 122 then some (((96 + i.natAbs : Nat) : Int) - 96) else none) = some i
    rw [if_pos (by omega)]
    congr 1
    omega
  · show (if 39 = 39 ∧ 97 ≤ 96 + i.natAbs ∧ 96 + i.natAbs ≤ 122 then some (-(((96 + i.natAbs : Nat) : Int) - 96)) else none) = some i
    rw [if_pos (by omega)]
    congr 1
    omega
theorem itm_lof {z : Str} {i : Int} (h : lof z = some i) : itm i = z ∧ 1 ≤ i.natAbs ∧ i.natAbs ≤ 26 := by
  have ez := eta z
  unfold lof at h
  generalize z.cps.toList = l at h ez
  subst ez
  match l, h with
  | [], h => cases h
  | [c], h =>
    rw [lofL1] at h
    split at h
    · rename_i hc
      have e := Option.some.inj h
      refine ⟨?_, by omega, by omega⟩
      unfold itm
      rw [if_pos (by omega)]
      have : 96 + i.natAbs = c := by omega
      rw [this]
    · cases h
  | [c, d], h =>
    rw [lofL2] at h
    split at h
    · rename_i hc
      have e := Option.some.inj h
      refine ⟨?_, by omega, by omega⟩
      unfold itm
      rw [if_neg (by omega)]
      have e1 : 96 + i.natAbs = c := by omega
      rw [e1, hc.1]
    · cases h
  | _ :: _ :: _ :: _, h => cases h
theorem cut1 (l : List Nat) : cutS ⟨l.toArray⟩ none (some 1) = ⟨(l.take 1).toArray⟩ := by
  unfold cutS
  have e1 : (⟨l.toArray⟩ : Str).length = l.length := by simp [Str.length]
  have e2 := HT.sIx_nat l.length l.length 1
  have e2 : HT.sIx l.length l.length (some 1) = min 1 l.length := e2
  rw [e1, HT.sIx_none, e2]
  simp
theorem cutF (l : List Nat) : cutS ⟨l.toArray⟩ (some 1) none = ⟨(l.drop 1).toArray⟩ := by
  unfold cutS
  have e1 : (⟨l.toArray⟩ : Str).length = l.length := by simp [Str.length]
  have e2 : HT.sIx l.length 0 (some 1) = min 1 l.length := HT.sIx_nat l.length 0 1
  rw [e1, HT.sIx_none, e2]
  cases l with
  | nil => rfl
  | cons c r => simp
/-- list(a text) -/
def rLstS : List V → Hp → VK → Prop := fun xs H Q => ∃ z : Str, xs = [.str z] ∧ z.length ≤ 4000 ∧ ∀ q, H q = none → Q (.ref q) (L2.upd H q (.lst (z.cps.toList.map fun c => V.str ⟨#[c]⟩)))
theorem call_lstS {X : Cx} (hc : X.calm = true) : CallR X (.type "list") rLstS := by
  intro pins s σ H xs us Q I r h
  obtain ⟨z, rfl, hz, q⟩ := h
  obtain ⟨u, rfl, t, rfl⟩ := vals1 r
  have hsz : z.cps.size ≤ sizeLine := Nat.le_trans hz (by decide)
  refine PySem.call_list_str (I.ok.hd hc) z t (fun h' tk acc c' hk e hi => ?_) hsz
  refine ⟨.ref s.heap.objs.size, _, I.laid hk (Nat.le_refl _) (show ObjOk X.prog X.w _ h' _ (.lst (z.cps.toList.map fun c => V.str ⟨#[c]⟩)) from ⟨by simpa using hsz, acc.toList, c', ?_, by rw [Array.toArray_toList]; exact e⟩), rfl, q _ (I.hok.fresh (Nat.le_refl _))⟩
  refine vals_of_idx _ _ (by rw [List.length_map, Array.length_toList, Array.length_toList]; exact hi.1) fun j v hj => ?_
  obtain ⟨c, t', hc, rfl⟩ := hi.2 j v (by rw [← Array.getElem?_toList]; exact hj)
  exact ⟨.str ⟨#[c]⟩, by rw [List.getElem?_map, Array.getElem?_toList, hc]; rfl, ⟨_, rfl⟩⟩
def spLOf : Sp := fun vs H Q _ => ∃ z : Str, vs = [.str z] ∧ Fit z ∧ Q (optV (lof z)) H
section
variable {P : Program} {w : World} {K : PySem.W.Frag} {mg : Str → Option Value} {base : Heap}
theorem scLOf : FnScope ["item", "kind"] ["item"] (defScope sLOf) := ⟨rfl, rfl, rfl, by decide +kernel, rfl, by decide +kernel, by decide +kernel⟩
theorem str_ne {l m : List Nat} (h : l ≠ m) : decide (V.str ⟨l.toArray⟩ = V.str ⟨m.toArray⟩) = false := decide_eq_false fun e => by
  have e2 : (⟨l.toArray⟩ : Str) = ⟨m.toArray⟩ := by injection e
  have e3 : l.toArray.toList = m.toArray.toList := congrArg (fun s : Str => s.cps.toList) e2
  exact h e3
theorem ok_lOf {f : Addr} {fd : FuncData} (F : Fun K "letter_of" "letter_of" sLOf f fd) (hA : ∃ t, mg "ALPHABET" = some (.str alphS t)) (hlen : mg "len" = none) : FnOk P w K mg base CX0 1 f fd ["item"] spLOf := by
  refine F.ok scLOf (fun vs H Q E h => ?_) (fun cdv A outer s H vs Q E hr h => ?_)
  · obtain ⟨i, rfl, _⟩ := h
    rfl
  · obtain ⟨z, rfl, hf, k⟩ := h
    obtain ⟨tA, mA⟩ := hA
    refine ⟨_, pss_cons (ps_set (i := 1) scLOf.nd rfl (Or.inl rfl) (pe_op op_add (pe_m1 PySem.F.slot_str_find PySem.F.type_str_find mt_find (pe_glob (v := .str alphS) (by rfl) mA ⟨_, rfl⟩) (pe_slice sl_str (pv 0) po_none (po_some pe_int))) pe_int))
      (pss_cons (ps_if (PW.pt (pw_or (pt_cmpR op_eq (pv 0) pe_str (nomark _)) (pw_or1 (pt_cmpR op_eq (pv 1) pe_int (nomark _))))) (pss_one (ps_ret pe_non)) pss_nil)
      (pss_cons (ps_if (pt_cmpR op_eq (pe_callB call_len_str (by rfl) hlen PySem.boot_len (pa_cons (pv 0) pa_nil)) pe_int (nomark _)) (pss_one (ps_ret (pv 1))) pss_nil)
      (pss_one (ps_ret (pe_ifExp (pt_cmpR op_eq (pe_slice sl_str (pv 0) (po_some pe_int) po_none) pe_str (nomark _)) (pe_un un_neg (pv 1)) pe_non))))), ?_⟩
    have hsz : z.length ≤ sizeLine := Nat.le_trans hf.2 (by decide)
    refine ⟨⟨_, rfl⟩, _, rfl, _, rfl, _, rfl, hsz, _, _, rfl, rfl, ?_⟩
    have ez := eta z
    have hc := hf.1
    have kk : Q (optV (lofL z.cps.toList)) H := k
    have hln : z.length = z.cps.toList.length := by simp [Str.length]
    generalize z.cps.toList = l at ez hc kk hln
    subst ez
    rw [cut1]
    match l, hc, kk, hln with
    | [], hc, kk, hln =>
      refine ⟨_, _, rfl, rfl, _, rfl, rfl, _, rfl, ?_⟩
      exact iteT' (decide_eq_true rfl) kk
    | c :: r, hc, kk, hln =>
      have hc1 := hc c List.mem_cons_self
      have f1 := find_all c hc1
      have f2 : Txt.find alphS ⟨(List.take 1 (c :: r)).toArray⟩ = if 97 ≤ c ∧ c ≤ 122 then (c : Int) - 97 else -1 := f1
      rw [f2]
      refine ⟨_, _, rfl, rfl, _, rfl, rfl, _, rfl, ?_⟩
      refine iteF' (str_ne (m := []) (by simp)) ?_
      refine ⟨_, rfl, rfl, _, rfl, ?_⟩
      by_cases hin : 97 ≤ c ∧ c ≤ 122
      · rw [if_pos hin]
        refine iteF' (decide_eq_false fun q => ?_) ?_
        · have q2 : (c : Int) - 97 + 1 = 0 := by injection q
          omega
        refine ⟨_, rfl, _, rfl, hsz, rfl, _, rfl, ?_⟩
        have ek : (c : Int) - 97 + 1 = (c : Int) - 96 := by omega
        cases r with
        | nil =>
          refine iteT' (decide_eq_true (by rw [hln]; rfl)) ?_
          refine ⟨_, rfl, ?_⟩
          have : lofL [c] = some ((c : Int) - 96) := by rw [lofL1, if_pos hin]
          rw [this] at kk
          show Q (V.int ((c : Int) - 97 + 1)) H
          rw [ek]
          exact kk
        | cons d r =>
          refine iteF' (decide_eq_false fun q => ?_) ?_
          · have q2 : (((⟨(c :: d :: r).toArray⟩ : Str).length : Nat) : Int) = 1 := by injection q
            rw [hln] at q2
            simp at q2
            omega
          refine ⟨_, rfl, _, rfl, _, rfl, hsz, rfl, _, rfl, ?_⟩
          rw [cutF, tick_eq]
          by_cases hd : (List.drop 1 (c :: d :: r)) = [39]
          · have hd2 : d :: r = [39] := hd
            rw [hd]
            refine iteT' (decide_eq_true rfl) ?_
            refine ⟨_, rfl, _, rfl, ?_⟩
            have : lofL (c :: d :: r) = some (-((c : Int) - 96)) := by
              rw [hd2]
              rw [lofL2, if_pos ⟨rfl, hin⟩]
            rw [this] at kk
            show Q (V.int (-((c : Int) - 97 + 1))) H
            rw [ek]
            exact kk
          · refine iteF' (str_ne (m := [39]) hd) ?_
            have hd2 : ¬ (d :: r = [39]) := hd
            have : lofL (c :: d :: r) = none := by
              cases r with
              | nil =>
                rw [lofL2, if_neg (fun q => hd2 (by rw [q.1]))]
              | cons e r => rfl
            rw [this] at kk
            exact kk
      · rw [if_neg hin]
        refine iteT' (decide_eq_true rfl) ?_
        have : lofL (c :: r) = none := by
          match r with
          | [] => rw [lofL1, if_neg hin]
          | [d] => rw [lofL2, if_neg (fun q => hin q.2)]
          | _ :: _ :: _ => rfl
        rw [this] at kk
        exact kk
end
end W03
set_option Elab.async false
set_option linter.all false
set_option maxRecDepth 100000
set_option maxHeartbeats 600000
namespace W03
open PySem L2 PySem.Spec PyProof.Rows WR WB
/-! ### BadText -/
abbrev sInitT : Stmt := inClass (top 8) 0
def spI2 (C : Addr) : Sp := fun vs H Q _ => ∃ (a : Addr) (v u : V), vs = [.ref a, v, u] ∧ H a = some (exo a C none) ∧ ∀ dx, H dx = none → dx ≠ a → Q .non (L2.upd (L2.upd (L2.upd H dx (exd dx [("line", v)])) a (exo a C (some dx))) dx (exd dx [("item", u), ("line", v)]))
structure ErrC (P : Program) (w : World) (K : PySem.W.Frag) (mg : Str → Option Value) (base : Heap) (C : Addr) (x : Str) (ps : List Str) (sp : Sp) : Prop where
  oex : OexC K C
  ini : ∃ (fI : Addr) (fd : FuncData), PySem.W.findIn K (.ref C) "__init__" = some (some (.ref fI)) ∧ PySem.W.typeIn K (.ref fI) = some (.type "function") ∧ FnOk P w K mg base CX0 1 fI fd ps sp ∧ Binds K fd ps []
  g : mg x = some (.ref C)
  xf : XfC K C
  te : PySem.W.exmOne K (.ref C) (.ref C) = some true
section
variable {P : Program} {w : World} {K : PySem.W.Frag} {mg : Str → Option Value} {base : Heap}
theorem scInitT : FnScope ["self", "line", "item"] ["self", "line", "item"] (defScope sInitT) := ⟨rfl, rfl, rfl, by decide +kernel, rfl, by decide +kernel, by decide +kernel⟩
theorem ok_initT {C f : Addr} {fd : FuncData} (F : Fun K "__init__" "BadText.__init__" sInitT f fd) (O : OexC K C) (n1 : PySem.W.findIn K (.ref C) "line" = some none) (n2 : PySem.W.findIn K (.ref C) "item" = some none) : FnOk P w K mg base CX0 1 f fd ["self", "line", "item"] (spI2 C) := by
  refine F.ok scInitT (fun vs H Q E h => ?_) (fun cdv A outer s H vs Q E hr h => ?_)
  · obtain ⟨a, v, u, rfl, _⟩ := h
    rfl
  · obtain ⟨a, v, u, rfl, hA, k⟩ := h
    refine ⟨_, pss_cons (ps_ost (pv 0) (pv 1)) (pss_one (ps_ost (pv 0) (pv 2))), ?_⟩
    refine ⟨_, rfl, _, rfl, a, C, rfl, O, n1, .inl ⟨hA, fun dx h1 h2 => ?_⟩⟩
    refine ⟨_, rfl, _, rfl, a, C, rfl, O, n2, .inr ⟨dx, _, upd_same, by rw [upd_ne h2, upd_same], by show 1 ≤ 900; decide, k dx h1 h2⟩⟩
end
theorem heap2 {H : Hp} {a d : Addr} {e1 e2 e3 e4 o : HO} (ha : H a = none) (hd : d ≠ a) : L2.upd (del (L2.upd (L2.upd (L2.upd (L2.upd H a e1) d e2) a e3) d e4) a) d o = L2.upd H d o := by
  funext b
  by_cases h1 : b = d
  · subst h1
    rw [upd_same, upd_same]
  · rw [upd_ne h1, upd_ne h1]
    by_cases h2 : b = a
    · subst h2
      rw [del_same, ha]
    · rw [del_ne h2, upd_ne h1, upd_ne h2, upd_ne h1, upd_ne h2]
theorem mk2 {C : Addr} {H : Hp} {v u : V} {Q : XK} (k : ∀ d, H d = none → Q (.ref C) (some d) (L2.upd H d (.xd [("item", u), ("line", v)]))) : ∀ a, H a = none → spI2 C [.ref a, v, u] (L2.upd H a (exo a C none))
    (fun z H2 => z = .non ∧ ∃ (d : Addr) (fs : List (Str × V)), H2 a = some (exo a C (some d)) ∧ H2 d = some (exd d fs) ∧ H d = none ∧ Q (.ref C) (some d) (L2.upd (del H2 a) d (.xd fs))) (fun _ _ _ => False) := by
  intro a ha
  refine ⟨a, v, u, rfl, upd_same, fun dx h1 h2 => ⟨rfl, dx, _, by rw [upd_ne h2.symm, upd_same], upd_same, by rw [upd_ne h2] at h1; exact h1, ?_⟩⟩
  rw [heap2 ha h2]
  exact k dx (by rw [upd_ne h2] at h1; exact h1)
/-- BadText of line 0 -/
abbrev BadT (CT : Addr) (E : XK) (H : Hp) (i : Nat) : Prop := ∀ H1, Same H H1 → ∀ d, H1 d = none → E (.ref CT) (some d) (L2.upd H1 d (.xd [(("item" : Str), .int (i : Int)), (("line" : Str), .int 0)]))
structure CalX (P : Program) (w : World) (K : PySem.W.Frag) (mg : Str → Option Value) (base : Heap) (x : Str) (k : Nat) (ps : List Str) (sp : Sp) : Prop where
  ex : ∃ (f : Addr) (fd : FuncData), FnOk P w K mg base (L2.CX P w) k f fd ps sp ∧ mg x = some (.ref f) ∧ PySem.W.keepIn K (.ref f) = true ∧ Binds K fd ps []
section
variable {X : Cx} {x : Str} {k j : Nat} {ps : List Str} {sp : Sp} {p pos : Pos} {e : Expr} {es : List Expr} {t : TA} {E : XK}
theorem pe_calX (C : CalX X.prog X.w X.K X.mg X.base x k ps sp) (hr : Room j X.A) (hkj : k ≤ j) (hx : Passes (L2.CX X.prog X.w) X E) (hg : Gl X x) (ha : PA X (e :: es) t) (hdb : (x == ("__debug__" : Str)) = false := by decide)
    (he : starEach (e :: es) X.env = (false, eval e X.env) :: starEach es X.env := by rfl) (hpl : (backTo pos (starEach es X.env)).any (·.1) = false := by rfl) :
    PE X (.Call (.Name x p) (e :: es) [] pos) (tCall sp [] E t) := by
  obtain ⟨f, fd, F, hm, hk, hb⟩ := C.ex
  exact pe_call F (hr.mono hkj) hg hm hk hb .nil hx ha hdb he hpl
end
/-! ### a text's items -/
def sp (z : Str) : List Str := Txt.split z ⟨#[32]⟩
abbrev dashS : Str := ⟨#[45]⟩
theorem parts_glue2 (c : Nat) : ∀ xs : List Nat, MText.glue c (MText.parts c xs) = xs
  | [] => rfl
  | h :: t => by
    have ih := parts_glue2 c t
    obtain ⟨p, r, e⟩ := MText.parts_ne c t
    rw [e] at ih
    unfold MText.parts
    rw [e]
    by_cases hc : h = c
    · rw [if_pos hc]
      show [] ++ c :: MText.glue c (p :: r) = h :: t
      rw [ih, hc]
      rfl
    · rw [if_neg hc]
      show MText.glue c ((h :: p) :: r) = h :: t
      cases r with
      | nil =>
        show h :: p = h :: t
        rw [← ih]
        rfl
      | cons q r =>
        show h :: (p ++ c :: MText.glue c (q :: r)) = h :: t
        rw [← ih]
        rfl
theorem parts_mem {c : Nat} : ∀ {xs p : List Nat}, p ∈ MText.parts c xs → (∀ y ∈ p, y ∈ xs ∧ y ≠ c) ∧ p.length ≤ xs.length
  | [], p, h => by
    have : p = [] := by simpa [MText.parts] using h
    subst this
    exact ⟨fun y hy => (nomatch hy), Nat.le_refl _⟩
  | h :: t, p, hp => by
    obtain ⟨q, r, e⟩ := MText.parts_ne c t
    have ih := fun p (hp : p ∈ MText.parts c t) => parts_mem (c := c) (xs := t) hp
    unfold MText.parts at hp
    rw [e] at hp ih
    have old : ∀ p', p' ∈ q :: r → (∀ y ∈ p', y ∈ h :: t ∧ y ≠ c) ∧ p'.length ≤ (h :: t).length := fun p' h' => by
      obtain ⟨i1, i2⟩ := ih p' h'
      exact ⟨fun y hy => ⟨List.mem_cons_of_mem _ (i1 y hy).1, (i1 y hy).2⟩, by rw [List.length_cons]; omega⟩
    by_cases hc : h = c
    · rw [if_pos hc] at hp
      rcases List.mem_cons.mp hp with rfl | hp
      · exact ⟨fun y hy => (nomatch hy), Nat.zero_le _⟩
      · exact old p hp
    · rw [if_neg hc] at hp
      rcases List.mem_cons.mp hp with rfl | hp
      · obtain ⟨i1, i2⟩ := ih q List.mem_cons_self
        refine ⟨fun y hy => ?_, by rw [List.length_cons, List.length_cons]; omega⟩
        rcases List.mem_cons.mp hy with rfl | hy
        · exact ⟨List.mem_cons_self, hc⟩
        · exact ⟨List.mem_cons_of_mem _ (i1 y hy).1, (i1 y hy).2⟩
      · exact old p (List.mem_cons_of_mem _ hp)
theorem parts_len (c : Nat) : ∀ xs : List Nat, (MText.parts c xs).length ≤ xs.length + 1
  | [] => Nat.le_refl _
  | h :: t => by
    have ih := parts_len c t
    obtain ⟨q, r, e⟩ := MText.parts_ne c t
    rw [e, List.length_cons] at ih
    unfold MText.parts
    rw [e]
    split
    · simp only [List.length_cons]
      omega
    · simp only [List.length_cons]
      omega
theorem sp_parts (z : Str) : (sp z).map (·.cps.toList) = MText.parts 32 z.cps.toList := MText.split_parts z (by decide)
theorem sp_ne (z : Str) : sp z ≠ [] := fun e => by
  have h := sp_parts z
  rw [e] at h
  obtain ⟨p, r, e2⟩ := MText.parts_ne 32 z.cps.toList
  rw [e2] at h
  cases h
theorem len_cps (z : Str) : z.cps.toList.length = z.length := by simp [Str.length]
theorem sp_fit {z y : Str} (h : Fit z) (hy : y ∈ sp z) : Fit y := by
  have m : y.cps.toList ∈ MText.parts 32 z.cps.toList := by
    rw [← sp_parts]
    exact List.mem_map_of_mem hy
  obtain ⟨h1, h2⟩ := parts_mem m
  refine ⟨fun c hc => h.1 c (h1 c hc).1, ?_⟩
  have := h.2
  rw [len_cps, len_cps] at h2
  omega
theorem sp_len {z : Str} (h : Fit z) : (sp z).length ≤ 4001 := by
  have h1 := parts_len 32 z.cps.toList
  rw [← sp_parts, List.length_map, len_cps] at h1
  have := h.2
  omega
theorem sp_join (z : Str) : Txt.join ⟨#[32]⟩ (sp z) = z := by
  refine MText.str_eq ?_
  rw [MText.join_glue, sp_parts, parts_glue2]
def wBad (zs : List Str) (i : Nat) : Bool := decide (500 ≤ i) || (lof (zs.getD i default)).isNone
/-- the first item of a word's text that can't stand -/
def wordPl (zs : List Str) : Option Nat := if zs.head? = some dashS then (if 1 < zs.length then some 1 else none) else (List.range zs.length).find? (wBad zs)
def itT (zs : List Str) : List Str := if zs.head? = some dashS then [] else zs
theorem itT_d (r : List Str) : itT (dashS :: r) = [] := if_pos rfl
theorem itT_n {y : Str} {r : List Str} (h : y ≠ dashS) : itT (y :: r) = y :: r := if_neg fun e => h (Option.some.inj e)
theorem all_lof : ∀ {zs : List Str}, (∀ z ∈ zs, (lof z).isNone = false) → zs.map (fun z => optV (lof z)) = iv (zs.filterMap lof) ∧ zs = (zs.filterMap lof).map itm ∧ Lts (zs.filterMap lof)
  | [], _ => ⟨rfl, rfl, fun x hx => (nomatch hx)⟩
  | z :: zs, h => by
    obtain ⟨i1, i2, i3⟩ := all_lof (zs := zs) fun y hy => h y (List.mem_cons_of_mem _ hy)
    have h0 := h z List.mem_cons_self
    cases e : lof z with
    | none =>
      rw [e] at h0
      cases h0
    | some i =>
      obtain ⟨j1, j2, j3⟩ := itm_lof e
      rw [List.filterMap_cons_some e]
      refine ⟨?_, ?_, ?_⟩
      · rw [List.map_cons, i1, e]
        rfl
      · rw [List.map_cons, ← i2, j1]
      · intro x hx
        rcases List.mem_cons.mp hx with rfl | hx
        · exact ⟨j2, j3⟩
        · exact i3 x hx
theorem lof_dash : lof dashS = none := rfl
theorem getD_at {α : Type} {xs : List α} {i : Nat} {d : α} (h : i < xs.length) : xs.getD i d = xs[i] := by
  rw [List.getD_eq_getElem?_getD, List.getElem?_eq_getElem h]
  rfl
theorem word_no {zs : List Str} (h : wordPl zs = none) : zs.map (fun z => optV (lof z)) = iv (zs.filterMap lof) ∧ zs = (zs.filterMap lof).map itm ∧ Lts (zs.filterMap lof) ∧ zs.length ≤ 500 ∨ zs = [dashS] := by
  unfold wordPl at h
  split at h
  · rename_i hd
    split at h
    · cases h
    · rename_i hl
      match zs, hd, hl with
      | [a], hd, hl =>
        right
        have : a = dashS := Option.some.inj hd
        rw [this]
      | a :: b :: r, hd, hl => exact absurd (by rw [List.length_cons, List.length_cons]; omega) hl
  · left
    rw [List.find?_eq_none] at h
    have hb : ∀ i, i < zs.length → i < 500 ∧ (lof (zs.getD i default)).isNone = false := fun i hi => by
      have := h i (List.mem_range.mpr hi)
      unfold wBad at this
      rw [Bool.not_eq_true, Bool.or_eq_false_iff] at this
      have h1 := of_decide_eq_false this.1
      exact ⟨by omega, this.2⟩
    have ha := all_lof (zs := zs) fun z hz => by
      obtain ⟨i, hi, rfl⟩ := List.getElem_of_mem hz
      have := (hb i hi).2
      rw [getD_at hi] at this
      exact this
    refine ⟨ha.1, ha.2.1, ha.2.2, ?_⟩
    refine Decidable.byContradiction fun q => ?_
    have := (hb 500 (by omega)).1
    omega
theorem find_range {p : Nat → Bool} {n i : Nat} (hi : i < n) (h : p i = true) (hl : ∀ j, j < i → p j = false) : (List.range n).find? p = some i := by
  rw [List.find?_range_eq_some]
  exact ⟨h, List.mem_range.mpr hi, fun j hj => by rw [hl j hj]; rfl⟩
theorem find_none {p : Nat → Bool} {n : Nat} (hl : ∀ j, j < n → p j = false) : (List.range n).find? p = none := by
  rw [List.find?_eq_none]
  intro j hj
  rw [hl j (List.mem_range.mp hj)]
  decide
/-- no text -/
def NotS (H : Hp) (x : V) : Prop := ∃ t, Typ H x t ∧ isS x = false
def spItems (CT : Addr) : Sp := fun vs H Q E => ∃ x : V, vs = [x] ∧ ((NotS H x ∧ BadT CT E H 0) ∨
  ∃ z, x = .str z ∧ Fit z ∧ ∀ p H', H p = none → Same H H' → H' p = some (.lst ((sp z).map V.str)) → Q (.ref p) H')
def spTold (CT : Addr) : Sp := fun vs H Q E => ∃ x : V, vs = [x] ∧ ((NotS H x ∧ BadT CT E H 0) ∨
  ∃ z, x = .str z ∧ Fit z ∧ ((sp z).head? = some dashS → 1 < (sp z).length → BadT CT E H 1) ∧ (((sp z).head? = some dashS → ¬ 1 < (sp z).length) → ∀ p H', H p = none → Same H H' → H' p = some (.lst ((itT (sp z)).map V.str)) → Q (.ref p) H'))
def spReadM (K : PySem.W.Frag) (C CT : Addr) : Sp := fun vs H Q E => ∃ x : V, vs = [x] ∧ ((NotS H x ∧ BadT CT E H 0) ∨
  ∃ z, x = .str z ∧ Fit z ∧ (∀ i, wordPl (sp z) = some i → BadT CT E H i) ∧ (wordPl (sp z) = none → NewW K C H Q ((sp z).filterMap lof)))
section
variable {P : Program} {w : World} {K : PySem.W.Frag} {mg : Str → Option Value} {base : Heap} {C CT : Addr}
theorem scItems : FnScope ["text"] ["text"] (defScope sItems) := ⟨rfl, rfl, rfl, by decide +kernel, rfl, by decide +kernel, by decide +kernel⟩
theorem ok_items {f : Addr} {fd : FuncData} (F : Fun K "items_of" "items_of" sItems f fd) (T : TxI mg) (ET : ErrC P w K mg base CT "BadText" ["self", "line", "item"] (spI2 CT)) : FnOk P w K mg base (L2.CX P w) 3 f fd ["text"] (spItems CT) := by
  refine F.okX scItems (fun vs H Q E h => ?_) (fun cdv A outer s H vs Q E hr h => ?_)
  · obtain ⟨x, rfl, _⟩ := h
    rfl
  · obtain ⟨x, rfl, h⟩ := h
    obtain ⟨fI, fdI, iC, tI, FI, bI⟩ := ET.ini
    refine ⟨_, pss_cons (ps_if (pt_not (pt_val (pe_callB call_isi (by rfl) T.isin (by decide +kernel) (pa_cons (pv 0) (pa_cons (pe_bltn (v := .ty "str") (by rfl) T.str (by decide +kernel) rfl) pa_nil))))) (pss_one (ps_raise rfl (takes_of rfl rfl rfl rfl) (pmk_oex (dvs := []) ET.oex iC tI FI (hr.mono (by decide)) bI .nil pass0 (by rfl) ET.g (pa_cons pe_int (pa_cons pe_int pa_nil))))) pss_nil)
      (pss_one (ps_ret (pe_split (pv 0) pe_str))), ?_⟩
    rcases h with ⟨⟨t, ht, hs⟩, kb⟩ | ⟨z, rfl, hf, k⟩
    · have hk := ht.kStr (K := K)
      rw [hs] at hk
      refine ⟨_, rfl, x, _, _, _, _, rfl, .ty _, ht.ty, hk, _, rfl, ?_⟩
      exact iteT ⟨by show 2 ≤ 1000; decide, mk2 (Q := fun cls d H' => E cls d H') fun d hd => kb H (Same.refl _) d hd⟩
    · refine ⟨_, rfl, V.str z, _, _, _, _, rfl, .ty _, (Typ.str (H := H) z).ty, (Typ.str (H := H) z).kStr, _, rfl, ?_⟩
      refine iteF ?_
      have hs : z.length + 2 ≤ sizeLine := Nat.le_trans (show z.length + 2 ≤ 4002 by have := hf.2; omega) (by decide)
      refine ⟨_, rfl, ⟨_, rfl⟩, _, _, rfl, rfl, (by decide +kernel), hs, fun p hp => ?_⟩
      rw [space_eq]
      exact k p _ hp (same_upd hp) upd_same
theorem scTold : FnScope ["text", "items"] ["text"] (defScope sTold) := ⟨rfl, rfl, rfl, by decide +kernel, rfl, by decide +kernel, by decide +kernel⟩
theorem ok_told {f : Addr} {fd : FuncData} (F : Fun K "items_told" "items_told" sTold f fd) (GI : CalX P w K mg base "items_of" 3 ["text"] (spItems CT)) (ET : ErrC P w K mg base CT "BadText" ["self", "line", "item"] (spI2 CT)) (hlen : mg "len" = none) : FnOk P w K mg base (L2.CX P w) 4 f fd ["text"] (spTold CT) := by
  refine F.okX scTold (fun vs H Q E h => ?_) (fun cdv A outer s H vs Q E hr h => ?_)
  · obtain ⟨x, rfl, _⟩ := h
    rfl
  · obtain ⟨x, rfl, h⟩ := h
    obtain ⟨fI, fdI, iC, tI, FI, bI⟩ := ET.ini
    refine ⟨_, pss_cons (ps_set (i := 1) scTold.nd rfl (Or.inl rfl) (pe_calX GI hr (by decide) (passes_call (takes_of rfl rfl rfl rfl) (fun _ _ _ _ h => h)) (by rfl) (pa_cons (pv 0) pa_nil)))
      (pss_cons (ps_if (pt_cmpR op_ne (pe_ix ix_list (pv 1) pe_int (fun _ _ => rfl)) pe_str (nomark _)) (pss_one (ps_ret (pv 1))) pss_nil)
      (pss_cons (ps_if (pt_cmpR op_gt (pe_callB call_len_seq (by rfl) hlen PySem.boot_len (pa_cons (pv 1) pa_nil)) pe_int (nomark _)) (pss_one (ps_raise rfl (takes_of rfl rfl rfl rfl) (pmk_oex (dvs := []) ET.oex iC tI FI (hr.mono (by decide)) bI .nil pass0 (by rfl) ET.g (pa_cons pe_int (pa_cons pe_int pa_nil))))) pss_nil)
      (pss_one (ps_ret (pe_lst pa_nil))))), ?_⟩
    rcases h with ⟨hn, kb⟩ | ⟨z, rfl, hf, k1, k2⟩
    · exact ⟨_, rfl, x, rfl, .inl ⟨hn, kb⟩⟩
    · refine ⟨_, rfl, .str z, rfl, .inr ⟨z, rfl, hf, fun p H1 hp0 s1 h1 => ?_⟩⟩
      refine at_set ?_
      try dsimp only
      have hl := sp_ne z
      generalize sp z = zs at h1 k1 k2 hl
      cases zs with
      | nil => exact absurd rfl hl
      | cons y r =>
        refine ⟨_, rfl, p, _, _, _, rfl, rfl, SqL.of h1, atI_nat (j := 0) rfl, rfl, _, rfl, ?_⟩
        rw [dash_eq]
        by_cases hy : y = dashS
        · subst hy
          refine iteF' (by simp) ?_
          refine ⟨_, rfl, p, _, rfl, .inl (SqL.of h1), _, _, rfl, rfl, _, rfl, ?_⟩
          by_cases h2 : 1 < (dashS :: r).length
          · refine iteT' (decide_eq_true (by rw [List.length_map]; omega)) ?_
            exact ⟨by show 2 ≤ 1000; decide, mk2 (Q := fun cls d H' => E cls d H') fun d hd => k1 rfl h2 H1 s1 d hd⟩
          · refine iteF' (decide_eq_false (by rw [List.length_map]; omega)) ?_
            refine ⟨Nat.zero_le _, fun q hq => k2 (fun _ => h2) q _ (s1.free hq) (s1.trans (same_upd hq)) ?_⟩
            rw [upd_same, itT_d]
            rfl
        · refine iteT' ?_ ⟨_, rfl, k2 (fun e => absurd (Option.some.inj e) hy) p H1 hp0 s1 ?_⟩
          · have : ¬ (V.str y = V.str ⟨#[45]⟩) := fun q => hy (by injection q)
            simp [this]
          · rw [h1, itT_n hy]
end
end W03
set_option Elab.async false
set_option linter.all false
set_option maxRecDepth 100000
set_option maxHeartbeats 600000
namespace W03
open PySem L2 PySem.Spec PyProof.Rows WR WB
theorem wBad_at {zs : List Str} {i : Nat} (h : i < zs.length) : wBad zs i = (decide (500 ≤ i) || (lof zs[i]).isNone) := by
  unfold wBad
  rw [getD_at h]
theorem optV_non {o : Option Int} : optV o = V.non ↔ o.isNone = true := by
  cases o with
  | none => exact ⟨fun _ => rfl, fun _ => rfl⟩
  | some i => exact ⟨fun e => (nomatch e), fun e => (nomatch e)⟩
theorem all_opt {ws : List V} {os : List (Option Int)} (h : All2 (fun v o => v = optV o) ws os) : ws = os.map optV := by
  induction h with
  | nil => rfl
  | cons h1 _ ih => rw [List.map_cons, h1, ih]
theorem none_bad {zs : List Str} (h : ∀ j, j < zs.length → wBad zs j = false) : zs.map (fun z => optV (lof z)) = iv (zs.filterMap lof) ∧ zs = (zs.filterMap lof).map itm ∧ Lts (zs.filterMap lof) ∧ zs.length ≤ 500 := by
  have ha := all_lof (zs := zs) fun z hz => by
    obtain ⟨i, hi, rfl⟩ := List.getElem_of_mem hz
    have := h i hi
    rw [wBad_at hi, Bool.or_eq_false_iff] at this
    exact this.2
  refine ⟨ha.1, ha.2.1, ha.2.2, Decidable.byContradiction fun q => ?_⟩
  have := h 500 (by omega)
  rw [wBad_at (by omega), Bool.or_eq_false_iff] at this
  exact absurd this.1 (by decide)
section
variable {P : Program} {w : World} {K : PySem.W.Frag} {mg : Str → Option Value} {base : Heap} {C CT : Addr}
theorem scReadM : FnScope ["text", "letters", "at", "letter", "item"] ["text"] (defScope sReadM) := ⟨rfl, rfl, rfl, by decide +kernel, rfl, by decide +kernel, by decide +kernel⟩
theorem ok_readM {f : Addr} {fd : FuncData} (F : Fun K "read" "Word.read" sReadM f fd) (T : TxW K mg C) (M : MkW P w K mg base C) (GT : CalX P w K mg base "items_told" 4 ["text"] (spTold CT)) (GL : Cal P w K mg base "letter_of" 1 ["item"] spLOf) (ET : ErrC P w K mg base CT "BadText" ["self", "line", "item"] (spI2 CT)) (henum : mg "enumerate" = none) : FnOk P w K mg base (L2.CX P w) 6 f fd ["text"] (spReadM K C CT) := by
  refine F.okX scReadM (fun vs H Q E h => ?_) (fun cdv A outer s H vs Q E hr h => ?_)
  · obtain ⟨ns, rfl, _⟩ := h
    rfl
  · obtain ⟨x, rfl, h⟩ := h
    obtain ⟨tk, mL⟩ := T.most
    obtain ⟨fI, fdI, iC, tI, FI, bI⟩ := ET.ini
    refine ⟨_, pss_cons (ps_setLc (i := 1) (own := [("item", 4)]) (g := gName 4) (tt := tYes) rfl scReadM.nd rfl rfl (sw_true rfl rfl rfl (by decide +kernel)) (pi_list (pe_calX GT hr (by decide) (passes_call (takes_of rfl rfl rfl rfl) (fun _ _ _ _ h => h)) (by rfl) (pa_cons (pv 0) pa_nil))) (blkOk_by (N := ["text", "letters", "at", "letter", "item"]) (sc := defScope sReadM) (by decide +kernel)) (fun _ _ _ _ _ => pg_name (i := 4) scReadM.nd rfl (Or.inl rfl)) (fun _ _ _ _ _ => pts_nil)
        (fun _ _ _ _ _ => pe_cal GL hr (by decide) (by rfl) (pa_cons (pv 4) pa_nil)))
      (pss_cons (ps_for (passes_of rfl) rfl (pi_enum (by rfl) henum (pa_cons (pv 1) pa_nil)) (pg_tup (n := 2) rfl (pgs_cons (pg_name (i := 2) scReadM.nd rfl (Or.inl rfl)) (pgs_cons (pg_name (i := 3) scReadM.nd rfl (Or.inl rfl)) pgs_nil)))
        (pss_one (ps_if (PW.pt (pw_or (pt_cmpR op_isN (pv 3) pe_non (nomark _)) (pw_or1 (pt_cmpR op_eq (pv 2) (pe_glob (v := .int 500) (by rfl) mL ⟨_, rfl⟩) (nomark _))))) (pss_one (ps_raise rfl (takes_of rfl rfl rfl rfl) (pmk_oex (dvs := []) ET.oex iC tI FI (hr.mono (by decide)) bI .nil pass0 (by rfl) ET.g (pa_cons pe_int (pa_cons (pv 2) pa_nil))))) pss_nil)))
      (pss_one (ps_ret (pe_word M T hr (by decide) (by rfl) (pa_cons (pv 1) pa_nil))))), ?_⟩
    refine as_lc ?_
    rcases h with ⟨hn, kb⟩ | ⟨z, rfl, hf, kb, kn⟩
    · exact ⟨_, rfl, x, rfl, .inl ⟨hn, kb⟩⟩
    refine ⟨_, rfl, .str z, rfl, .inr ⟨z, rfl, hf, fun hd hl => ?_, fun hd0 p H1 hp0 s1 h1 => ?_⟩⟩
    · refine kb 1 ?_
      unfold wordPl
      rw [if_pos hd, if_pos hl]
    have hfit : ∀ y ∈ sp z, Fit y := fun y hy => sp_fit hf hy
    have hlen := sp_len hf
    generalize sp z = zs at h1 kb kn hd0 hfit hlen
    -- the items that are read
    have hus : (zs = [dashS] ∧ itT zs = []) ∨ (zs.head? ≠ some dashS ∧ itT zs = zs) := by
      by_cases hd : zs.head? = some dashS
      · left
        have hl := hd0 hd
        match zs, hd, hl with
        | [a], hd, hl =>
          have : a = dashS := Option.some.inj hd
          subst this
          exact ⟨rfl, itT_d []⟩
        | a :: b :: r, hd, hl => exact absurd (by rw [List.length_cons, List.length_cons]; omega) hl
      · right
        exact ⟨hd, if_neg hd⟩
    have hun : zs.filterMap lof = (itT zs).filterMap lof := by
      rcases hus with ⟨h1, h2⟩ | ⟨h1, h2⟩
      · rw [h2, h1]
        rfl
      · rw [h2]
    have hbad : ∀ i, i < (itT zs).length → wBad (itT zs) i = true → (∀ j, j < i → wBad (itT zs) j = false) → wordPl zs = some i := by
      intro i hi hb hl
      rcases hus with ⟨h1, h2⟩ | ⟨h1, h2⟩
      · rw [h2] at hi
        exact absurd hi (Nat.not_lt_zero _)
      · rw [h2] at hi hb hl
        unfold wordPl
        rw [if_neg h1]
        exact find_range hi hb hl
    have hnone : (∀ j, j < (itT zs).length → wBad (itT zs) j = false) → wordPl zs = none := by
      intro hl
      rcases hus with ⟨h1, h2⟩ | ⟨h1, h2⟩
      · rw [h1]
        rfl
      · rw [h2] at hl
        unfold wordPl
        rw [if_neg h1]
        exact find_none hl
    have hufit : ∀ y ∈ itT zs, Fit y := by
      rcases hus with ⟨h1, h2⟩ | ⟨h1, h2⟩
      · rw [h2]
        exact fun y hy => (nomatch hy)
      · rw [h2]
        exact hfit
    have hulen : (itT zs).length ≤ 4001 := by
      rcases hus with ⟨h1, h2⟩ | ⟨h1, h2⟩
      · rw [h2]
        exact Nat.zero_le _
      · rw [h2]
        exact hlen
    rw [hun] at kn
    generalize itT zs = us at h1 hun hbad hnone hufit hulen kn
    refine ⟨p, rfl, ⟨_, SqL.of h1⟩, ?_⟩
    refine lcM (walk_list (K := K) (a := p) (xs := us.map V.str)) (us.map lof) (fun _ _ v o => v = optV o) (fun _ _ _ _ _ h _ => h) (fun _ _ _ _ _ _ _ h => h) (by rw [List.length_map]; omega) (by rw [List.length_map, List.length_map]) (fun H2 s2 => SqL.of (s2 _ _ h1)) ?_ (fun x σ1 H A B k h => gName_mono k h) ?_
    · intro i x b hx hb D H2 hD hu2 s2 Qy ky
      rw [List.getElem?_map] at hx hb
      cases hz : us[i]? with
      | none => rw [hz] at hx; cases hx
      | some y =>
        rw [hz] at hx hb
        obtain rfl := Option.some.inj hx
        obtain rfl := Option.some.inj hb
        refine ⟨rfl, ?_⟩
        exact ⟨_, rfl, y, rfl, hufit y (List.mem_of_getElem? hz), ky _ _ (Same.refl _) rfl⟩
    intro D H2 ws hD s2 h2 r2
    have ews := all_opt r2
    rw [List.map_map] at ews
    have ews : ws = us.map (fun z => optV (lof z)) := ews
    subst ews
    refine at_set ?_
    try dsimp only
    refine ⟨_, rfl, D, _, rfl, SqL.of h2, ?_⟩
    refine for_it (walk_enum (K := K) (a := D) (xs := us.map (fun z => optV (lof z)))) (fun i σ H' => (∃ v2 v3 : Option V, σ = [some (.str z), some (.ref D), v2, v3, none]) ∧ Same H2 H' ∧ ∀ j, j < i → wBad us j = false) ⟨⟨none, none, rfl⟩, Same.refl _, fun j hj => absurd hj (Nat.not_lt_zero _)⟩ (fun i σ H' _ ⟨_, s, _⟩ => SqL.of (s _ _ h2)) ?_ ?_
    · rintro i x σ H3 H4 hi ⟨⟨v2, v3, rfl⟩, sm, hl⟩ ⟨T0, xi, yi, rfl, hT0, rfl, hx, hy⟩
      have hin : i < us.length := by rw [List.length_map] at hi; exact hi
      obtain rfl := Option.some.inj hx
      have ey : yi = optV (lof us[i]) := by
        have hy : (us.map (fun z => optV (lof z)))[i]? = some yi := hy
        rw [List.getElem?_map, List.getElem?_eq_getElem hin] at hy
        exact (Option.some.inj hy).symm
      subst ey
      refine ⟨T0, _, rfl, SqT.of upd_same, rfl, _, _, rfl, _, _, rfl, rfl, ?_⟩
      have sT := sm.trans (same_upd (o := .tup [.int (i : Int), optV (lof us[i])]) hT0)
      have raise : wBad us i = true → BadT CT E (L2.upd H3 T0 (.tup [.int (i : Int), optV (lof us[i])])) i := fun hb H5 s5 d hd => kb i (hbad i hin hb hl) H5 (((s1.trans s2).trans sT).trans s5) d hd
      refine ⟨_, rfl, rfl, _, rfl, ?_⟩
      by_cases hnn : (lof us[i]).isNone = true
      · refine iteT' (decide_eq_true (optV_non.mpr hnn)) ?_
        exact ⟨_, rfl, by show 2 ≤ 1000; decide, mk2 (Q := fun cls d H' => E cls d H') fun d hd => raise (by rw [wBad_at hin, hnn, Bool.or_true]) _ (Same.refl _) d hd⟩
      refine iteF' (decide_eq_false fun q => hnn (optV_non.mp q)) ?_
      refine ⟨_, rfl, rfl, _, rfl, ?_⟩
      by_cases h5 : i = 500
      · refine iteT' (decide_eq_true (by rw [h5]; rfl)) ?_
        exact ⟨_, rfl, by show 2 ≤ 1000; decide, mk2 (Q := fun cls d H' => E cls d H') fun d hd => raise (by rw [wBad_at hin, decide_eq_true (by omega : 500 ≤ i)]; rfl) _ (Same.refl _) d hd⟩
      · refine iteF' (decide_eq_false fun q => ?_) ?_
        · have q2 : (i : Int) = 500 := by injection q
          omega
        refine ⟨⟨_, _, rfl⟩, sT, fun j hj => ?_⟩
        rcases Nat.lt_succ_iff_lt_or_eq.mp hj with hj | rfl
        · exact hl j hj
        · have h6 : ¬ 500 ≤ j := fun q => by
            have := hl 500 (by omega)
            rw [wBad_at (by omega), Bool.or_eq_false_iff] at this
            exact absurd this.1 (by decide)
          rw [wBad_at hin, decide_eq_false h6, Bool.eq_false_iff.mpr hnn]
          rfl
    · rintro σ H3 ⟨⟨v2, v3, rfl⟩, sm, hl⟩
      rw [List.length_map] at hl
      obtain ⟨e1, e2, e3, e4⟩ := none_bad hl
      have hlf : (us.filterMap lof).length ≤ 500 := by
        have := congrArg List.length e2
        rw [List.length_map] at this
        omega
      rw [e1] at h2
      refine ⟨_, rfl, fun x dx nx ndx _ => make_at nx ndx (.inl (SqL.of (sm _ _ h2))) hlf e3 fun H4 s4 W4 => ?_⟩
      exact kn (hnone hl) x H4 (((s1.trans s2).trans sm).trans s4) W4
end
end W03
set_option Elab.async false
set_option linter.all false
set_option maxRecDepth 100000
set_option maxHeartbeats 600000
namespace W03
open PySem L2 PySem.Spec PyProof.Rows WR WB
abbrev slashS : Str := ⟨#[47]⟩
theorem slash_eq : (Str.ofString "/") = ⟨#[47]⟩ := by decide +kernel
/-! ### the rows of rims, item by item -/
abbrev RgR := Nat ⊕ (List (List Int) × List Int)
def rgo (i : Nat) (rs : List (List Int)) (cur : List Int) : List Str → RgR
  | [] => .inr (rs, cur)
  | z :: r => if rs.flatten.length + cur.length = 24 then .inl i else match lof z with
    | some k => rgo (i + 1) rs (cur ++ [k]) r
    | none => if z = slashS ∧ cur ≠ [] ∧ rs.length < 3 then rgo (i + 1) (rs ++ [cur]) [] r else .inl i
theorem rgo_full {i : Nat} {rs : List (List Int)} {cur : List Int} {z : Str} {r : List Str} (h : rs.flatten.length + cur.length = 24) : rgo i rs cur (z :: r) = .inl i := if_pos h
theorem rgo_some {i : Nat} {rs : List (List Int)} {cur : List Int} {z : Str} {r : List Str} {k : Int} (h : ¬ rs.flatten.length + cur.length = 24) (e : lof z = some k) : rgo i rs cur (z :: r) = rgo (i + 1) rs (cur ++ [k]) r := by
  refine (if_neg h).trans ?_
  rw [e]
theorem rgo_cut {i : Nat} {rs : List (List Int)} {cur : List Int} {z : Str} {r : List Str} (h : ¬ rs.flatten.length + cur.length = 24) (e : lof z = none) (c : z = slashS ∧ cur ≠ [] ∧ rs.length < 3) : rgo i rs cur (z :: r) = rgo (i + 1) (rs ++ [cur]) [] r := by
  refine (if_neg h).trans ?_
  rw [e]
  exact if_pos c
theorem rgo_bad {i : Nat} {rs : List (List Int)} {cur : List Int} {z : Str} {r : List Str} (h : ¬ rs.flatten.length + cur.length = 24) (e : lof z = none) (c : ¬ (z = slashS ∧ cur ≠ [] ∧ rs.length < 3)) : rgo i rs cur (z :: r) = .inl i := by
  refine (if_neg h).trans ?_
  rw [e]
  exact if_neg c
/-- what the rows keep -/
def RgI (rs : List (List Int)) (cur : List Int) : Prop := rs.length ≤ 3 ∧ (∀ w ∈ rs, w ≠ []) ∧ rs.flatten.length + cur.length ≤ 24 ∧ Lts rs.flatten ∧ Lts cur
/-- the items of rows -/
def slF (rs : List (List Int)) (cur : List Int) : List Str := (rs.map fun w => w.map itm ++ [slashS]).flatten ++ cur.map itm
theorem Lts.snoc {ns : List Int} {k : Int} (h : Lts ns) (k1 : 1 ≤ k.natAbs ∧ k.natAbs ≤ 26) : Lts (ns ++ [k]) := fun x hx => by
  rcases List.mem_append.mp hx with hx | hx
  · exact h x hx
  · rw [List.mem_singleton.mp hx]
    exact k1
theorem flat_snoc (rs : List (List Int)) (cur : List Int) : (rs ++ [cur]).flatten = rs.flatten ++ cur := by
  rw [List.flatten_append]
  simp
theorem rgo_keeps : ∀ {zs : List Str} {i : Nat} {rs : List (List Int)} {cur : List Int} {rs' : List (List Int)} {cur' : List Int}, RgI rs cur → rgo i rs cur zs = .inr (rs', cur') → RgI rs' cur' ∧ slF rs cur ++ zs = slF rs' cur'
  | [], i, rs, cur, rs', cur', hI, h => by
    have h2 : (rs, cur) = (rs', cur') := Sum.inr.inj h
    obtain ⟨rfl, rfl⟩ := Prod.mk.inj h2
    exact ⟨hI, List.append_nil _⟩
  | z :: r, i, rs, cur, rs', cur', hI, h => by
    obtain ⟨h1, h2, h3, h4, h5⟩ := id hI
    by_cases hf : rs.flatten.length + cur.length = 24
    · rw [rgo_full hf] at h
      cases h
    · cases e : lof z with
      | some k =>
        rw [rgo_some hf e] at h
        obtain ⟨e1, e2⟩ := itm_lof e
        obtain ⟨r1, r2⟩ := rgo_keeps (zs := r) ⟨h1, h2, by rw [List.length_append]; show _ + (_ + 1) ≤ 24; omega, h4, h5.snoc e2⟩ h
        refine ⟨r1, ?_⟩
        rw [← r2]
        unfold slF
        rw [List.map_append]
        simp [e1]
      | none =>
        by_cases hc : z = slashS ∧ cur ≠ [] ∧ rs.length < 3
        · rw [rgo_cut hf e hc] at h
          obtain ⟨r1, r2⟩ := rgo_keeps (zs := r) ⟨by rw [List.length_append]; show _ + 1 ≤ 3; omega, fun w hw => by
            rcases List.mem_append.mp hw with hw | hw
            · exact h2 w hw
            · rw [List.mem_singleton.mp hw]
              exact hc.2.1, by rw [flat_snoc, List.length_append]; show _ + 0 ≤ 24; omega, by
            intro x hx
            rw [flat_snoc] at hx
            rcases List.mem_append.mp hx with hx | hx
            · exact h4 x hx
            · exact h5 x hx, fun x hx => absurd hx List.not_mem_nil⟩ h
          refine ⟨r1, ?_⟩
          rw [← r2]
          unfold slF
          simp [hc.1]
        · rw [rgo_bad hf e hc] at h
          cases h
theorem rgo_lt : ∀ {zs : List Str} {i : Nat} {rs : List (List Int)} {cur : List Int} {j : Nat}, rgo i rs cur zs = .inl j → i ≤ j ∧ j < i + zs.length
  | [], i, rs, cur, j, h => by cases h
  | z :: r, i, rs, cur, j, h => by
    rw [List.length_cons]
    by_cases hf : rs.flatten.length + cur.length = 24
    · rw [rgo_full hf] at h
      have : i = j := Sum.inl.inj h
      omega
    · cases e : lof z with
      | some k =>
        rw [rgo_some hf e] at h
        have := rgo_lt h
        omega
      | none =>
        by_cases hc : z = slashS ∧ cur ≠ [] ∧ rs.length < 3
        · rw [rgo_cut hf e hc] at h
          have := rgo_lt h
          omega
        · rw [rgo_bad hf e hc] at h
          have : i = j := Sum.inl.inj h
          omega
/-- the rows, laid as lists that are new -/
def RowsI (H0 H' : Hp) (R : Addr) (ys : List Addr) (b : Addr) (rs : List (List Int)) (cur : List Int) : Prop :=
  Same H0 H' ∧ H0 R = none ∧ H0 b = none ∧ H' R = some (.lst ((ys ++ [b]).map V.ref)) ∧ All2 (fun y ns => H' y = some (.lst (iv ns)) ∧ y ≠ b ∧ y ≠ R) ys rs ∧ H' b = some (.lst (iv cur)) ∧ b ≠ R
theorem RowsI.same {H0 H1 H2 : Hp} {R b : Addr} {ys : List Addr} {rs : List (List Int)} {cur : List Int} (h : RowsI H0 H1 R ys b rs cur) (s : Same H1 H2) : RowsI H0 H2 R ys b rs cur := by
  obtain ⟨h1, h2, h3, h4, h5, h6, h7⟩ := h
  exact ⟨h1.trans s, h2, h3, s _ _ h4, h5.imp fun _ _ q => ⟨s _ _ q.1, q.2⟩, s _ _ h6, h7⟩
/-- a letter more in the last row -/
theorem RowsI.put {H0 H1 : Hp} {R b : Addr} {ys : List Addr} {rs : List (List Int)} {cur : List Int} {k : Int} (h : RowsI H0 H1 R ys b rs cur) : RowsI H0 (L2.upd H1 b (.lst (iv cur ++ [.int k]))) R ys b rs (cur ++ [k]) := by
  obtain ⟨h1, h2, h3, h4, h5, h6, h7⟩ := h
  refine ⟨fun a o e => by rw [upd_ne (ne_of_none e h3)]; exact h1 _ _ e, h2, h3, by rw [upd_ne h7.symm]; exact h4, h5.imp fun _ _ q => ⟨by rw [upd_ne q.2.1]; exact q.1, q.2⟩, ?_, h7⟩
  rw [upd_same]
  simp [iv]
/-- a row more -/
theorem RowsI.new {H0 H1 : Hp} {R b b2 : Addr} {ys : List Addr} {rs : List (List Int)} {cur : List Int} (h : RowsI H0 H1 R ys b rs cur) (hb : H1 b2 = none) : RowsI H0 (L2.upd (L2.upd H1 b2 (.lst [])) R (.lst ((ys ++ [b]).map V.ref ++ [.ref b2]))) R (ys ++ [b]) b2 (rs ++ [cur]) [] := by
  obtain ⟨h1, h2, h3, h4, h5, h6, h7⟩ := h
  have nR : b2 ≠ R := (ne_of_none h4 hb).symm
  have nb : b ≠ b2 := ne_of_none h6 hb
  refine ⟨fun a o e => ?_, h2, h1.free hb, ?_, ?_, ?_, nR⟩
  · rw [upd_ne (ne_of_none e h2), upd_ne (ne_of_none (h1 _ _ e) hb)]
    exact h1 _ _ e
  · rw [upd_same, List.map_append (l₁ := ys ++ [b])]
    rfl
  · exact All2.app (h5.imp fun y ns q => ⟨by rw [upd_ne q.2.2, upd_ne (ne_of_none q.1 hb)]; exact q.1, ne_of_none q.1 hb, q.2.2⟩) (.cons ⟨by rw [upd_ne h7, upd_ne nb]; exact h6, nb, h7⟩ .nil)
  · rw [upd_ne nR, upd_same]
    rfl
theorem RowsI.all {H0 H1 : Hp} {R b : Addr} {ys : List Addr} {rs : List (List Int)} {cur : List Int} (h : RowsI H0 H1 R ys b rs cur) : All2 (fun y ns => H1 y = some (.lst (iv ns))) (ys ++ [b]) (rs ++ [cur]) :=
  All2.app (h.2.2.2.2.1.imp fun _ _ q => q.1) (.cons h.2.2.2.2.2.1 .nil)
abbrev sRows : Stmt := top 41
def spRows (K : PySem.W.Frag) (CT : Addr) : Sp := fun vs H Q E => ∃ (a : Addr) (zs : List Str), vs = [.ref a] ∧ SqL K H a (zs.map V.str) ∧ (∀ z ∈ zs, Fit z) ∧ zs.length ≤ 4001 ∧ (∀ i, rgo 0 [] [] zs = .inl i → BadT CT E H i) ∧
  (∀ rs cur, rgo 0 [] [] zs = .inr (rs, cur) → ∀ p H' xs, Same H H' → H' p = some (.lst (xs.map V.ref)) → All2 (fun y ns => H' y = some (.lst (iv ns))) xs (rs ++ [cur]) → Q (.ref p) H')
abbrev nRows : List Str := ["items", "rows", "many", "at", "item", "letter"]
theorem str_is {z : Str} {m : Str} : decide (V.str z = V.str m) = decide (z = m) := by
  rw [Bool.eq_iff_iff, decide_eq_true_iff, decide_eq_true_iff]
  exact ⟨fun e => by injection e, fun e => by rw [e]⟩
section
variable {P : Program} {w : World} {K : PySem.W.Frag} {mg : Str → Option Value} {base : Heap} {C CT : Addr}
theorem scRows : FnScope nRows ["items"] (defScope sRows) := ⟨rfl, rfl, rfl, by decide +kernel, rfl, by decide +kernel, by decide +kernel⟩
theorem ok_rows {f : Addr} {fd : FuncData} (F : Fun K "rows_of" "rows_of" sRows f fd) (TR : TxR mg) (TA : TxA mg) (GL : Cal P w K mg base "letter_of" 1 ["item"] spLOf) (ET : ErrC P w K mg base CT "BadText" ["self", "line", "item"] (spI2 CT)) : FnOk P w K mg base (L2.CX P w) 3 f fd ["items"] (spRows K CT) := by
  refine F.okX scRows (fun vs H Q E h => ?_) (fun cdv A outer s H vs Q E hr h => ?_)
  · obtain ⟨a, zs, rfl, _⟩ := h
    rfl
  · obtain ⟨a, zs, rfl, hS, hfit, hlen, kb, kn⟩ := h
    obtain ⟨tW, mW⟩ := TR.words
    obtain ⟨tP, mP⟩ := TR.places
    obtain ⟨fI, fdI, iC, tI, FI, bI⟩ := ET.ini
    refine ⟨_, pss_cons (ps_set (i := 1) scRows.nd rfl (Or.inl rfl) (pe_lst (pa_cons (pe_lst pa_nil) pa_nil)))
      (pss_cons (ps_set (i := 2) scRows.nd rfl (Or.inl rfl) pe_int)
      (pss_cons (ps_for (passes_of rfl) rfl (pi_enum (by rfl) TR.enum (pa_cons (pv 0) pa_nil)) (pg_tup (n := 2) rfl (pgs_cons (pg_name (i := 3) scRows.nd rfl (Or.inl rfl)) (pgs_cons (pg_name (i := 4) scRows.nd rfl (Or.inl rfl)) pgs_nil)))
        (pss_cons (ps_set (i := 5) scRows.nd rfl (Or.inl rfl) (pe_cal GL hr (by decide) (by rfl) (pa_cons (pv 4) pa_nil)))
        (pss_cons (ps_if (pt_cmpR op_eq (pv 2) (pe_glob (v := .int 24) (by rfl) mP ⟨_, rfl⟩) (nomark _)) (pss_one (ps_raise rfl (takes_of rfl rfl rfl rfl) (pmk_oex (dvs := []) ET.oex iC tI FI (hr.mono (by decide)) bI .nil pass0 (by rfl) ET.g (pa_cons pe_int (pa_cons (pv 3) pa_nil))))) pss_nil)
        (pss_one (ps_if (pt_cmpR op_notN (pv 5) pe_non (nomark _))
          (pss_cons (ps_expr (pe_bm PySem.F.plainAttrs_list PySem.F.slot_list_append PySem.F.type_list_append mt_append (pe_ix ix_list (pv 1) (pe_un un_neg pe_int) (fun _ _ => rfl)) (pa_cons (pv 5) pa_nil)))
          (pss_one (ps_aug (i := 2) scRows.nd rfl (Or.inl rfl) pe_int ip_add)))
          (pss_one (ps_if (PW.pt (pw_and (pt_cmpR op_eq (pv 4) pe_str (nomark _)) (pw_and (pt_truth (pe_ix ix_list (pv 1) (pe_un un_neg pe_int) (fun _ _ => rfl)) (by intro _; rfl)) (pw_and1 (pt_cmpR op_lt (pe_callB call_len_seq (by rfl) TA.len PySem.boot_len (pa_cons (pv 1) pa_nil)) (pe_glob (v := .int 4) (by rfl) mW ⟨_, rfl⟩) (nomark _))))))
            (pss_one (ps_expr (pe_bm PySem.F.plainAttrs_list PySem.F.slot_list_append PySem.F.type_list_append mt_append (pv 1) (pa_cons (pe_lst pa_nil) pa_nil))))
            (pss_one (ps_raise rfl (takes_of rfl rfl rfl rfl) (pmk_oex (dvs := []) ET.oex iC tI FI (hr.mono (by decide)) bI .nil pass0 (by rfl) ET.g (pa_cons pe_int (pa_cons (pv 3) pa_nil))))))))))))
      (pss_one (ps_ret (pv 1))))), ?_⟩
    refine ⟨Nat.zero_le _, fun b0 hb0 => ⟨by show 1 ≤ sizeLine; decide, fun R hR => ?_⟩⟩
    have s1 := same_upd (o := .lst []) hb0
    have nb : b0 ≠ R := fun e => by
      rw [← e, upd_same] at hR
      cases hR
    have hI0 : RowsI H (L2.upd (L2.upd H b0 (.lst [])) R (.lst [.ref b0])) R [] b0 [] [] := ⟨s1.trans (same_upd hR), s1.free hR, hb0, upd_same, .nil, by rw [upd_ne nb, upd_same]; rfl, nb⟩
    refine ⟨_, rfl, a, _, rfl, hI0.1.seq hS, ?_⟩
    refine for_it (walk_enum (K := K) (a := a) (xs := zs.map V.str)) (fun i σ H' => ∃ (v3 v4 v5 : Option V) (ys : List Addr) (b : Addr) (rs : List (List Int)) (cur : List Int), σ = [some (.ref a), some (.ref R), some (.int ((rs.flatten.length + cur.length : Nat) : Int)), v3, v4, v5] ∧ RowsI H H' R ys b rs cur ∧ RgI rs cur ∧ rgo 0 [] [] zs = rgo i rs cur (zs.drop i))
      ⟨none, none, none, [], b0, [], [], rfl, hI0, ⟨Nat.zero_le _, fun w hw => (nomatch hw), Nat.zero_le _, fun x hx => (nomatch hx), fun x hx => (nomatch hx)⟩, by rw [List.drop_zero]⟩ (fun i σ H' _ ⟨_, _, _, _, _, _, _, _, hI, _⟩ => hI.1.seq hS) ?_ ?_
    · rintro i x σ H3 H4 hi ⟨v3, v4, v5, ys, b, rs, cur, rfl, hI, hG, hgo⟩ ⟨T0, xi, yi, rfl, hT0, rfl, hx, hy⟩
      have hin : i < zs.length := by rw [List.length_map] at hi; exact hi
      obtain rfl := Option.some.inj hx
      have ey : yi = V.str zs[i] := by
        have hy : (zs.map V.str)[i]? = some yi := hy
        rw [List.getElem?_map, List.getElem?_eq_getElem hin] at hy
        exact (Option.some.inj hy).symm
      subst ey
      have hzf := hfit zs[i] (List.getElem_mem hin)
      rw [List.drop_eq_getElem_cons hin] at hgo
      have sT := same_upd (o := .tup [.int (i : Int), V.str zs[i]]) hT0
      have hI2 := hI.same sT
      refine ⟨T0, _, rfl, SqT.of upd_same, rfl, _, _, rfl, _, _, rfl, rfl, ?_⟩
      generalize zs[i] = z at hzf hgo hI2 ⊢
      have raise : rgo 0 [] [] zs = .inl i → BadT CT E (L2.upd H3 T0 (.tup [.int (i : Int), V.str z])) i := fun hb H5 s5 d hd => kb i hb H5 (hI2.1.trans s5) d hd
      generalize L2.upd H3 T0 (.tup [.int (i : Int), V.str z]) = H5 at hI2 raise ⊢
      obtain ⟨j1, j2, j3, j4, j5, j6, j7⟩ := id hI2
      have atL : atI ((ys ++ [b]).map V.ref) (-1) = some (V.ref b) := by
        rw [List.map_append]
        exact atI_last _ _
      have lys := j5.length
      refine ⟨_, rfl, z, rfl, hzf, ?_⟩
      refine ⟨_, rfl, rfl, _, rfl, ?_⟩
      by_cases hf : rs.flatten.length + cur.length = 24
      · refine iteT' (decide_eq_true (by rw [hf]; rfl)) ?_
        exact ⟨_, rfl, by show 2 ≤ 1000; decide, mk2 (Q := fun cls d H' => E cls d H') fun d hd => raise (hgo.trans (rgo_full hf)) _ (Same.refl _) d hd⟩
      refine iteF' (decide_eq_false fun q => ?_) ?_
      · have q2 : ((rs.flatten.length + cur.length : Nat) : Int) = 24 := by injection q
        omega
      refine ⟨_, rfl, rfl, _, rfl, ?_⟩
      cases e : lof z with
      | some k =>
        refine iteT' rfl ?_
        obtain ⟨e1, e2⟩ := itm_lof e
        refine ⟨_, rfl, _, rfl, R, _, _, _, rfl, rfl, SqL.of j4, atL, .inl ⟨rfl, _, SqL.of j6⟩, _, rfl, b, _, _, rfl, rfl, j6, Evl.sz_lt (by rw [List.length_map]; have := hG.2.2.1; omega), ?_⟩
        refine ⟨_, rfl, _, _, rfl, rfl, ?_⟩
        refine ⟨some (.int (i : Int)), some (.str z), some (.int k), ys, b, rs, cur ++ [k], ?_, hI2.put, ⟨hG.1, hG.2.1, ?_, hG.2.2.2.1, hG.2.2.2.2.snoc e2⟩, hgo.trans (rgo_some hf e)⟩
        · rw [List.length_append]
          show _ = [some (V.ref a), some (V.ref R), some (V.int ((rs.flatten.length + (cur.length + 1) : Nat) : Int)), _, _, _]
          have : ((rs.flatten.length + (cur.length + 1) : Nat) : Int) = ((rs.flatten.length + cur.length : Nat) : Int) + 1 := by omega
          rw [this]
          rfl
        · rw [List.length_append]
          show _ + (_ + 1) ≤ 24
          have := hG.2.2.1
          omega
      | none =>
        refine iteF' rfl ?_
        refine ⟨_, rfl, rfl, _, rfl, ?_⟩
        rw [str_is, slash_eq]
        by_cases h1 : z = slashS
        · refine iteT' (decide_eq_true h1) ?_
          refine ⟨_, rfl, _, rfl, R, _, _, _, rfl, rfl, SqL.of j4, atL, _, .inl ⟨_, SqL.of j6, rfl⟩, ?_⟩
          by_cases h2 : cur = []
          · refine iteF' (by rw [h2]; rfl) ?_
            refine iteF ?_
            exact ⟨_, rfl, by show 2 ≤ 1000; decide, mk2 (Q := fun cls d H' => E cls d H') fun d hd => raise (hgo.trans (rgo_bad hf e fun q => q.2.1 h2)) _ (Same.refl _) d hd⟩
          refine iteT' (by
            cases cur with
            | nil => exact absurd rfl h2
            | cons => rfl) ?_
          refine ⟨_, rfl, R, _, rfl, .inl (SqL.of j4), _, _, rfl, rfl, _, rfl, ?_⟩
          have el : (((ys ++ [b]).map V.ref).length : Int) = (rs.length : Int) + 1 := by
            rw [List.length_map, List.length_append, lys]
            rfl
          by_cases h3 : rs.length < 3
          · refine iteT' (decide_eq_true (by rw [el]; omega)) ?_
            refine ⟨_, rfl, .inl ⟨rfl, _, SqL.of j4⟩, Nat.zero_le _, fun b2 hb2 => ?_⟩
            have j4' : (L2.upd H5 b2 (.lst [])) R = some (.lst ((ys ++ [b]).map V.ref)) := by rw [upd_ne (ne_of_none j4 hb2)]; exact j4
            refine ⟨R, _, _, rfl, rfl, j4', Evl.sz_lt (by have := el; omega), ?_⟩
            refine ⟨some (.int (i : Int)), some (.str z), some .non, ys ++ [b], b2, rs ++ [cur], [], ?_, hI2.new hb2, ⟨by rw [List.length_append]; show _ + 1 ≤ 3; omega, fun w hw => ?_, ?_, ?_, fun x hx => (nomatch hx)⟩, hgo.trans (rgo_cut hf e ⟨h1, h2, h3⟩)⟩
            · have : (rs ++ [cur]).flatten.length + ([] : List Int).length = rs.flatten.length + cur.length := by rw [flat_snoc, List.length_append]; rfl
              rw [this]
              rfl
            · rcases List.mem_append.mp hw with hw | hw
              · exact hG.2.1 w hw
              · rw [List.mem_singleton.mp hw]
                exact h2
            · have := hG.2.2.1
              rw [flat_snoc, List.length_append]
              show _ + 0 ≤ 24
              omega
            · intro x hx
              rw [flat_snoc] at hx
              rcases List.mem_append.mp hx with hx | hx
              · exact hG.2.2.2.1 x hx
              · exact hG.2.2.2.2 x hx
          · refine iteF' (decide_eq_false (by rw [el]; omega)) ?_
            exact ⟨_, rfl, by show 2 ≤ 1000; decide, mk2 (Q := fun cls d H' => E cls d H') fun d hd => raise (hgo.trans (rgo_bad hf e fun q => h3 q.2.2)) _ (Same.refl _) d hd⟩
        · refine iteF' (decide_eq_false h1) ?_
          refine iteF ?_
          exact ⟨_, rfl, by show 2 ≤ 1000; decide, mk2 (Q := fun cls d H' => E cls d H') fun d hd => raise (hgo.trans (rgo_bad hf e fun q => h1 q.1)) _ (Same.refl _) d hd⟩
    · rintro σ H3 ⟨v3, v4, v5, ys, b, rs, cur, rfl, hI, hG, hgo⟩
      rw [List.length_map, List.drop_length] at hgo
      exact ⟨_, rfl, kn rs cur hgo R H3 (ys ++ [b]) hI.1 hI.2.2.2.1 hI.all⟩
end
end W03
set_option Elab.async false
set_option linter.all false
set_option maxRecDepth 100000
set_option maxHeartbeats 600000
namespace W03
open PySem L2 PySem.Spec PyProof.Rows WR WB
def rimsPl (zs : List Str) : Option Nat := match rgo 0 [] [] zs with
  | .inl i => some i
  | .inr (rs, cur) => if cur = [] then some zs.length else if Fr.bal (rs ++ [cur]).flatten = [] then none else some (zs.length - 1)
def rowsOf (zs : List Str) : List (List Int) := match rgo 0 [] [] zs with
  | .inl _ => []
  | .inr (rs, cur) => rs ++ [cur]
theorem rimsPl_l {zs : List Str} {i : Nat} (h : rgo 0 [] [] zs = .inl i) : rimsPl zs = some i := by
  unfold rimsPl
  rw [h]
theorem rimsPl_r {zs : List Str} {rs : List (List Int)} {cur : List Int} (h : rgo 0 [] [] zs = .inr (rs, cur)) : rimsPl zs = if cur = [] then some zs.length else if Fr.bal (rs ++ [cur]).flatten = [] then none else some (zs.length - 1) := by
  unfold rimsPl
  rw [h]
theorem rowsOf_r {zs : List Str} {rs : List (List Int)} {cur : List Int} (h : rgo 0 [] [] zs = .inr (rs, cur)) : rowsOf zs = rs ++ [cur] := by
  unfold rowsOf
  rw [h]
theorem rgI0 : RgI [] [] := ⟨Nat.zero_le _, fun w hw => (nomatch hw), Nat.zero_le _, fun x hx => (nomatch hx), fun x hx => (nomatch hx)⟩
/-- what stands where nothing is refused -/
theorem rims_ok {zs : List Str} (h : rimsPl zs = none) : ∃ rs cur, rgo 0 [] [] zs = .inr (rs, cur) ∧ RimOk (rowsOf zs) ∧ rowsOf zs = rs ++ [cur] ∧ zs = slF rs cur ∧ (∀ w ∈ rowsOf zs, w ≠ []) := by
  cases e : rgo 0 [] [] zs with
  | inl i =>
    rw [rimsPl_l e] at h
    cases h
  | inr p =>
    obtain ⟨rs, cur⟩ := p
    rw [rimsPl_r e] at h
    split at h
    · cases h
    · rename_i hc
      split at h
      · rename_i hb
        obtain ⟨⟨h1, h2, h3, h4, h5⟩, h6⟩ := rgo_keeps rgI0 e
        have hne : ∀ w ∈ rs ++ [cur], w ≠ [] := fun w hw => by
          rcases List.mem_append.mp hw with hw | hw
          · exact h2 w hw
          · rw [List.mem_singleton.mp hw]
            exact hc
        refine ⟨rs, cur, rfl, ?_, rowsOf_r e, h6, by rw [rowsOf_r e]; exact hne⟩
        rw [rowsOf_r e]
        refine ⟨by rw [List.length_append]; show 1 ≤ _ + 1; omega, by rw [List.length_append]; show _ + 1 ≤ 4; omega, hne, by rw [flat_snoc, List.length_append]; exact h3, ?_, hb⟩
        intro x hx
        rw [flat_snoc] at hx
        rcases List.mem_append.mp hx with hx | hx
        · exact h4 x hx
        · exact h5 x hx
      · cases h
abbrev sReadR : Stmt := inClass (top 39) 5
def spReadR (K : PySem.W.Frag) (C CR CT : Addr) : Sp := fun vs H Q E => ∃ x : V, vs = [x] ∧ ((NotS H x ∧ BadT CT E H 0) ∨
  ∃ z, x = .str z ∧ Fit z ∧ (∀ i, rimsPl (sp z) = some i → BadT CT E H i) ∧ (rimsPl (sp z) = none → ∀ p H' xs, Same H H' → RimsAt K C CR H' p xs (rowsOf (sp z)) → Q (.ref p) H'))
theorem pi_listK {X : Cx} {K : PySem.W.Frag} {tg l : Expr} {tl : TE} (h : X.K = K) (hl : PE X l tl) : PI X tg l (iList K tl) := by
  subst h
  exact pi_list hl
theorem pe_wordK {X : Cx} {K : PySem.W.Frag} {C : Addr} {p pos : Pos} {e : Expr} {es : List Expr} {t : TA} {j : Nat} (hK : X.K = K) (M : MkW X.prog X.w K X.mg X.base C) (T : TxW K X.mg C) (hr : Room j X.A) (hkj : 5 ≤ j) (hg : Gl X "Word") (ha : PA X (e :: es) t)
    (he : starEach (e :: es) X.env = (false, eval e X.env) :: starEach es X.env := by rfl) (hpl : (backTo pos (starEach es X.env)).any (·.1) = false := by rfl) : PE X (.Call (.Name "Word" p) (e :: es) [] pos) (tMake C (spInit K C) [] E0 t) := by
  subst hK
  exact pe_word M T hr hkj hg ha he hpl
theorem all_word {K : PySem.W.Frag} {C : Addr} {H : Hp} {vs : List V} {ws : List (List Int)} (h : All2 (fun v ns => ∃ q, v = V.ref q ∧ WordAt K C H q ns) vs ws) : ∃ qs : List Addr, vs = qs.map V.ref ∧ Wds K C H qs ws := by
  induction h with
  | nil => exact ⟨[], rfl, .nil⟩
  | cons h1 _ ih =>
    obtain ⟨q, rfl, hq⟩ := h1
    obtain ⟨qs, rfl, hqs⟩ := ih
    exact ⟨q :: qs, rfl, .cons hq hqs⟩
theorem all2_snoc {α β : Type} {R : α → β → Prop} {xs : List α} {ys : List β} {y : β} (h : All2 R xs (ys ++ [y])) : ∃ us u, xs = us ++ [u] ∧ All2 R us ys ∧ R u y := by
  induction ys generalizing xs with
  | nil =>
    cases h with
    | cons h1 h2 =>
      cases h2
      exact ⟨[], _, rfl, .nil, h1⟩
  | cons a r ih =>
    cases h with
    | cons h1 h2 =>
      obtain ⟨us, u, rfl, h3, h4⟩ := ih h2
      exact ⟨_ :: us, u, rfl, .cons h1 h3, h4⟩
theorem nx_tru_lc2 {sq : Sp} {K : PySem.W.Frag} {wi wi1 : TI} {g g1 : TG} {tt tt1 : TT} {te : TE} {vs vs1 : List Nat} {D : Ends} {σ : L2.St} {H : Hp} {A B Cc : TS} {b1 b2 : L2.St → Hp → Prop} {rt : VK}
    (h : wi σ H fun J H1 => tLc2 (fun _ H R => R J H) g tt wi1 g1 tt1 te vs vs1 σ H1 fun y H2 => sq [y] H2 (fun x H' => ∃ k, TruV K x H' k ∧ if k = true then A { D with nx := Cc D } σ H' else B { D with nx := Cc D } σ H') E0) :
    tNext { nx := tSeq (tIfS (fun σ H Q => tCall sq [] E0 (tCons (tLc2 wi g tt wi1 g1 tt1 te vs vs1) tNil) σ H fun x H' => ∃ k, TruV K x H' k ∧ Q k H') A B) Cc D, rt := rt, bk := b1, ct := b2 } σ H := h
theorem nx_mk_lc {C : Addr} {sq : Sp} {wi : TI} {g : TG} {tt : TT} {te : TE} {vs : List Nat} {D : Ends} {σ : L2.St} {H : Hp} {rt : VK} {b1 b2 : L2.St → Hp → Prop}
    (h : wi σ H fun J H1 => tLc (fun _ H R => R J H) g tt te vs σ H1 fun y H2 => tMake C sq [] E0 (fun _ H Q => Q [y] H) σ H2 D.rt) : tNext { nx := tRet (tMake C sq [] E0 (tCons (tLc wi g tt te vs) tNil)) D, rt := rt, bk := b1, ct := b2 } σ H := h
theorem SqB.keptL {K : PySem.W.Frag} {H H' : Hp} {l q : Addr} {vs xs : List V} (hl : H l = some (.lst vs)) (d : Kept l H H') (h : SqB K H q xs) : SqB K H' q xs := by
  refine ⟨SqT.keptL hl d h.sq, ?_⟩
  obtain ⟨o, u, e, z⟩ := h.bare
  refine ⟨o, u, d _ _ (fun c => ?_) e, z⟩
  subst c
  rw [hl] at e
  cases e
theorem WordAt.keptL {K : PySem.W.Frag} {C : Addr} {H H' : Hp} {l p : Addr} {vs : List V} {ns : List Int} (hl : H l = some (.lst vs)) (d : Kept l H H') (h : WordAt K C H p ns) : WordAt K C H' p ns := by
  obtain ⟨dx, tl, tk, ks, h1, h2, h3, h4⟩ := h
  refine ⟨dx, tl, tk, ks, d _ _ (fun z => ?_) h1, SqB.keptL hl d h2, SqT.keptL hl d h3, h4⟩
  rw [z, hl] at h1
  cases h1
abbrev nReadR : List Str := ["text", "items", "rows", "row", "letter"]
section
variable {P : Program} {w : World} {K : PySem.W.Frag} {mg : Str → Option Value} {base : Heap} {C CR CT : Addr}
theorem scReadR : FnScope nReadR ["text"] (defScope sReadR) := ⟨rfl, rfl, rfl, by decide +kernel, rfl, by decide +kernel, by decide +kernel⟩
theorem ok_readR {f : Addr} {fd : FuncData} (F : Fun K "read" "Rims.read" sReadR f fd) (T : TxW K mg C) (TC : TxRC K mg CR) (TA : TxA mg) (M : MkW P w K mg base C) (MR : MkR P w K mg base C CR) (GI : CalX P w K mg base "items_of" 3 ["text"] (spItems CT)) (GW : CalX P w K mg base "rows_of" 3 ["items"] (spRows K CT)) (GB : Cal P w K mg base "balance_of" 2 ["letters"] (spBalOf K)) (ET : ErrC P w K mg base CT "BadText" ["self", "line", "item"] (spI2 CT)) : FnOk P w K mg base (L2.CX P w) 6 f fd ["text"] (spReadR K C CR CT) := by
  refine F.okX scReadR (fun vs H Q E h => ?_) (fun cdv A outer s H vs Q E hr h => ?_)
  · obtain ⟨ns, rfl, _⟩ := h
    rfl
  · obtain ⟨x, rfl, h⟩ := h
    obtain ⟨fI, fdI, iC, tI, FI, bI⟩ := ET.ini
    refine ⟨_, pss_cons (ps_set (i := 1) scReadR.nd rfl (Or.inl rfl) (pe_calX GI hr (by decide) (passes_call (takes_of rfl rfl rfl rfl) (fun _ _ _ _ h => h)) (by rfl) (pa_cons (pv 0) pa_nil)))
      (pss_cons (ps_set (i := 2) scReadR.nd rfl (Or.inl rfl) (pe_calX GW hr (by decide) (passes_call (takes_of rfl rfl rfl rfl) (fun _ _ _ _ h => h)) (by rfl) (pa_cons (pv 1) pa_nil)))
      (pss_cons (ps_if (pt_not (pt_truth (pe_ix ix_list (pv 2) (pe_un un_neg pe_int) (fun _ _ => rfl)) (by intro _; rfl))) (pss_one (ps_raise rfl (takes_of rfl rfl rfl rfl) (pmk_oex (dvs := []) ET.oex iC tI FI (hr.mono (by decide)) bI .nil pass0 (by rfl) ET.g (pa_cons pe_int (pa_cons (pe_callB call_len_seq (by rfl) TA.len PySem.boot_len (pa_cons (pv 1) pa_nil)) pa_nil))))) pss_nil)
      (pss_cons (ps_if (pt_truth (pe_cal GB hr (by decide) (by rfl) (pa_cons (pe_lc2 (own := [("row", 3), ("letter", 4)]) (vs1 := [4]) (g := gName 3) (tt := tYes) (g1 := gName 4) (tt1 := tYes) rfl scReadR.nd (pi_list (pv 2))
          (blkOk_by (N := nReadR) (sc := defScope sReadR) (by decide +kernel)) (by decide) (fun _ _ _ _ _ => pg_name (i := 3) scReadR.nd rfl (Or.inl rfl)) (fun _ _ _ _ _ => pts_nil)
          (fun _ _ _ _ _ => pi_listK (K := K) rfl (pv 3)) (fun _ _ _ _ _ => pg_name (i := 4) scReadR.nd rfl (Or.inl rfl)) (fun _ _ _ _ _ => pts_nil) (fun _ _ _ _ _ => pv 4)) pa_nil)) (by intro _; rfl))
        (pss_one (ps_raise rfl (takes_of rfl rfl rfl rfl) (pmk_oex (dvs := []) ET.oex iC tI FI (hr.mono (by decide)) bI .nil pass0 (by rfl) ET.g (pa_cons pe_int (pa_cons (pe_op op_sub (pe_callB call_len_seq (by rfl) TA.len PySem.boot_len (pa_cons (pv 1) pa_nil)) pe_int) pa_nil))))) pss_nil)
      (pss_one (ps_ret (pe_rims (mg := mg) MR TC hr (by decide) (by rfl) (pa_cons (pe_lc (own := [("row", 3)]) (g := gName 3) (tt := tYes) rfl scReadR.nd (pi_list (pv 2))
          (blkOk_by (N := nReadR) (sc := defScope sReadR) (by decide +kernel)) (fun _ _ _ _ _ => pg_name (i := 3) scReadR.nd rfl (Or.inl rfl)) (fun _ _ _ _ _ => pts_nil)
          (fun _ _ _ _ _ => pe_wordK (K := K) rfl M T hr (by decide) (by rfl) (pa_cons (pv 3) pa_nil))) pa_nil))))))), ?_⟩
    rcases h with ⟨hn, kb⟩ | ⟨z, rfl, hf, kb, kn⟩
    · exact ⟨_, rfl, x, rfl, .inl ⟨hn, kb⟩⟩
    refine ⟨_, rfl, .str z, rfl, .inr ⟨z, rfl, hf, fun p H1 hp0 s1 h1 => ?_⟩⟩
    have hfit : ∀ y ∈ sp z, Fit y := fun y hy => sp_fit hf hy
    have hlen := sp_len hf
    have hne := sp_ne z
    generalize sp z = zs at h1 kb kn hfit hlen hne
    refine at_set ?_
    try dsimp only
    refine ⟨_, rfl, p, zs, rfl, SqL.of h1, hfit, hlen, fun i hi => fun H2 s2 d hd => kb i (rimsPl_l hi) H2 (s1.trans s2) d hd, fun rs cur hgo R H2 xs s2 hR hxs => ?_⟩
    refine at_set ?_
    try dsimp only
    obtain ⟨ys, b, rfl, _, hb⟩ := all2_snoc hxs
    have atL : atI ((ys ++ [b]).map V.ref) (-1) = some (V.ref b) := by
      rw [List.map_append]
      exact atI_last _ _
    have h12 := s2 _ _ h1
    refine ⟨_, rfl, _, rfl, R, _, _, _, rfl, rfl, SqL.of hR, atL, _, .inl ⟨_, SqL.of hb, rfl⟩, ?_⟩
    have s02 := s1.trans s2
    by_cases hc : cur = []
    · subst hc
      refine iteT ?_
      refine ⟨_, rfl, p, _, rfl, .inl (SqL.of h12), ?_⟩
      refine ⟨by show 2 ≤ 1000; decide, ?_⟩
      have e : ((zs.map V.str).length : Int) = ((zs.length : Nat) : Int) := by rw [List.length_map]
      rw [e]
      refine mk2 (Q := fun cls d H' => E cls d H') fun d hd => kb zs.length ?_ H2 s02 d hd
      rw [rimsPl_r hgo, if_pos rfl]
    refine iteF' (by
      cases cur with
      | nil => exact absurd rfl hc
      | cons => rfl) ?_
    obtain ⟨⟨g1, g2, g3, g4, g5⟩, g6⟩ := rgo_keeps rgI0 hgo
    obtain ⟨xs, exs⟩ : ∃ xs, xs = ys ++ [b] := ⟨_, rfl⟩
    obtain ⟨ws, ews⟩ : ∃ ws, ws = rs ++ [cur] := ⟨_, rfl⟩
    rw [← exs] at hR hxs atL
    rw [← ews] at hxs
    have efl : ws.flatten = rs.flatten ++ cur := by rw [ews, flat_snoc]
    have lws : ws.length ≤ 4 := by rw [ews, List.length_append]; show _ + 1 ≤ 4; omega
    have l24 : ws.flatten.length ≤ 24 := by rw [efl, List.length_append]; exact g3
    have hl : Lts ws.flatten := by
      intro x hx
      rw [efl] at hx
      rcases List.mem_append.mp hx with hx | hx
      · exact g4 x hx
      · exact g5 x hx
    have lxw := hxs.length
    refine nx_tru_lc2 ?_
    refine ⟨_, rfl, R, rfl, ⟨_, SqL.of hR⟩, ?_⟩
    refine lc2_out (walk_list (xs := xs.map V.ref)) (fun i => iv (ws.getD i [])) (fun H s => SqL.of (s _ _ hR)) ?_ ?_
    · rintro i x D H3 H4 hi ⟨rfl, hx⟩ hD sm hDD Nx kN
      obtain ⟨q, hq, rfl⟩ : ∃ q, xs[i]? = some q ∧ x = V.ref q := by
        rw [List.getElem?_map] at hx
        cases e : xs[i]? with
        | none => rw [e] at hx; cases hx
        | some q => rw [e] at hx; exact ⟨q, rfl, (Option.some.inj hx).symm⟩
      obtain ⟨u, hu, hqu⟩ := hxs.at hq
      have eu : ws.getD i [] = u := by rw [List.getD_eq_getElem?_getD, hu]; rfl
      have hqu4 := sm _ _ hqu
      refine ⟨rfl, yes_te ?_⟩
      refine ⟨_, rfl, q, rfl, ⟨_, SqL.of hqu4⟩, ?_⟩
      have hft := flat_take hu
      refine lc2_in (walk_list (xs := iv u)) (fun y => y) hD sm hDD ?_ (fun H s => SqL.of (s _ _ hqu)) ?_ ?_
      · rw [flat_to (by have := (List.getElem?_eq_some_iff.mp hu).1; omega)]
        rw [List.length_map, List.length_map]
        omega
      · intro y hy H2 s2 Qy ky Qn
        exact ⟨rfl, yes_te ⟨_, rfl, ky H2 (fun _ _ e => e)⟩⟩
      · intro H2 s2 h2
        refine kN H2 s2 ?_
        rw [h2, List.map_id', eu]
    intro D H3 hD s3 h3
    have eD : ((List.range (xs.map V.ref).length).map fun i => iv (ws.getD i [])).flatten = iv ws.flatten := by
      rw [List.length_map, lxw, flat_to (Nat.le_refl _), List.take_length]
    rw [eD] at h3
    have s03 := s02.trans s3
    refine ⟨D, ws.flatten, rfl, SqL.of h3, by omega, hl, fun pb H4 s4 hB => ?_⟩
    obtain ⟨vs, hv1, hv2⟩ := hB
    have s04 := s03.trans s4
    have h14 := s4 _ _ (s3 _ _ h12)
    have lvs := hv2.length
    refine ⟨_, .inr (.inl ⟨_, hv1, rfl⟩), ?_⟩
    by_cases hb0 : Fr.bal ws.flatten = []
    · rw [hb0] at lvs
      have : vs = [] := List.length_eq_zero_iff.mp lvs
      subst this
      refine iteF ?_
      have hnone : rimsPl zs = none := by rw [rimsPl_r hgo, if_neg hc, ← ews, if_pos hb0]
      obtain ⟨rs', cur', hgo', hok, _⟩ := rims_ok hnone
      have er : rowsOf zs = ws := by rw [rowsOf_r hgo, ews]
      rw [er] at hok
      refine nx_mk_lc ?_
      have s24 := s3.trans s4
      refine ⟨_, rfl, R, rfl, ⟨_, SqL.of (s24 _ _ hR)⟩, ?_⟩
      refine lcM (walk_list (K := K) (a := R) (xs := xs.map V.ref)) ws (fun _ H v ns => ∃ q, v = V.ref q ∧ WordAt K C H q ns) (fun _ _ _ _ _ ⟨q, e, h⟩ s => ⟨q, e, h.same s⟩) ?_ (by rw [List.length_map]; omega) (by rw [List.length_map]; exact lxw) (fun H s => SqL.of (s _ _ (s24 _ _ hR))) ?_ (fun x σ1 H A B k h => gName_mono k h) ?_
      · rintro D2 H5 ws5 o v ns hD5 ⟨q, e, h⟩
        exact ⟨q, e, h.keptL hD5 Kept.upd⟩
      · intro i x u hx hu D2 H5 hD2 _ s5 Qy ky
        obtain ⟨q, hq, rfl⟩ : ∃ q, xs[i]? = some q ∧ x = V.ref q := by
          rw [List.getElem?_map] at hx
          cases e : xs[i]? with
          | none => rw [e] at hx; cases hx
          | some q => rw [e] at hx; exact ⟨q, rfl, (Option.some.inj hx).symm⟩
        obtain ⟨u', hu', hqu⟩ := hxs.at hq
        obtain rfl : u' = u := Option.some.inj (hu'.symm.trans hu)
        have hmem := List.mem_of_getElem? hu
        have hlu : u'.length ≤ 24 := Nat.le_trans (word_le hmem) l24
        refine ⟨rfl, _, rfl, fun xw dxw nx ndx _ => make_at nx ndx (.inl (SqL.of (s5 _ _ (s24 _ _ hqu)))) (by omega) (hl.word hmem) fun H6 s6 W6 => ?_⟩
        exact ky _ H6 s6 ⟨xw, rfl, W6⟩
      intro D2 H5 vs2 hD2 s5 h5 r5
      obtain ⟨qs, eqs, hW⟩ := all_word r5
      rw [eqs] at h5
      intro px dpx npx ndpx _
      refine rims_at npx ndpx (SqL.of h5) hW hok fun H6 s6 R6 => ?_
      refine kn hnone px H6 qs ((s04.trans s5).trans s6) ?_
      rw [er]
      exact R6
    · have hne2 : vs ≠ [] := fun e => hb0 (List.length_eq_zero_iff.mp (by rw [← lvs, e]; rfl))
      refine iteT' (by
        cases vs with
        | nil => exact absurd rfl hne2
        | cons => rfl) ?_
      refine ⟨_, rfl, p, _, rfl, .inl (SqL.of h14), _, _, rfl, rfl, ?_⟩
      refine ⟨by show 2 ≤ 1000; decide, ?_⟩
      have hz0 : 0 < zs.length := List.length_pos_iff.mpr hne
      have e : ((zs.map V.str).length : Int) - 1 = ((zs.length - 1 : Nat) : Int) := by rw [List.length_map]; omega
      show ∀ a, _ → spI2 CT [.ref a, .int 0, .int (((zs.map V.str).length : Int) - 1)] _ _ _
      rw [e]
      refine mk2 (Q := fun cls d H' => E cls d H') fun d hd => kb (zs.length - 1) ?_ H4 s04 d hd
      rw [rimsPl_r hgo, if_neg hc, ← ews, if_neg hb0]
end
end W03
set_option Elab.async false
set_option linter.all false
set_option maxRecDepth 100000
set_option maxHeartbeats 600000
namespace W03
open PySem L2 PySem.Spec PyProof.Rows WR WB
/-! ### a staticmethod that may raise -/
/-- C.m(..) by place -/
def tSX (C : Addr) (sq : Sp) (E : XK) (ta : TE) (t : TA) : TE := fun σ H Q => ta σ H fun x H1 => x = .ref C ∧ t σ H1 fun vs H2 => sq vs H2 Q E
structure SMx (P : Program) (w : World) (K : PySem.W.Frag) (mg : Str → Option Value) (base : Heap) (C : Addr) (m : Str) (k : Nat) (ps : List Str) (sq : Sp) : Prop where
  ex : ∃ (mc : Value) (p g : Addr) (fd : FuncData), MStat.SMet K C mc m p g ∧ FnOk P w K mg base (L2.CX P w) k g fd ps sq ∧ Binds K fd ps []
theorem pe_sx {X : Cx} {k j : Nat} {C : Addr} {sq : Sp} {E : XK} {ps : List Str} {o e : Expr} {es : List Expr} {m : Str} {pos apos : Pos} {ta : TE} {t : TA} {pl : Sem Bool}
    (S : SMx X.prog X.w X.K X.mg X.base C m k ps sq) (he : PE X o ta) (hr : Room j X.A) (hkj : k ≤ j) (hx : Passes (L2.CX X.prog X.w) X E) (ha : PA X (e :: es) t)
    (hst : starEach (e :: es) X.env = (false, eval e X.env) :: starEach es X.env := by rfl) (hpl : (backTo pos (starEach es X.env)).any (·.1) = false := by rfl)
    (ht : eval (.Call (.Attribute o m apos) (e :: es) [] pos) X.env = (do
      let ov ← eval o X.env
      standAt apos.atName
      let (f, first) ← holding [ov] (getMethod ov m pl)
      callWith pos f first (backTo pos (starEach (e :: es) X.env)) (backToKw pos (keywordEach [] X.env))) := by rfl) :
    PE X (.Call (.Attribute o m apos) (e :: es) [] pos) (tSX C sq E ta t) := by
  obtain ⟨mc, p, g, fd, c, F, hb⟩ := S.ex
  refine ⟨fun pins s σ H Q I h => ?_⟩
  refine PySem.W.methodCall_KW (pl := pl) (thn (he.run pins s σ H _ I h) fun u s1 ⟨x, H1, I1, rx, ex, q⟩ => ?_) ht
  subst ex
  obtain rfl : u = Value.ref C := rx
  refine MStat.getsm_ok I1 c fun s2 I2 => ?_
  refine PySem.W.callWith_K (first := []) (h₀ := X.base) I2.ok.mod.kin c.kp (thn (ha.run pos pins s2 σ H1 _ I2 q) fun us s3 ⟨vs, H2, I3, rv, q2⟩ => ⟨I3.kIn, ?_⟩) hst hpl
  exact run_fn (us := us) (vs := vs) (dvs := []) (ds := []) F (hr.mono hkj) hb .nil hx I3 rv (by simpa using q2)
/-! ### read and heard -/
def kS (b : Bool) : Str := if b = true then "word" else "rims"
theorem kS_eq (b : Bool) : decide (V.str (kS b) = V.str (Str.ofString "word")) = b := by
  cases b <;> decide +kernel
def plF (b : Bool) (zs : List Str) : Option Nat := if b = true then wordPl zs else rimsPl zs
abbrev sRead : Stmt := top 54
abbrev sHeard : Stmt := top 55
def spRead (K : PySem.W.Frag) (C CR CT : Addr) : Sp := fun vs H Q E => ∃ (b : Bool) (x : V), vs = [.str (kS b), x] ∧ ((NotS H x ∧ BadT CT E H 0) ∨
  ∃ z, x = .str z ∧ Fit z ∧ (∀ i, plF b (sp z) = some i → BadT CT E H i) ∧ (plF b (sp z) = none → (b = true → NewW K C H Q ((sp z).filterMap lof)) ∧ (b = false → ∀ p H' xs, Same H H' → RimsAt K C CR H' p xs (rowsOf (sp z)) → Q (.ref p) H')))
/-- a pair of ints that is new -/
def NewP (H : Hp) (Q : VK) (i j : Int) : Prop := ∀ t H', Same H H' → H' t = some (.tup [.int i, .int j]) → Q (.ref t) H'
def spHeard : Sp := fun vs H Q E => ∃ (b : Bool) (x : V), vs = [.str (kS b), x] ∧ ((NotS H x ∧ NewP H Q 0 0) ∨
  ∃ z, x = .str z ∧ Fit z ∧ (∀ i, plF b (sp z) = some i → NewP H Q 0 (i : Int)) ∧ (plF b (sp z) = none → ∀ H', Same H H' → Q .non H'))
theorem ne_li : ¬ (("line" : Str) = "item") := by decide +kernel
theorem on2 {a : Addr} {σ : L2.St} (h : σ.length = 3) : (TM.onS (some 2) a σ)[2]? = some (some (.ref a)) := by
  match σ, h with
  | [_, _, _], _ => rfl
theorem takes_len {X : Cx} {W : WX} (t : Takes X W) : Takes X (fun cls d σ H => σ.length = X.N.length → W cls d σ H) := fun u s' ⟨a, B, sI, pins, σ, H, cls, d, e, I, nb, up, sky, na, os, ag, w⟩ =>
  t u s' ⟨a, B, sI, pins, σ, H, cls, d, e, I, nb, up, sky, na, os, ag, w I.len⟩
section
variable {P : Program} {w : World} {K : PySem.W.Frag} {mg : Str → Option Value} {base : Heap} {C CR CT : Addr}
theorem scRead : FnScope ["_law_kind", "_law_text"] ["_law_kind", "_law_text"] (defScope sRead) := ⟨rfl, rfl, rfl, by decide +kernel, rfl, by decide +kernel, by decide +kernel⟩
theorem ok_read {f : Addr} {fd : FuncData} (F : Fun K "_law_read" "_law_read" sRead f fd) (T : TxW K mg C) (TC : TxRC K mg CR) (SW : SMx P w K mg base C "read" 6 ["text"] (spReadM K C CT)) (SR : SMx P w K mg base CR "read" 6 ["text"] (spReadR K C CR CT)) : FnOk P w K mg base (L2.CX P w) 7 f fd ["_law_kind", "_law_text"] (spRead K C CR CT) := by
  refine F.okX scRead (fun vs H Q E h => ?_) (fun cdv A outer s H vs Q E hr h => ?_)
  · obtain ⟨b, x, rfl, _⟩ := h
    rfl
  · obtain ⟨b, x, rfl, h⟩ := h
    refine ⟨_, pss_one (ps_ret (pe_ifExp (pt_cmpR op_eq (pv 0) pe_str (nomark _))
      (pe_sx SW (pe_glob (v := .ref C) (by rfl) T.mgW rfl) hr (by decide) (passes_call (takes_of rfl rfl rfl rfl) (fun _ _ _ _ h => h)) (pa_cons (pv 1) pa_nil))
      (pe_sx SR (pe_glob (v := .ref CR) (by rfl) TC.mgR rfl) hr (by decide) (passes_call (takes_of rfl rfl rfl rfl) (fun _ _ _ _ h => h)) (pa_cons (pv 1) pa_nil)))), ?_⟩
    refine ⟨_, rfl, rfl, _, rfl, ?_⟩
    rw [kS_eq]
    cases b with
    | true =>
      refine iteT ?_
      refine ⟨rfl, _, rfl, x, rfl, ?_⟩
      rcases h with h | ⟨z, rfl, hf, kb, kn⟩
      · exact .inl h
      · exact .inr ⟨z, rfl, hf, kb, fun hn => (kn hn).1 rfl⟩
    | false =>
      refine iteF ?_
      refine ⟨rfl, _, rfl, x, rfl, ?_⟩
      rcases h with h | ⟨z, rfl, hf, kb, kn⟩
      · exact .inl h
      · exact .inr ⟨z, rfl, hf, kb, fun hn => (kn hn).2 rfl⟩
theorem scHeard : FnScope ["_law_kind", "_law_text", "error"] ["_law_kind", "_law_text"] (defScope sHeard) := ⟨rfl, rfl, rfl, by decide +kernel, rfl, by decide +kernel, by decide +kernel⟩
theorem ok_heard {f : Addr} {fd : FuncData} (F : Fun K "_law_heard" "_law_heard" sHeard f fd) (ET : ErrC P w K mg base CT "BadText" ["self", "line", "item"] (spI2 CT)) (n1 : PySem.W.findIn K (.ref CT) "line" = some none) (n2 : PySem.W.findIn K (.ref CT) "item" = some none) (GR : CalX P w K mg base "_law_read" 7 ["_law_kind", "_law_text"] (spRead K C CR CT)) : FnOk P w K mg base CX0 8 f fd ["_law_kind", "_law_text"] spHeard := by
  refine F.ok scHeard (fun vs H Q E h => ?_) (fun cdv A outer s H vs Q E hr h => ?_)
  · obtain ⟨b, x, rfl, _⟩ := h
    rfl
  · obtain ⟨b, x, rfl, h⟩ := h
    obtain ⟨g, fdg, FG, hm, hk, hb⟩ := GR.ex
    have hr1 : Room 7 _ := hr.mono (by decide)
    refine ⟨_, pss_cons (TM.ps_try_ms (out := fun _ _ _ _ => False)
      (l := [⟨.ref CT, some 2, fun a cls d => tRet (tTup (tCons (tXf a cls d CT "line" (tVar 2)) (tCons (tXf a cls d CT "item" (tVar 2)) tNil)))⟩])
      (tb := fun W => tDrop (tCallS (spRead K C CR CT) (WE W) (tCons (tVar 0) (tCons (tVar 1) tNil))))
      rfl rfl takes0 (fun W pn xe tk _ => pss_one (ps_expr (by exact (pe_callS FG hr1 rfl hm hk hb (fun σ => passAt tk σ) (by exact (pa_cons (pv 0) (pa_cons (pv 1) pa_nil)))))))
      (.cons (.named scHeard.nd rfl rfl ⟨rfl, by decide, .inl ET.g⟩ (fun a oe cls d pn hz hf => pss_one (ps_ret (pe_tup (pa_cons (pe_xf ET.xf n1 hz hf (pv 2)) (pa_cons (pe_xf ET.xf n2 hz hf (pv 2)) pa_nil)))))) .nil)) (pss_one (ps_ret pe_non)), ?_⟩
    have hcatch : ∀ (i : Nat), NewP H Q 0 (i : Int) → ∀ H1, Same H H1 → ∀ d, H1 d = none → ∀ a, (L2.upd H1 d (.xd [(("item" : Str), .int (i : Int)), (("line" : Str), .int 0)])) a = none →
        tRet (tTup (tCons (tXf a (.ref CT) (some d) CT "line" (tVar 2)) (tCons (tXf a (.ref CT) (some d) CT "item" (tVar 2)) tNil))) { nx := fun _ _ => True, rt := Q } (TM.onS (some 2) a [some (.str (kS b)), some x, none]) (L2.upd H1 d (.xd [(("item" : Str), .int (i : Int)), (("line" : Str), .int 0)])) := by
      intro i hk H1 s1 d hd a ha
      refine ⟨_, on2 rfl, rfl, rfl, d, _, .int 0, rfl, upd_same, (by rw [lk_ne ne_li]; exact lk_eq), _, on2 rfl, rfl, rfl, d, _, .int (i : Int), rfl, upd_same, lk_eq, by show 2 ≤ sizeLine; decide, fun t ht => ?_⟩
      exact hk t _ ((s1.trans (same_upd hd)).trans (same_upd ht)) upd_same
    refine ⟨_, rfl, _, rfl, b, x, rfl, ?_⟩
    rcases h with ⟨hn, k⟩ | ⟨z, rfl, hf, kb, kn⟩
    · refine .inl ⟨hn, fun H1 s1 d hd => ⟨true, ET.te, fun _ a ha => ?_, fun z => Bool.noConfusion z⟩⟩
      exact hcatch 0 k H1 s1 d hd a ha
    · refine .inr ⟨z, rfl, hf, fun i hi => fun H1 s1 d hd => ⟨true, ET.te, fun _ a ha => ?_, fun z => Bool.noConfusion z⟩, fun hn => ⟨fun _ => fun q H' s' _ => ?_, fun _ => fun q H' xs s' _ => ?_⟩⟩
      · exact hcatch i (kb i hi) H1 s1 d hd a ha
      · exact kn hn H' s'
      · exact kn hn H' s'
end
end W03
set_option Elab.async false
set_option linter.all false
set_option maxRecDepth 100000
set_option maxHeartbeats 600000
namespace W03
open PySem L2 PySem.Spec PyProof.Rows WR WB
/-! ### the law's own reading of an item -/
abbrev sLet : Stmt := top 46
abbrev sTxt : Stmt := top 50
def smallV : List V := (List.range 26).map fun i => V.str ⟨#[97 + i]⟩
theorem alph_cps : alphS.cps.toList = (List.range 26).map fun i => 97 + i := by decide +kernel
theorem small_eq : (alphS.cps.toList.map fun c => V.str ⟨#[c]⟩) = smallV := by
  rw [alph_cps, List.map_map]
  rfl
theorem small_flat : smallV.all flatV = true := by
  rw [List.all_eq_true]
  intro v hv
  obtain ⟨i, _, rfl⟩ := List.mem_map.mp hv
  rfl
theorem one_inj {c d : Nat} (h : (⟨#[c]⟩ : Str) = ⟨#[d]⟩) : c = d := by
  have := congrArg (fun s : Str => s.cps.toList) h
  simpa using this
theorem small_in {z : Str} : inV (.str z) smallV = true ↔ ∃ i, i < 26 ∧ z = ⟨#[97 + i]⟩ := by
  unfold inV
  rw [List.any_eq_true]
  constructor
  · rintro ⟨v, hv, h⟩
    obtain ⟨i, hi, rfl⟩ := List.mem_map.mp hv
    exact ⟨i, List.mem_range.mp hi, (eq_of_beq h).symm⟩
  · rintro ⟨i, hi, rfl⟩
    refine ⟨_, List.mem_map_of_mem (List.mem_range.mpr hi), ?_⟩
    show ((⟨#[97 + i]⟩ : Str) == ⟨#[97 + i]⟩) = true
    exact beq_self_eq_true _
theorem small_in1 (c : Nat) : inV (.str ⟨#[c]⟩) smallV = decide (97 ≤ c ∧ c ≤ 122) := by
  rw [Bool.eq_iff_iff, small_in, decide_eq_true_iff]
  constructor
  · rintro ⟨i, hi, e⟩
    have := one_inj e
    omega
  · rintro ⟨h1, h2⟩
    exact ⟨c - 97, by omega, by rw [show 97 + (c - 97) = c by omega]⟩
theorem small_in0 {l : List Nat} (h : l.length ≠ 1) : inV (.str ⟨l.toArray⟩) smallV = false := by
  refine Bool.eq_false_iff.mpr fun q => ?_
  obtain ⟨i, _, e⟩ := small_in.mp q
  have := congrArg (fun s : Str => s.cps.toList.length) e
  exact h (by simpa using this)
theorem small_at {i : Nat} (h : i < 26) : smallV[i]? = some (V.str ⟨#[97 + i]⟩) := by
  unfold smallV
  rw [List.getElem?_map, List.getElem?_eq_getElem (by rw [List.length_range]; exact h), List.getElem_range]
  rfl
theorem small_first {i m : Nat} {v : V} (hm : m < i) (hi : i < 26) (h : smallV[m]? = some v) : eqV v (.str ⟨#[97 + i]⟩) = false := by
  rw [small_at (by omega)] at h
  obtain rfl := Option.some.inj h
  show ((⟨#[97 + m]⟩ : Str) == ⟨#[97 + i]⟩) = false
  refine beq_eq_false_iff_ne.mpr fun e => ?_
  have := one_inj e
  omega
def spLet : Sp := fun vs H Q _ => ∃ z : Str, vs = [.str z] ∧ Fit z ∧ ∀ H', Same H H' → Q (optV (lof z)) H'
def spTxt : Sp := fun vs H Q _ => ∃ i : Int, vs = [.int i] ∧ 1 ≤ i.natAbs ∧ i.natAbs ≤ 26 ∧ Q (.str (itm i)) H
theorem str_one {l m : List Nat} : decide (V.str ⟨l.toArray⟩ = V.str ⟨m.toArray⟩) = decide (l = m) := by
  rw [Bool.eq_iff_iff, decide_eq_true_iff, decide_eq_true_iff]
  constructor
  · intro e
    have e2 : (⟨l.toArray⟩ : Str) = ⟨m.toArray⟩ := by injection e
    exact congrArg (fun s : Str => s.cps.toList) e2
  · intro e
    rw [e]
section
variable {P : Program} {w : World} {K : PySem.W.Frag} {mg : Str → Option Value} {base : Heap}
theorem scLet : FnScope ["_law_item", "_law_small"] ["_law_item"] (defScope sLet) := ⟨rfl, rfl, rfl, by decide +kernel, rfl, by decide +kernel, by decide +kernel⟩
theorem ok_let {f : Addr} {fd : FuncData} (F : Fun K "_law_letter" "_law_letter" sLet f fd) (hlist : mg "list" = none) (hlen : mg "len" = none) : FnOk P w K mg base CX0 1 f fd ["_law_item"] spLet := by
  refine F.ok scLet (fun vs H Q E h => ?_) (fun cdv A outer s H vs Q E hr h => ?_)
  · obtain ⟨i, rfl, _⟩ := h
    rfl
  · obtain ⟨z, rfl, hf, k⟩ := h
    refine ⟨_, pss_cons (ps_set (i := 1) scLet.nd rfl (Or.inl rfl) (pe_callTy (call_lstS rfl) (by rfl) hlist (by decide +kernel) (pa_cons pe_str pa_nil)))
      (pss_cons (ps_if (pt_cmpR op_in_seq (pv 0) (pv 1) (by rfl)) (pss_one (ps_ret (pe_op op_add (pe_bm PySem.F.plainAttrs_list PySem.F.slot_list_index PySem.F.type_list_index mt_index (pv 1) (pa_cons (pv 0) pa_nil)) pe_int))) pss_nil)
      (pss_one (ps_ret (pe_ifExp (PW.pt (pw_and (pt_cmpR op_eq (pe_callB call_len_str (by rfl) hlen PySem.boot_len (pa_cons (pv 0) pa_nil)) pe_int (nomark _)) (pw_and (pt_cmpR op_in_seq (pe_ix ix_str (pv 0) pe_int (fun _ _ => rfl)) (pv 1) (by rfl)) (pw_and1 (pt_cmpR op_eq (pe_ix ix_str (pv 0) pe_int (fun _ _ => rfl)) pe_str (nomark _))))))
        (pe_op op_sub (pe_un un_neg (pe_bm PySem.F.plainAttrs_list PySem.F.slot_list_index PySem.F.type_list_index mt_index (pv 1) (pa_cons (pe_ix ix_str (pv 0) pe_int (fun _ _ => rfl)) pa_nil))) pe_int) pe_non)))), ?_⟩
    refine ⟨alphS, rfl, by decide, fun p hp => ?_⟩
    rw [small_eq]
    have s1 := same_upd (o := .lst smallV) hp
    have hL : SqL K (L2.upd H p (.lst smallV)) p smallV := SqL.of upd_same
    have kk := k _ s1
    generalize L2.upd H p (.lst smallV) = H1 at hL kk ⊢
    have hsz : z.length ≤ sizeLine := Nat.le_trans hf.2 (by decide)
    have ez := eta z
    have kl : Q (optV (lofL z.cps.toList)) H1 := kk
    have hln : z.length = z.cps.toList.length := by simp [Str.length]
    generalize z.cps.toList = l at ez kl hln
    subst ez
    refine ⟨_, rfl, _, rfl, p, smallV, rfl, .inl hL, rfl, small_flat, _, rfl, ?_⟩
    match l, kl, hln with
    | [], kl, hln =>
      refine iteF' (small_in0 (by decide)) ?_
      refine ⟨_, rfl, _, rfl, hsz, rfl, _, rfl, iteF' (decide_eq_false (fun q => by injection q with q; rw [hln] at q; cases q)) (iteF kl)⟩
    | [c], kl, hln =>
      rw [show (⟨[c].toArray⟩ : Str) = ⟨#[c]⟩ from rfl, small_in1]
      rw [lofL1] at kl
      by_cases hc : 97 ≤ c ∧ c ≤ 122
      · refine iteT' (decide_eq_true hc) ?_
        rw [if_pos hc] at kl
        have e : 97 + (c - 97) = c := by omega
        refine ⟨_, rfl, .inl ⟨rfl, _, hL⟩, _, rfl, p, smallV, V.str ⟨#[c]⟩, c - 97, V.str ⟨#[c]⟩, rfl, rfl, hL, rfl, small_flat, by rw [small_at (by omega), e], by show (_ == _) = true; exact beq_self_eq_true _, fun m z' hm hz => by have := small_first hm (by omega) hz; rw [e] at this; exact this, ?_⟩
        refine ⟨_, _, rfl, rfl, ?_⟩
        show Q (.int (((c - 97 : Nat) : Int) + 1)) H1
        have e2 : ((c - 97 : Nat) : Int) + 1 = (c : Int) - 96 := by omega
        rw [e2]
        exact kl
      · refine iteF' (decide_eq_false hc) ?_
        rw [if_neg hc] at kl
        refine ⟨_, rfl, _, rfl, hsz, rfl, _, rfl, iteF' (decide_eq_false (fun q => by injection q with q; rw [hln] at q; simp at q)) (iteF kl)⟩
    | [c, d], kl, hln =>
      refine iteF' (small_in0 (l := [c, d]) (by simp)) ?_
      rw [lofL2] at kl
      refine ⟨_, rfl, _, rfl, hsz, rfl, _, rfl, iteT' (decide_eq_true (by rw [hln]; rfl)) ?_⟩
      refine ⟨_, rfl, _, _, c, rfl, rfl, hsz, rfl, _, rfl, p, smallV, rfl, .inl hL, rfl, small_flat, _, rfl, ?_⟩
      rw [small_in1]
      by_cases hc : 97 ≤ c ∧ c ≤ 122
      · refine iteT' (decide_eq_true hc) ?_
        refine ⟨_, rfl, _, _, d, rfl, rfl, hsz, rfl, rfl, _, rfl, ?_⟩
        rw [tick_eq, show (V.str ⟨#[d]⟩ : V) = V.str ⟨[d].toArray⟩ from rfl, show (V.str ⟨#[39]⟩ : V) = V.str ⟨[39].toArray⟩ from rfl, str_one]
        by_cases hd : d = 39
        · refine iteT' (decide_eq_true (by rw [hd])) ?_
          rw [if_pos ⟨hd, hc⟩] at kl
          have e : 97 + (c - 97) = c := by omega
          refine ⟨_, rfl, .inl ⟨rfl, _, hL⟩, _, rfl, _, _, c, rfl, rfl, hsz, rfl, p, smallV, V.str ⟨#[c]⟩, c - 97, V.str ⟨#[c]⟩, rfl, rfl, hL, rfl, small_flat, by rw [small_at (by omega), e], by show (_ == _) = true; exact beq_self_eq_true _, fun m z' hm hz => by have := small_first hm (by omega) hz; rw [e] at this; exact this, ?_⟩
          refine ⟨_, rfl, _, _, rfl, rfl, ?_⟩
          show Q (.int (-((c - 97 : Nat) : Int) - 1)) H1
          have e2 : -((c - 97 : Nat) : Int) - 1 = -((c : Int) - 96) := by omega
          rw [e2]
          exact kl
        · refine iteF' (decide_eq_false (fun q => hd (by injection q))) ?_
          rw [if_neg (fun q => hd q.1)] at kl
          exact kl
      · refine iteF' (decide_eq_false hc) ?_
        rw [if_neg (fun q => hc q.2)] at kl
        exact iteF kl
    | c :: d :: e :: r, kl, hln =>
      refine iteF' (small_in0 (by simp)) ?_
      refine ⟨_, rfl, _, rfl, hsz, rfl, _, rfl, iteF' (decide_eq_false (fun q => by injection q with q; rw [hln] at q; simp at q; omega)) (iteF kl)⟩
theorem scTxt : FnScope ["_law_letter_here", "_law_small"] ["_law_letter_here"] (defScope sTxt) := ⟨rfl, rfl, rfl, by decide +kernel, rfl, by decide +kernel, by decide +kernel⟩
theorem ok_txt {f : Addr} {fd : FuncData} (F : Fun K "_law_text_of" "_law_text_of" sTxt f fd) : FnOk P w K mg base CX0 1 f fd ["_law_letter_here"] spTxt := by
  refine F.ok scTxt (fun vs H Q E h => ?_) (fun cdv A outer s H vs Q E hr h => ?_)
  · obtain ⟨i, rfl, _⟩ := h
    rfl
  · obtain ⟨i, rfl, i1, i26, k⟩ := h
    refine ⟨_, pss_cons (ps_set (i := 1) scTxt.nd rfl (Or.inl rfl) pe_str)
      (pss_one (ps_ret (pe_ifExp (pt_cmpR op_gt (pv 0) pe_int (nomark _)) (pe_ix ix_str (pv 1) (pe_op op_sub (pv 0) pe_int) (fun _ _ => rfl))
        (pe_op op_add_str (pe_ix ix_str (pv 1) (pe_op op_sub (pe_un un_neg (pv 0)) pe_int) (fun _ _ => rfl)) pe_str)))), ?_⟩
    have e2 : 97 + (i.natAbs - 1) = 96 + i.natAbs := by omega
    have hat : atI alphS.cps.toList (((i.natAbs - 1 : Nat) : Int)) = some (96 + i.natAbs) := atI_nat (by rw [alph_at _ (by omega), e2])
    refine ⟨_, rfl, _, _, rfl, rfl, _, rfl, ?_⟩
    refine ite2 (fun hp => ?_) (fun hp => ?_)
    · have h0 : 0 < i := by have := of_decide_eq_true hp; omega
      have e1 : i - 1 = ((i.natAbs - 1 : Nat) : Int) := by omega
      refine ⟨_, rfl, _, rfl, _, _, rfl, rfl, alphS, _, 96 + i.natAbs, rfl, rfl, alph_len, by rw [e1]; exact hat, ?_⟩
      have : itm i = ⟨#[96 + i.natAbs]⟩ := by unfold itm; rw [if_pos h0]
      rw [this] at k
      exact k
    · have h0 : ¬ 0 < i := fun z => hp (decide_eq_true (by omega))
      have e1 : -i - 1 = ((i.natAbs - 1 : Nat) : Int) := by omega
      refine ⟨_, rfl, _, rfl, _, rfl, _, _, rfl, rfl, alphS, _, 96 + i.natAbs, rfl, rfl, alph_len, by rw [e1]; exact hat, ?_⟩
      refine ⟨_, _, rfl, rfl, (by show 2 ≤ sizeLine; decide), ?_⟩
      have : itm i = (⟨#[96 + i.natAbs]⟩ : Str) ++ Str.ofString "'" := by
        unfold itm
        rw [if_neg h0, tick_eq]
        rfl
      rw [this] at k
      exact k
end
end W03
set_option Elab.async false
set_option linter.all false
set_option maxRecDepth 100000
set_option maxHeartbeats 600000
namespace W03
open PySem L2 PySem.Spec PyProof.Rows WR WB
theorem lcF {β : Type} {J : It} {n : Nat} {G : Hp → Prop} {Y : Nat → Hp → V → Hp → Prop} (w : Walk J n G Y) (hY : ∀ i H x H', Y i H x H' → Same H H') (out : Nat → Option β) (R : Addr → Hp → V → β → Prop) (hst : ∀ D H H' v b, R D H v b → Same H H' → R D H' v b) (hput : ∀ D H ws o v b, H D = some (.lst ws) → R D H v b → R D (L2.upd H D o) v b)
    (hz : n < 40000) {g : TG} {tt : TT} {te : TE} {vs : List Nat} {σ : L2.St} {H1 : Hp} {Q : VK} (hG : ∀ H, Same H1 H → G H)
    (hs : ∀ (i : Nat) (x : V) (H H' : Hp), i < n → Same H1 H → Y i H x H' → ∀ D, H1 D = none → (∃ ws, H' D = some (.lst ws)) → ∀ (Qy : V → Hp → Prop) (Qn : Hp → Prop), (∀ b v H2, out i = some b → Same H' H2 → R D H2 v b → Qy v H2) → (out i = none → ∀ H2, Same H' H2 → Qn H2) →
      g x (wipe σ vs) H' fun σ2 H2 => wipe σ2 vs = wipe σ vs ∧ tt σ2 H2 fun b H3 => if b = true then te σ2 H3 Qy else Qn H3)
    (hd : ∀ (D : Addr) H' ws, H1 D = none → Same H1 H' → H' D = some (.lst ws) → All2 (R D H') ws ((List.range n).filterMap out) → Q (.ref D) H') : tLc (fun _ H R => R J H) g tt te vs σ H1 Q := by
  intro D hD
  refine lc_it w (fun i H => Same H1 H ∧ ∃ ws, H D = some (.lst ws) ∧ All2 (R D H) ws ((List.range i).filterMap out)) ⟨fun b o e => by rw [upd_ne (ne_of_none e hD)]; exact e, [], upd_same, .nil⟩ (fun i H _ q => hG H q.1) ?_ ?_
  · rintro i x H H' hi ⟨sm, ws, hw, h2⟩ y
    have sY := hY _ _ _ _ y
    have hlen := h2.length
    have lf := List.length_filterMap_le out (List.range i)
    rw [List.length_range] at lf
    refine hs i x H H' hi sm y D hD ⟨ws, sY _ _ hw⟩ _ _ (fun b v H2 ho s2 r => ?_) (fun ho H2 s2 => ?_)
    · have s3 := sY.trans s2
      have hw2 := s3 _ _ hw
      refine ⟨ws, hw2, Evl.sz_lt (by omega), fun b o e => ?_, ws ++ [v], upd_same, ?_⟩
      · rw [upd_ne (ne_of_none e hD)]
        exact s3 _ _ (sm _ _ e)
      · rw [List.range_succ, List.filterMap_append, List.filterMap_cons, ho]
        exact (h2.imp fun v b r => hput D H2 ws _ v b hw2 (hst D _ _ v b r s3)).app (.cons (hput D H2 ws _ v _ hw2 r) .nil)
    · have s3 := sY.trans s2
      refine ⟨sm.trans s3, ws, s3 _ _ hw, ?_⟩
      rw [List.range_succ, List.filterMap_append, List.filterMap_cons, ho]
      show All2 (R D H2) ws (List.filterMap out (List.range i) ++ [])
      rw [List.append_nil]
      exact h2.imp fun v b r => hst D _ _ v b r s3
  · rintro H ⟨sm, ws, hw, h2⟩
    exact hd D H ws hD sm hw h2
theorem nx_lc {wi : TI} {g gg : TG} {tt : TT} {te : TE} {vs : List Nat} {D : Ends} {σ : L2.St} {H : Hp} {Cc : TS} {b1 b2 : L2.St → Hp → Prop} {rt : VK}
    (h : wi σ H fun J H1 => tLc (fun _ H R => R J H) g tt te vs σ H1 fun z H4 => gg z σ H4 (Cc D)) : tNext { nx := tSeq (tAsg (tLc wi g tt te vs) gg) Cc D, rt := rt, bk := b1, ct := b2 } σ H := h
abbrev sWPl : Stmt := top 47
abbrev sRPl : Stmt := top 48
abbrev sPl : Stmt := top 49
def optN : Option Nat → V
  | some i => .int (i : Int)
  | none => .non
def spPlace (g : List Str → Option Nat) (K : PySem.W.Frag) : Sp := fun vs H Q _ => ∃ (a : Addr) (zs : List Str), vs = [.ref a] ∧ SqL K H a (zs.map V.str) ∧ zs ≠ [] ∧ (∀ z ∈ zs, Fit z) ∧ zs.length ≤ 4001 ∧ ∀ H', Same H H' → Q (optN (g zs)) H'
def spPl (K : PySem.W.Frag) : Sp := fun vs H Q _ => ∃ (b : Bool) (a : Addr) (zs : List Str), vs = [.str (kS b), .ref a] ∧ SqL K H a (zs.map V.str) ∧ zs ≠ [] ∧ (∀ z ∈ zs, Fit z) ∧ zs.length ≤ 4001 ∧ ∀ H', Same H H' → Q (optN (plF b zs)) H'
theorem fm_if (p : Nat → Bool) : ∀ l : List Nat, l.filterMap (fun i => if p i = true then some i else none) = l.filter p
  | [] => rfl
  | a :: l => by
    rw [List.filterMap_cons, List.filter_cons, ← fm_if p l]
    cases p a <;> rfl
theorem all_nat {ws : List V} {ns : List Nat} (h : All2 (fun v b => v = V.int ((b : Nat) : Int)) ws ns) : ws = iv (ns.map fun (n : Nat) => (n : Int)) := by
  induction h with
  | nil => rfl
  | cons h1 _ ih => rw [List.map_cons, h1, ih]; rfl
section
variable {P : Program} {w : World} {K : PySem.W.Frag} {mg : Str → Option Value} {base : Heap}
abbrev nWPl : List Str := ["_law_items", "_law_bad", "_law_at", "_law_item"]
theorem scWPl : FnScope nWPl ["_law_items"] (defScope sWPl) := ⟨rfl, rfl, rfl, by decide +kernel, rfl, by decide +kernel, by decide +kernel⟩
theorem ok_wpl {f : Addr} {fd : FuncData} (F : Fun K "_law_word_place" "_law_word_place" sWPl f fd) (GL : Cal P w K mg base "_law_letter" 1 ["_law_item"] spLet) (hlen : mg "len" = none) (henum : mg "enumerate" = none) : FnOk P w K mg base CX0 2 f fd ["_law_items"] (spPlace wordPl K) := by
  refine F.ok scWPl (fun vs H Q E h => ?_) (fun cdv A outer s H vs Q E hr h => ?_)
  · obtain ⟨a, zs, rfl, _⟩ := h
    rfl
  · obtain ⟨a, zs, rfl, hS, hne, hfit, hlz, k⟩ := h
    refine ⟨_, pss_cons (ps_if (pt_cmpR op_eq (pe_ix ix_list (pv 0) pe_int (fun _ _ => rfl)) pe_str (nomark _)) (pss_one (ps_ret (pe_ifExp (pt_cmpR op_gt (pe_callB call_len_seq (by rfl) hlen PySem.boot_len (pa_cons (pv 0) pa_nil)) pe_int (nomark _)) pe_int pe_non))) pss_nil)
      (pss_cons (ps_setLc (i := 1) (own := [("_law_at", 2), ("_law_item", 3)]) (g := gTup K 2 (gCons (gName 2) (gCons (gName 3) gNil))) rfl scWPl.nd rfl rfl (sw_true rfl rfl rfl (by decide +kernel)) (pi_enum (by rfl) henum (pa_cons (pv 0) pa_nil)) (blkOk_by (N := nWPl) (sc := defScope sWPl) (by decide +kernel)) (fun _ _ _ _ _ => pg_tup (n := 2) rfl (pgs_cons (pg_name (i := 2) scWPl.nd rfl (Or.inl rfl)) (pgs_cons (pg_name (i := 3) scWPl.nd rfl (Or.inl rfl)) pgs_nil)))
          (fun _ _ _ _ _ => pts_one (PW.pt (pw_or (pt_cmpR op_ge (pv 2) pe_int (nomark _)) (pw_or1 (pt_cmpR op_isN (pe_cal GL hr (by decide) (by rfl) (pa_cons (pv 3) pa_nil)) pe_non (nomark _))))))
        (fun _ _ _ _ _ => pv 2))
      (pss_one (ps_ret (pe_ifExp (pt_cmpR (op_neD hr.units) (pv 1) (pe_lst pa_nil) (nomark _)) (pe_ix ix_list (pv 1) pe_int (fun _ _ => rfl)) pe_non)))), ?_⟩
    obtain ⟨y, r, rfl⟩ := List.exists_cons_of_ne_nil hne
    refine ⟨_, rfl, a, _, _, _, rfl, rfl, hS, atI_nat (j := 0) rfl, rfl, _, rfl, ?_⟩
    rw [dash_eq, str_is]
    by_cases hy : y = dashS
    · refine iteT' (decide_eq_true hy) ?_
      subst hy
      refine ⟨_, rfl, a, _, rfl, .inl hS, _, _, rfl, rfl, _, rfl, ?_⟩
      have e0 : wordPl (dashS :: r) = if 1 < (dashS :: r).length then some 1 else none := if_pos rfl
      by_cases h2 : 1 < (dashS :: r).length
      · refine iteT' (decide_eq_true (by rw [List.length_map]; omega)) ?_
        have := k H (Same.refl _)
        rw [e0, if_pos h2] at this
        exact this
      · refine iteF' (decide_eq_false (by rw [List.length_map]; omega)) ?_
        have := k H (Same.refl _)
        rw [e0, if_neg h2] at this
        exact this
    refine iteF' (decide_eq_false hy) ?_
    generalize ezs : y :: r = zs at hS hfit hlz k
    have e0 : wordPl zs = (List.range zs.length).find? (wBad zs) := by
      rw [← ezs]
      exact if_neg fun e => hy (Option.some.inj e)
    refine nx_lc ?_
    refine ⟨_, rfl, a, _, rfl, hS, ?_⟩
    refine lcF (walk_enum (K := K) (a := a) (xs := zs.map V.str)) (fun i H x H' ⟨T, _, _, _, hT, e, _⟩ => by rw [e]; exact same_upd hT) (fun i => if wBad zs i = true then some i else none) (fun _ _ v b => v = V.int ((b : Nat) : Int)) (fun _ _ _ _ _ h _ => h) (fun _ _ _ _ _ _ _ h => h) (by rw [List.length_map]; omega) (fun H s => s.seq hS) ?_ ?_
    · rintro i x H2 H3 hi s2 ⟨T0, xi, yi, rfl, hT0, rfl, hx, hy2⟩ D hD _ Qy Qn ky kn
      have hin : i < zs.length := by rw [List.length_map] at hi; exact hi
      obtain rfl := Option.some.inj hx
      have ey : yi = V.str zs[i] := by
        have hy2 : (zs.map V.str)[i]? = some yi := hy2
        rw [List.getElem?_map, List.getElem?_eq_getElem hin] at hy2
        exact (Option.some.inj hy2).symm
      subst ey
      refine ⟨T0, _, rfl, SqT.of upd_same, rfl, _, _, rfl, _, _, rfl, rfl, ?_⟩
      refine ⟨rfl, ?_⟩
      have hw := wBad_at hin
      refine ⟨_, rfl, _, _, rfl, rfl, _, rfl, ?_⟩
      by_cases h5 : 500 ≤ i
      · refine iteT' (decide_eq_true (by omega)) ?_
        rw [decide_eq_true h5, Bool.true_or] at hw
        refine iteT ?_
        exact ⟨_, rfl, ky i _ _ (by rw [hw]; rfl) (Same.refl _) rfl⟩
      refine iteF' (decide_eq_false (by omega)) ?_
      rw [decide_eq_false h5, Bool.false_or] at hw
      refine ⟨_, rfl, _, rfl, hfit _ (List.getElem_mem hin), fun H4 s4 => ?_⟩
      refine ⟨rfl, _, rfl, ?_⟩
      by_cases hn : (lof zs[i]).isNone = true
      · refine iteT' (decide_eq_true (optV_non.mpr hn)) ?_
        rw [hn] at hw
        exact ⟨_, rfl, ky i _ _ (by rw [hw]; rfl) s4 rfl⟩
      · refine iteF' (decide_eq_false fun q => hn (optV_non.mp q)) ?_
        rw [Bool.eq_false_iff.mpr hn] at hw
        exact kn (by rw [hw]; rfl) _ s4
    intro D H1 ws hD s1 h1 r1
    have ews := all_nat r1
    rw [List.length_map, fm_if] at ews
    have e1 : (List.filter (wBad zs) (List.range zs.length)).head? = wordPl zs := by rw [e0, List.head?_filter]
    generalize List.filter (wBad zs) (List.range zs.length) = bs at ews e1
    subst ews
    refine at_set ?_
    try dsimp only
    refine ⟨_, rfl, Nat.zero_le _, fun q hq => ?_⟩
    have h2 := same_upd (o := .lst []) hq _ _ h1
    have kk := k _ (s1.trans (same_upd (o := .lst []) hq))
    rw [← e1] at kk
    refine ⟨.list ((bs.map fun (n : Nat) => (n : Int)).map PyData.int), .list [], .lst (SqL.of h2) (dpInts _), .lst (SqL.of upd_same) .nil, PySem.W.ke_shaped_ints _, rfl, _, rfl, ?_⟩
    cases bs with
    | nil => exact iteF' (by decide) kk
    | cons b r2 =>
      refine iteT' (by rfl) ?_
      exact ⟨_, rfl, D, _, _, _, rfl, rfl, SqL.of h2, atI_nat (j := 0) rfl, kk⟩
end
end W03
set_option Elab.async false
set_option linter.all false
set_option maxRecDepth 100000
set_option maxHeartbeats 600000
namespace W03
open PySem L2 PySem.Spec PyProof.Rows WR WB
theorem nx_rt_if_lc {r : R2} {wi : TI} {g : TG} {tt : TT} {te ta tb : TE} {vs : List Nat} {D : Ends} {σ : L2.St} {H : Hp} {rt : VK} {b1 b2 : L2.St → Hp → Prop}
    (h : wi σ H fun J H1 => tLc (fun _ H R => R J H) g tt te vs σ H1 fun y H2 => tLst tNil σ H2 fun z H3 => r y z H3 fun v H4 => ∃ c, v = .bl c ∧ if c = true then ta σ H4 D.rt else tb σ H4 D.rt) :
    tNext { nx := tRet (tIf (tTest (tOp r (tLc wi g tt te vs) (tLst tNil))) ta tb) D, rt := rt, bk := b1, ct := b2 } σ H := h
theorem bal_off {ns : List Int} (h : Lts ns) : (ns.filter fun k => decide (ns.count k ≠ ns.count (-k))) = [] ↔ Fr.bal ns = [] := by
  have e : ∀ k : Nat, k < 26 → (Fr.cnt ns ((k : Int) + 1) = 0 ↔ ns.count ((k : Int) + 1) = ns.count (-((k : Int) + 1))) := fun k _ => by
    unfold Fr.cnt
    omega
  have hb : Fr.bal ns = [] ↔ ∀ k : Nat, k < 26 → Fr.cnt ns ((k : Int) + 1) = 0 := by
    unfold Fr.bal
    rw [List.filter_eq_nil_iff]
    constructor
    · intro q k hk
      have := q _ (List.mem_map_of_mem (List.mem_range.mpr hk))
      simpa using this
    · intro q p hp
      obtain ⟨k, hk, rfl⟩ := List.mem_map.mp hp
      have := q k (List.mem_range.mp hk)
      simpa using this
  rw [hb, List.filter_eq_nil_iff]
  constructor
  · intro q k hk
    rw [e k hk]
    by_cases h1 : ((k : Int) + 1) ∈ ns
    · have := q _ h1
      exact Decidable.byContradiction fun z => this (decide_eq_true z)
    · by_cases h2 : -((k : Int) + 1) ∈ ns
      · have := q _ h2
        rw [Int.neg_neg] at this
        exact Decidable.byContradiction fun z => this (decide_eq_true fun z2 => z z2.symm)
      · rw [List.count_eq_zero.mpr h1, List.count_eq_zero.mpr h2]
  · intro q k hk
    obtain ⟨k1, k2⟩ := h k hk
    have q1 := (e (k.natAbs - 1) (by omega)).mp (q (k.natAbs - 1) (by omega))
    have e1 : ((k.natAbs - 1 : Nat) : Int) + 1 = (k.natAbs : Int) := by omega
    rw [e1] at q1
    intro z
    refine (of_decide_eq_true z) ?_
    by_cases hp : 0 < k
    · have : (k.natAbs : Int) = k := by omega
      rw [this] at q1
      exact q1
    · have : (k.natAbs : Int) = -k := by omega
      rw [this, Int.neg_neg] at q1
      exact q1.symm
theorem dec_emp (cur : List Int) : decide (cur = []) = cur.isEmpty := by
  cases cur <;> rfl
section
variable {P : Program} {w : World} {K : PySem.W.Frag} {mg : Str → Option Value} {base : Heap}
abbrev nRPl : List Str := ["_law_items", "_law_told_here", "_law_cuts", "_law_is_open", "_law_at", "_law_item", "_law_letter_here"]
theorem scRPl : FnScope nRPl ["_law_items"] (defScope sRPl) := ⟨rfl, rfl, rfl, by decide +kernel, rfl, by decide +kernel, by decide +kernel⟩
theorem ok_rpl {f : Addr} {fd : FuncData} (F : Fun K "_law_rims_place" "_law_rims_place" sRPl f fd) (GL : Cal P w K mg base "_law_letter" 1 ["_law_item"] spLet) (hlen : mg "len" = none) (henum : mg "enumerate" = none) : FnOk P w K mg base CX0 2 f fd ["_law_items"] (spPlace rimsPl K) := by
  refine F.ok scRPl (fun vs H Q E h => ?_) (fun cdv A outer s H vs Q E hr h => ?_)
  · obtain ⟨a, zs, rfl, _⟩ := h
    rfl
  · obtain ⟨a, zs, rfl, hS, hne, hfit, hlz, k⟩ := h
    refine ⟨_, pss_cons (ps_asg (pe_tup (pa_cons (pe_lst pa_nil) (pa_cons pe_int (pa_cons pe_bl pa_nil)))) (pg_tup (n := 3) rfl (pgs_cons (pg_name (i := 1) scRPl.nd rfl (Or.inr rfl)) (pgs_cons (pg_name (i := 2) scRPl.nd rfl (Or.inl rfl)) (pgs_cons (pg_name (i := 3) scRPl.nd rfl (Or.inl rfl)) pgs_nil)))))
      (pss_cons (ps_for PassesOwn.never rfl (pi_enum (by rfl) henum (pa_cons (pv 0) pa_nil)) (pg_tup (n := 2) rfl (pgs_cons (pg_name (i := 4) scRPl.nd rfl (Or.inl rfl)) (pgs_cons (pg_name (i := 5) scRPl.nd rfl (Or.inl rfl)) pgs_nil)))
        (pss_cons (ps_set (i := 6) scRPl.nd rfl (Or.inl rfl) (pe_cal GL hr (by decide) (by rfl) (pa_cons (pv 5) pa_nil)))
        (pss_cons (ps_if (PW.pt (pw_or (pt_cmpR op_eq (pe_callB call_len_seq (by rfl) hlen PySem.boot_len (pa_cons (pv 1) pa_nil)) pe_int (nomark _)) (pw_or1 (PW.pt (pw_and (pt_cmpR op_isN (pv 6) pe_non (nomark _)) (pw_and1 (PW.pt (pw_or (pt_cmpR op_ne (pv 5) pe_str (nomark _)) (pw_or (pt_val (pv 3)) (pw_or1 (pt_cmpR op_eq (pv 2) pe_int (nomark _))))))))))))
          (pss_one (ps_ret (pv 4))) pss_nil)
        (pss_one (ps_if (pt_cmpR op_isN (pv 6) pe_non (nomark _))
          (pss_one (ps_par (i := 2) (j := 3) (by rfl) scRPl.nd rfl rfl (by decide) rfl rfl (pa_cons (pe_op op_add (pv 2) pe_int) (pa_cons pe_bl pa_nil)) (by rfl)))
          (pss_cons (ps_expr (pe_bm PySem.F.plainAttrs_list PySem.F.slot_list_append PySem.F.type_list_append mt_append (pv 1) (pa_cons (pv 6) pa_nil)))
          (pss_one (ps_set (i := 3) scRPl.nd rfl (Or.inl rfl) pe_bl))))))))
      (pss_cons (ps_if (pt_val (pv 3)) (pss_one (ps_ret (pe_callB call_len_seq (by rfl) hlen PySem.boot_len (pa_cons (pv 0) pa_nil)))) pss_nil)
      (pss_one (ps_ret (pe_ifExp (pt_cmpR (op_neD hr.units) (pe_lc (own := [("_law_letter_here", 6)]) (g := gName 6) rfl scRPl.nd (pi_list (pv 1)) (blkOk_by (N := nRPl) (sc := defScope sRPl) (by decide +kernel)) (fun _ _ _ _ _ => pg_name (i := 6) scRPl.nd rfl (Or.inl rfl))
          (fun _ _ _ _ _ => pts_one (pt_cmpR op_ne (pe_bmK (K := K) rfl PySem.F.plainAttrs_list PySem.F.slot_list_count PySem.F.type_list_count (mt_lcountK (K := K) rfl) (pv 1) (pa_cons (pv 6) pa_nil)) (pe_bmK (K := K) rfl PySem.F.plainAttrs_list PySem.F.slot_list_count PySem.F.type_list_count (mt_lcountK (K := K) rfl) (pv 1) (pa_cons (pe_un un_neg (pv 6)) pa_nil)) (nomark _)))
          (fun _ _ _ _ _ => pv 6)) (pe_lst pa_nil) (nomark _))
        (pe_op op_sub (pe_callB call_len_seq (by rfl) hlen PySem.boot_len (pa_cons (pv 0) pa_nil)) pe_int) pe_non))))), ?_⟩
    refine ⟨Nat.zero_le _, fun L hL => ⟨by show 3 ≤ sizeLine; decide, fun t ht => ⟨t, _, rfl, SqT.of upd_same, rfl, _, _, rfl, _, _, rfl, _, _, rfl, rfl, ?_⟩⟩⟩
    have s1 := same_upd (o := .lst []) hL
    have s2 := s1.trans (same_upd (o := .tup [.ref L, .int 0, .bl true]) ht)
    have hL2 : L2.upd (L2.upd H L (.lst [])) t (.tup [.ref L, .int 0, .bl true]) L = some (.lst (iv [])) := by
      rw [upd_ne (fun e => by rw [← e, upd_same] at ht; cases ht), upd_same]
      rfl
    refine ⟨_, rfl, a, _, rfl, s2.seq hS, ?_⟩
    refine for_it (walk_enum (K := K) (a := a) (xs := zs.map V.str)) (fun i σ H' => ∃ (v4 v5 v6 : Option V) (rs : List (List Int)) (cur : List Int), σ = [some (.ref a), some (.ref L), some (.int (rs.length : Nat)), some (.bl (decide (cur = []))), v4, v5, v6] ∧ Same H H' ∧ H' L = some (.lst (iv (rs.flatten ++ cur))) ∧ RgI rs cur ∧ rgo 0 [] [] zs = rgo i rs cur (zs.drop i))
      ⟨none, none, none, [], [], rfl, s2, hL2, rgI0, by rw [List.drop_zero]⟩ (fun i σ H' _ ⟨_, _, _, _, _, _, s, _⟩ => s.seq hS) ?_ ?_
    · rintro i x σ H3 H4 hi ⟨v4, v5, v6, rs, cur, rfl, sm, hLL, hG, hgo⟩ ⟨T0, xi, yi, rfl, hT0, rfl, hx, hy⟩
      have hin : i < zs.length := by rw [List.length_map] at hi; exact hi
      obtain rfl := Option.some.inj hx
      have ey : yi = V.str zs[i] := by
        have hy : (zs.map V.str)[i]? = some yi := hy
        rw [List.getElem?_map, List.getElem?_eq_getElem hin] at hy
        exact (Option.some.inj hy).symm
      subst ey
      have hzf := hfit zs[i] (List.getElem_mem hin)
      rw [List.drop_eq_getElem_cons hin] at hgo
      have sT := same_upd (o := .tup [.int (i : Int), V.str zs[i]]) hT0
      refine ⟨T0, _, rfl, SqT.of upd_same, rfl, _, _, rfl, _, _, rfl, rfl, ?_⟩
      generalize zs[i] = z at hzf hgo sT ⊢
      refine ⟨_, rfl, z, rfl, hzf, fun H5 s5 => ?_⟩
      have s05 := (sm.trans sT).trans s5
      have hL5 := s5 _ _ (sT _ _ hLL)
      have hret : rgo 0 [] [] zs = .inl i → Q (.int (i : Int)) H5 := fun e => by
        have := k H5 s05
        rw [rimsPl_l e] at this
        exact this
      refine ⟨_, rfl, L, _, rfl, .inl (SqL.of hL5), rfl, _, rfl, ?_⟩
      have elen : ((iv (rs.flatten ++ cur)).length : Int) = ((rs.flatten.length + cur.length : Nat) : Int) := by rw [List.length_map, List.length_append]
      by_cases hf : rs.flatten.length + cur.length = 24
      · refine iteT' (decide_eq_true (by rw [elen, hf]; rfl)) ?_
        exact iteT ⟨_, rfl, hret (hgo.trans (rgo_full hf))⟩
      refine iteF' (decide_eq_false fun q => ?_) ?_
      · rw [elen] at q
        have q2 : ((rs.flatten.length + cur.length : Nat) : Int) = 24 := by injection q
        omega
      refine ⟨_, rfl, rfl, _, rfl, ?_⟩
      cases e : lof z with
      | some v =>
        refine iteF' rfl ?_
        refine iteF ?_
        refine ⟨_, rfl, rfl, _, rfl, iteF' rfl ?_⟩
        obtain ⟨e1, e2⟩ := itm_lof e
        refine ⟨_, rfl, .inl ⟨rfl, _, SqL.of hL5⟩, _, rfl, L, _, _, rfl, rfl, hL5, Evl.sz_lt (by rw [List.length_map, List.length_append]; have := hG.2.2.1; omega), ?_⟩
        refine ⟨some (.int (i : Int)), some (.str z), some (.int v), rs, cur ++ [v], ?_, ?_, ?_, ⟨hG.1, hG.2.1, ?_, hG.2.2.2.1, hG.2.2.2.2.snoc e2⟩, hgo.trans (rgo_some hf e)⟩
        · have : decide (cur ++ [v] = []) = false := decide_eq_false (by simp)
          rw [this]
          rfl
        · exact fun b o q => by rw [upd_ne (ne_of_none q hL)]; exact s05 b o q
        · rw [upd_same]
          simp [iv]
          rfl
        · rw [List.length_append]
          show _ + (_ + 1) ≤ 24
          have := hG.2.2.1
          omega
      | none =>
        refine iteT' rfl ?_
        have hI := hG.1
        refine ⟨_, rfl, rfl, _, rfl, ?_⟩
        rw [slash_eq]
        by_cases h1 : z = slashS
        · subst h1
          refine iteF' (by simp) ?_
          refine ⟨_, rfl, _, rfl, ?_⟩
          by_cases h2 : cur = []
          · refine iteT' (decide_eq_true h2) ?_
            exact iteT ⟨_, rfl, hret (hgo.trans (rgo_bad hf e fun q => q.2.1 h2))⟩
          refine iteF' (decide_eq_false h2) ?_
          refine ⟨_, rfl, rfl, _, rfl, ?_⟩
          by_cases h3 : rs.length < 3
          · refine iteF' (decide_eq_false fun q => ?_) ?_
            · have q2 : ((rs.length : Nat) : Int) = 3 := by injection q
              omega
            refine ⟨_, rfl, rfl, _, rfl, iteT' rfl ?_⟩
            refine ⟨_, rfl, _, _, rfl, rfl, _, _, rfl, ?_⟩
            refine ⟨some (.int (i : Int)), some (.str slashS), some .non, rs ++ [cur], [], ?_, s05, ?_, ⟨by rw [List.length_append]; show _ + 1 ≤ 3; omega, fun w hw => ?_, ?_, ?_, fun x hx => (nomatch hx)⟩, hgo.trans (rgo_cut hf e ⟨rfl, h2, h3⟩)⟩
            · rw [List.length_append]
              have : ((rs.length + [cur].length : Nat) : Int) = (rs.length : Int) + 1 := by
                show ((rs.length + 1 : Nat) : Int) = _
                omega
              rw [this]
              rfl
            · rw [flat_snoc, List.append_nil]
              exact hL5
            · rcases List.mem_append.mp hw with hw | hw
              · exact hG.2.1 w hw
              · rw [List.mem_singleton.mp hw]
                exact h2
            · have := hG.2.2.1
              rw [flat_snoc, List.length_append]
              show _ + 0 ≤ 24
              omega
            · intro x hx
              rw [flat_snoc] at hx
              rcases List.mem_append.mp hx with hx | hx
              · exact hG.2.2.2.1 x hx
              · exact hG.2.2.2.2 x hx
          · refine iteT' (decide_eq_true (by
              have : rs.length = 3 := by omega
              rw [this]
              rfl)) ?_
            exact ⟨_, rfl, hret (hgo.trans (rgo_bad hf e fun q => h3 q.2.2))⟩
        · refine iteT' ?_ (iteT ⟨_, rfl, hret (hgo.trans (rgo_bad hf e fun q => h1 q.1))⟩)
          have : ¬ (V.str z = V.str ⟨#[47]⟩) := fun q => h1 (by injection q)
          simp [this]
    · rintro σ H3 ⟨v4, v5, v6, rs, cur, rfl, sm, hLL, hG, hgo⟩
      rw [List.length_map, List.drop_length] at hgo
      have hgo : rgo 0 [] [] zs = .inr (rs, cur) := hgo
      have hpl := rimsPl_r hgo
      refine ⟨_, rfl, _, rfl, ?_⟩
      by_cases hc : cur = []
      · refine iteT' (decide_eq_true hc) ?_
        rw [if_pos hc] at hpl
        refine ⟨_, rfl, a, _, rfl, .inl (sm.seq hS), ?_⟩
        have := k H3 sm
        rw [hpl] at this
        rw [List.length_map]
        exact this
      refine iteF' (decide_eq_false hc) ?_
      rw [if_neg hc, flat_snoc] at hpl
      have hl : Lts (rs.flatten ++ cur) := fun x hx => (List.mem_append.mp hx).elim (hG.2.2.2.1 x) (hG.2.2.2.2 x)
      have hl24 : (rs.flatten ++ cur).length ≤ 24 := by rw [List.length_append]; exact hG.2.2.1
      generalize rs.flatten ++ cur = ns at hLL hpl hl hl24
      refine nx_rt_if_lc ?_
      refine ⟨_, rfl, L, rfl, ⟨_, SqL.of hLL⟩, ?_⟩
      refine lcp (walk_list (xs := iv ns)) (fun x => match x with | .int k => decide (ns.count k ≠ ns.count (-k)) | _ => false) (fun x => x) (by rw [List.length_map]; omega) (fun H2 s2 => SqL.of (s2 _ _ hLL)) ?_ ?_
      · intro x hx H2 s2 Qy Qn ky kn
        obtain ⟨v, hv, rfl⟩ := List.mem_map.mp hx
        have hL2 : SqL K H2 L (iv ns) := SqL.of (s2 _ _ hLL)
        refine ⟨rfl, ?_⟩
        refine ⟨_, rfl, .inl ⟨rfl, _, hL2⟩, _, rfl, L, ns, v, rfl, rfl, hL2, _, rfl, .inl ⟨rfl, _, hL2⟩, _, rfl, v, rfl, L, ns, -v, rfl, rfl, hL2, rfl, _, rfl, ?_⟩
        by_cases hq : ns.count v = ns.count (-v)
        · refine iteF' ?_ (kn (decide_eq_false fun z => z hq) H2 (Same.refl _))
          rw [hq]
          simp
        · refine iteT' ?_ ⟨_, rfl, ky (decide_eq_true hq) H2 (Same.refl _)⟩
          have : ¬ (V.int ((ns.count v : Nat) : Int) = V.int ((ns.count (-v) : Nat) : Int)) := fun q => hq (by
            have q2 : ((ns.count v : Nat) : Int) = ((ns.count (-v) : Nat) : Int) := by injection q
            omega)
          simp [this]
      intro D H4 hD s4 h4
      have e4 : (((iv ns).filter (fun x => match x with | .int k => decide (ns.count k ≠ ns.count (-k)) | _ => false)).map fun x => x) = iv (ns.filter fun k => decide (ns.count k ≠ ns.count (-k))) := by
        rw [List.map_id']
        unfold iv
        rw [List.filter_map]
        rfl
      rw [e4] at h4
      have hb := bal_off hl
      generalize (ns.filter fun k => decide (ns.count k ≠ ns.count (-k))) = ms at h4 hb
      refine ⟨Nat.zero_le _, fun q hq => ?_⟩
      have s5 := same_upd (o := .lst []) hq
      have h5 := s5 _ _ h4
      have s05 := (sm.trans s4).trans s5
      refine ⟨.list (ms.map PyData.int), .list [], .lst (SqL.of h5) (dpInts _), .lst (SqL.of upd_same) .nil, PySem.W.ke_shaped_ints _, rfl, _, rfl, ?_⟩
      have kk := k _ s05
      rw [hpl] at kk
      cases ms with
      | nil =>
        rw [if_pos (hb.mp rfl)] at kk
        exact iteF' (by decide) kk
      | cons m r =>
        rw [if_neg fun z => nomatch hb.mpr z] at kk
        refine iteT' (by rfl) ?_
        refine ⟨_, rfl, a, _, rfl, .inl (s05.seq hS), _, _, rfl, rfl, ?_⟩
        have hz0 : 0 < zs.length := List.length_pos_iff.mpr hne
        have e : ((zs.map V.str).length : Int) - 1 = ((zs.length - 1 : Nat) : Int) := by rw [List.length_map]; omega
        show Q (.int (((zs.map V.str).length : Int) - 1)) _
        rw [e]
        exact kk
theorem scPl : FnScope ["_law_kind", "_law_items"] ["_law_kind", "_law_items"] (defScope sPl) := ⟨rfl, rfl, rfl, by decide +kernel, rfl, by decide +kernel, by decide +kernel⟩
theorem ok_pl {f : Addr} {fd : FuncData} (F : Fun K "_law_place" "_law_place" sPl f fd) (GW : Cal P w K mg base "_law_word_place" 2 ["_law_items"] (spPlace wordPl K)) (GR : Cal P w K mg base "_law_rims_place" 2 ["_law_items"] (spPlace rimsPl K)) : FnOk P w K mg base CX0 3 f fd ["_law_kind", "_law_items"] (spPl K) := by
  refine F.ok scPl (fun vs H Q E h => ?_) (fun cdv A outer s H vs Q E hr h => ?_)
  · obtain ⟨b, a, zs, rfl, _⟩ := h
    rfl
  · obtain ⟨b, a, zs, rfl, hS, hne, hfit, hlz, k⟩ := h
    refine ⟨_, pss_one (ps_ret (pe_ifExp (pt_cmpR op_eq (pv 0) pe_str (nomark _)) (pe_cal GW hr (by decide) (by rfl) (pa_cons (pv 1) pa_nil)) (pe_cal GR hr (by decide) (by rfl) (pa_cons (pv 1) pa_nil)))), ?_⟩
    refine ⟨_, rfl, rfl, _, rfl, ?_⟩
    rw [kS_eq]
    cases b with
    | true => exact iteT ⟨_, rfl, a, zs, rfl, hS, hne, hfit, hlz, k⟩
    | false => exact iteF ⟨_, rfl, a, zs, rfl, hS, hne, hfit, hlz, k⟩
end
end W03
set_option Elab.async false
set_option linter.all false
set_option maxRecDepth 100000
set_option maxHeartbeats 600000
namespace W03
open PySem L2 PySem.Spec PyProof.Rows WR WB
/-! ### texts as data -/
theorem lay_strs : ∀ zs : List Str, (∀ z ∈ zs, PyData.strOk z = true) → PyData.canLayAll0 (zs.map PyData.str) = true
  | [], _ => rfl
  | z :: r, h => by
    have h1 := h z List.mem_cons_self
    have h2 := lay_strs r fun y hy => h y (List.mem_cons_of_mem _ hy)
    simp [PyData.canLayAll0, PyData.canLay0, h1, h2]
theorem deep_strs : ∀ zs : List Str, PyData.depthAll (zs.map PyData.str) = 0
  | [] => rfl
  | _ :: r => by simp [PyData.depthAll, PyData.depth, deep_strs r]
theorem shaped_strs {zs : List Str} (h : ∀ z ∈ zs, PyData.strOk z = true) : SeqAt.shaped (.list (zs.map PyData.str)) = true := by
  simp [SeqAt.shaped, PyData.canLay0, PyData.depth, lay_strs zs h, deep_strs]
theorem fit_ok {z : Str} (h : Fit z) : PyData.strOk z = true := by
  unfold PyData.strOk
  rw [Array.all_eq_true']
  intro c hc
  have := h.1 c (Array.mem_toList_iff.mpr hc)
  exact decide_eq_true (by omega)
theorem eqv_strs : ∀ zs : List Str, PyData.eqv (.list (zs.map PyData.str)) (.list (zs.map PyData.str)) = true := by
  intro zs
  show PyData.eqvAll (zs.map PyData.str) (zs.map PyData.str) = true
  induction zs with
  | nil => rfl
  | cons z r ih =>
    show (PyData.eqv (.str z) (.str z) && PyData.eqvAll (r.map PyData.str) (r.map PyData.str)) = true
    rw [ih, Bool.and_true]
    exact beq_self_eq_true z
theorem dpStrs {K : PySem.W.Frag} {H : Hp} : ∀ zs : List Str, DpAll K H (zs.map V.str) (zs.map PyData.str)
  | [] => .nil
  | z :: r => .cons (.str z) (dpStrs r)
/-! ### the items of words -/
def slw : List (List Int) → List Str
  | [] => []
  | w :: r => w.map itm ++ (r.map fun u => slashS :: u.map itm).flatten
theorem slw_snoc : ∀ (us : List (List Int)) (w : List Int), slw (us ++ [w]) = slw us ++ ((if us = [] then [] else [slashS]) ++ w.map itm)
  | [], w => by simp [slw]
  | u :: r, w => by
    show u.map itm ++ ((r ++ [w]).map fun u => slashS :: u.map itm).flatten = _
    rw [List.map_append, List.flatten_append]
    simp [slw]
theorem slw_more : ∀ {r : List (List Int)}, r ≠ [] → (r.map fun u => slashS :: u.map itm).flatten = slashS :: slw r
  | [], h => absurd rfl h
  | u :: r, _ => by simp [slw]
theorem slF_slw : ∀ (rs : List (List Int)) (cur : List Int), slF rs cur = slw (rs ++ [cur])
  | [], cur => by simp [slF, slw]
  | r :: rs, cur => by
    show slF (r :: rs) cur = r.map itm ++ ((rs ++ [cur]).map fun u => slashS :: u.map itm).flatten
    rw [slw_more (by simp), ← slF_slw rs cur]
    simp [slF]
theorem glue_app (c : Nat) : ∀ {xs ys : List (List Nat)}, xs ≠ [] → ys ≠ [] → MText.glue c (xs ++ ys) = MText.glue c xs ++ c :: MText.glue c ys
  | [], _, h, _ => absurd rfl h
  | [a], [], _, h => absurd rfl h
  | [a], b :: r, _, _ => rfl
  | a :: b :: r, ys, _, h => by
    have ih := glue_app c (xs := b :: r) (ys := ys) (by simp) h
    show a ++ c :: MText.glue c ((b :: r) ++ ys) = (a ++ c :: MText.glue c (b :: r)) ++ c :: MText.glue c ys
    rw [ih]
    simp
theorem join_cons (s a b : Str) (r : List Str) : (Txt.join s (a :: b :: r)).cps.toList = a.cps.toList ++ s.cps.toList ++ (Txt.join s (b :: r)).cps.toList := by
  show (Builtin.Str.glued s (a :: b :: r)).cps.toList = _ ++ (Builtin.Str.glued s (b :: r)).cps.toList
  rw [StrLaws.glued_eq_join, StrLaws.glued_eq_join]
  show (a ++ s ++ Str.join s (b :: r)).cps.toList = _
  rw [Str.cps_append, Str.cps_append, Array.toList_append, Array.toList_append]
theorem bars_eq : (Str.ofString " / ").cps.toList = [32, 47, 32] := by decide +kernel
theorem txt_items {w : List Int} (h : w ≠ []) : (txt w).cps.toList = MText.glue 32 ((w.map itm).map (·.cps.toList)) := by
  unfold txt
  rw [if_neg h, MText.join_glue]
theorem rims_text : ∀ {ws : List (List Int)}, ws ≠ [] → (∀ w ∈ ws, w ≠ []) → Txt.join ⟨#[32]⟩ (slw ws) = txtR ws := by
  intro ws h0 h
  refine MText.str_eq ?_
  rw [MText.join_glue]
  unfold txtR
  induction ws with
  | nil => exact absurd rfl h0
  | cons w r ih =>
    have hw := h w List.mem_cons_self
    have hne : ((w.map itm).map (·.cps.toList)) ≠ [] := by
      cases w with
      | nil => exact absurd rfl hw
      | cons => exact fun z => nomatch z
    cases r with
    | nil =>
      have e1 : slw [w] = w.map itm := by simp [slw]
      have e2 : (Txt.join (Str.ofString " / ") ([w].map txt)).cps.toList = (txt w).cps.toList := by
        show (Builtin.Str.glued _ [txt w]).cps.toList = _
        rw [StrLaws.glued_eq_join]
        rfl
      rw [e1, e2, txt_items hw]
    | cons u r =>
      have e1 : slw (w :: u :: r) = w.map itm ++ slashS :: slw (u :: r) := by
        show w.map itm ++ ((u :: r).map fun u => slashS :: u.map itm).flatten = _
        rw [slw_more (by simp)]
      have hu := h u (List.mem_cons_of_mem _ List.mem_cons_self)
      have hne2 : (slw (u :: r)).map (·.cps.toList) ≠ [] := by
        cases u with
        | nil => exact absurd rfl hu
        | cons => exact fun z => nomatch z
      have ih := ih (by simp) fun y hy => h y (List.mem_cons_of_mem _ hy)
      rw [e1, List.map_append, glue_app 32 hne (by simp)]
      show _ = (Txt.join (Str.ofString " / ") (txt w :: txt u :: r.map txt)).cps.toList
      rw [join_cons, ← txt_items hw, bars_eq]
      have ih : MText.glue 32 ((slw (u :: r)).map (·.cps.toList)) = (Txt.join (Str.ofString " / ") (txt u :: r.map txt)).cps.toList := ih
      rw [← ih]
      show _ ++ 32 :: MText.glue 32 ([47] :: (slw (u :: r)).map (·.cps.toList)) = _
      have e3 : MText.glue 32 ([47] :: (slw (u :: r)).map (·.cps.toList)) = [47] ++ 32 :: MText.glue 32 ((slw (u :: r)).map (·.cps.toList)) := glue_app 32 (xs := [[47]]) (by simp) hne2
      rw [e3]
      simp
/-- the text of what is read -/
theorem word_back {z : Str} (h : wordPl (sp z) = none) : txt ((sp z).filterMap lof) = z ∧ Lts ((sp z).filterMap lof) ∧ ((sp z).filterMap lof).length ≤ 500 ∧ sp z = if (sp z).filterMap lof = [] then [dashS] else ((sp z).filterMap lof).map itm := by
  have hj := sp_join z
  have hne := sp_ne z
  rcases word_no h with ⟨e1, e2, e3, e4⟩ | e
  · have hne2 : (sp z).filterMap lof ≠ [] := fun q => by
      rw [q] at e2
      exact hne e2
    refine ⟨?_, e3, ?_, ?_⟩
    · unfold txt
      rw [if_neg hne2, ← e2, hj]
    · have := congrArg List.length e2
      rw [List.length_map] at this
      omega
    · rw [if_neg hne2]
      exact e2
  · rw [e]
    have e0 : ([dashS] : List Str).filterMap lof = [] := rfl
    rw [e0]
    refine ⟨?_, fun x hx => (nomatch hx), Nat.zero_le _, rfl⟩
    rw [e] at hj
    rw [← hj]
    rfl
theorem rims_back {z : Str} (h : rimsPl (sp z) = none) : txtR (rowsOf (sp z)) = z ∧ RimOk (rowsOf (sp z)) ∧ sp z = slw (rowsOf (sp z)) := by
  obtain ⟨rs, cur, e, hok, er, es, hne⟩ := rims_ok h
  have e2 : sp z = slw (rowsOf (sp z)) := by rw [er, ← slF_slw]; exact es
  refine ⟨?_, hok, e2⟩
  rw [← rims_text (by rw [er]; simp) hne, ← e2, sp_join]
end W03
set_option Elab.async false
set_option linter.all false
set_option maxRecDepth 100000
set_option maxHeartbeats 600000
namespace W03
open PySem L2 PySem.Spec PyProof.Rows WR WB
abbrev sTold2 : Stmt := top 56
/-- a word, or rims -/
def ValAt (K : PySem.W.Frag) (C CR : Addr) (H : Hp) (b : Bool) (p : Addr) (ws : List (List Int)) : Prop :=
  (b = true ∧ ∃ ns, ws = [ns] ∧ WordAt K C H p ns ∧ ns.length ≤ 500 ∧ Lts ns) ∨ (b = false ∧ ∃ xs, RimsAt K C CR H p xs ws ∧ RimOk ws)
theorem ValAt.same {K : PySem.W.Frag} {C CR : Addr} {H H' : Hp} {b : Bool} {p : Addr} {ws : List (List Int)} (h : ValAt K C CR H b p ws) (s : Same H H') : ValAt K C CR H' b p ws := by
  rcases h with ⟨e, ns, e2, h, r⟩ | ⟨e, xs, h, r⟩
  · exact .inl ⟨e, ns, e2, h.same s, r⟩
  · exact .inr ⟨e, xs, h.same s, r⟩
def toldF (ws : List (List Int)) : List Str := if slw ws = [] then [dashS] else slw ws
def spTold2 (K : PySem.W.Frag) (C CR : Addr) : Sp := fun vs H Q _ => ∃ (b : Bool) (p : Addr) (ws : List (List Int)), vs = [.str (kS b), .ref p] ∧ ValAt K C CR H b p ws ∧ ∀ q H', Same H H' → H' q = some (.lst ((toldF ws).map V.str)) → Q (.ref q) H'
/-- tuples of letters -/
def TupsAt (K : PySem.W.Frag) (H : Hp) (D : Addr) (ws : List (List Int)) : Prop := ∃ vs, H D = some (.lst vs) ∧ All2 (fun v ns => ∃ t, v = V.ref t ∧ SqT K H t (iv ns)) vs ws
theorem TupsAt.same {K : PySem.W.Frag} {H H' : Hp} {D : Addr} {ws : List (List Int)} (h : TupsAt K H D ws) (s : Same H H') : TupsAt K H' D ws := by
  obtain ⟨vs, h1, h2⟩ := h
  exact ⟨vs, s _ _ h1, h2.imp fun _ _ ⟨t, e, q⟩ => ⟨t, e, WR.Same.seqT s q⟩⟩
theorem slw_len (ws : List (List Int)) : (slw ws).length ≤ ws.flatten.length + ws.length := by
  have : ∀ r : List (List Int), ((r.map fun u => slashS :: u.map itm).flatten).length = r.flatten.length + r.length := by
    intro r
    induction r with
    | nil => rfl
    | cons u r ih =>
      rw [List.map_cons, List.flatten_cons, List.length_append, ih, List.flatten_cons, List.length_append, List.length_cons, List.length_cons, List.length_map]
      omega
  cases ws with
  | nil => exact Nat.zero_le _
  | cons w r =>
    unfold slw
    rw [List.length_append, this, List.length_map, List.flatten_cons, List.length_append, List.length_cons]
    omega
theorem flat_take_le (ws : List (List Int)) (i : Nat) : (ws.take i).flatten.length ≤ ws.flatten.length := by
  conv => rhs; rw [← List.take_append_drop i ws]
  rw [List.flatten_append, List.length_append]
  omega
theorem all_itm {vs : List V} {ns : List Int} (h : All2 (fun v b => v = V.str (itm b)) vs ns) : vs = (ns.map itm).map V.str := by
  induction h with
  | nil => rfl
  | cons h1 _ ih => rw [List.map_cons, List.map_cons, h1, ih]
theorem itm_ok {i : Int} (h2 : i.natAbs ≤ 26) : PyData.strOk (itm i) = true := by
  unfold PyData.strOk
  rw [Array.all_eq_true']
  intro c hc
  have hc := Array.mem_toList_iff.mpr hc
  unfold itm at hc
  refine decide_eq_true ?_
  split at hc
  · simp at hc; omega
  · simp at hc; omega
theorem slw_ok {ws : List (List Int)} (h : Lts ws.flatten) : ∀ z ∈ slw ws, PyData.strOk z = true := by
  have hw : ∀ w : List Int, Lts w → ∀ z ∈ w.map itm, PyData.strOk z = true := fun w hl z hz => by
    obtain ⟨i, hi, rfl⟩ := List.mem_map.mp hz
    exact itm_ok (hl i hi).2
  have hr : ∀ r : List (List Int), Lts r.flatten → ∀ z ∈ (r.map fun u => slashS :: u.map itm).flatten, PyData.strOk z = true := fun r hl z hz => by
    obtain ⟨l, hl2, hz2⟩ := List.mem_flatten.mp hz
    obtain ⟨u, hu, rfl⟩ := List.mem_map.mp hl2
    rcases List.mem_cons.mp hz2 with rfl | hz2
    · decide +kernel
    · exact hw u (hl.word hu) z hz2
  cases ws with
  | nil => exact fun z hz => (nomatch hz)
  | cons w r =>
    intro z hz
    have h1 : Lts w := h.word List.mem_cons_self
    have h2 : Lts r.flatten := fun x hx => h x (by rw [List.flatten_cons]; exact List.mem_append_right _ hx)
    rcases List.mem_append.mp hz with hz | hz
    · exact hw w h1 z hz
    · exact hr r h2 z hz
theorem op_lc {r : R2} {wi : TI} {g : TG} {tt : TT} {ta te : TE} {vs : List Nat} {σ : L2.St} {H : Hp} {Q : VK}
    (h : ta σ H fun x H0 => wi σ H0 fun J H1 => tLc (fun _ H R => R J H) g tt te vs σ H1 fun y H2 => r x y H2 Q) : tOp r ta (tLc wi g tt te vs) σ H Q := h
theorem nx_op_lc2 {r : R2} {wi : TI} {g gg : TG} {tt : TT} {ta te : TE} {vs : List Nat} {D : Ends} {σ : L2.St} {H : Hp}
    (h : ta σ H fun x H0 => wi σ H0 fun J H1 => tLc (fun _ H R => R J H) g tt te vs σ H1 fun y H2 => r x y H2 fun z H3 => gg z σ H3 D.nx) : tAsg (tOp r ta (tLc wi g tt te vs)) gg D σ H := h
section
variable {P : Program} {w : World} {K : PySem.W.Frag} {mg : Str → Option Value} {base : Heap} {C CR : Addr}
abbrev nTold2 : List Str := ["_law_kind", "_law_value", "_law_words", "_law_found", "_law_at", "_law_letters_here", "_law_word", "_law_letter_here"]
theorem scTold2 : FnScope nTold2 ["_law_kind", "_law_value"] (defScope sTold2) := ⟨rfl, rfl, rfl, by decide +kernel, rfl, by decide +kernel, by decide +kernel⟩
theorem ok_told2 {f : Addr} {fd : FuncData} (F : Fun K "_law_told" "_law_told" sTold2 f fd) (T : TxW K mg C) (TC : TxRC K mg CR) (henum : mg "enumerate" = none) (GT : Cal P w K mg base "_law_text_of" 1 ["_law_letter_here"] spTxt) : FnOk P w K mg base CX0 2 f fd ["_law_kind", "_law_value"] (spTold2 K C CR) := by
  refine F.ok scTold2 (fun vs H Q E h => ?_) (fun cdv A outer s H vs Q E hr h => ?_)
  · obtain ⟨b, p, ws, rfl, _⟩ := h
    rfl
  · obtain ⟨b, p, ws, rfl, hV, k⟩ := h
    refine ⟨_, Evl.pss_cut (ps_set (i := 2) scTold2.nd rfl (Or.inl rfl) (pe_ifExp (pt_cmpR op_eq (pv 0) pe_str (nomark _)) (pe_lst (pa_cons (pe_fld (pv 1) rfl) pa_nil))
        (pe_lc (own := [("_law_word", 6)]) (g := gName 6) (tt := tYes) rfl scTold2.nd (pi_tup (pe_fld (pv 1) rfl)) (blkOk_by (N := nTold2) (sc := defScope sTold2) (by decide +kernel)) (fun _ _ _ _ _ => pg_name (i := 6) scTold2.nd rfl (Or.inl rfl)) (fun _ _ _ _ _ => pts_nil)
          (fun _ _ _ _ _ => pe_fldK (K := K) rfl (pv 6) rfl))))
      (pss_cons (ps_set (i := 3) scTold2.nd rfl (Or.inl rfl) (pe_lst pa_nil))
      (pss_cons (ps_for PassesOwn.never rfl (pi_enum (by rfl) henum (pa_cons (pv 2) pa_nil)) (pg_tup (n := 2) rfl (pgs_cons (pg_name (i := 4) scTold2.nd rfl (Or.inl rfl)) (pgs_cons (pg_name (i := 5) scTold2.nd rfl (Or.inl rfl)) pgs_nil)))
        (pss_one (ps_set (i := 3) scTold2.nd rfl (Or.inl rfl) (pe_op op_cat (pe_op op_cat (pv 3) (pe_ifExp (pt_cmpR op_gt (pv 4) pe_int (nomark _)) (pe_lst (pa_cons pe_str pa_nil)) (pe_lst pa_nil)))
          (pe_lc (own := [("_law_letter_here", 7)]) (g := gName 7) (tt := tYes) rfl scTold2.nd (pi_tup (pv 5)) (blkOk_by (N := nTold2) (sc := defScope sTold2) (by decide +kernel)) (fun _ _ _ _ _ => pg_name (i := 7) scTold2.nd rfl (Or.inl rfl)) (fun _ _ _ _ _ => pts_nil)
            (fun _ _ _ _ _ => pe_cal GT hr (by decide) (by rfl) (pa_cons (pv 7) pa_nil)))))))
      (pss_one (ps_ret (pe_ifExp (pt_cmpR (op_neD hr.units) (pv 3) (pe_lst pa_nil) (nomark _)) (pv 3) (pe_lst (pa_cons pe_str pa_nil))))))), ?_⟩
    have hws : ws.length ≤ 4 ∧ ws.flatten.length ≤ 500 ∧ Lts ws.flatten := by
      rcases hV with ⟨_, ns, rfl, _, hl, hL⟩ | ⟨_, xs, _, hok⟩
      · refine ⟨by show 1 ≤ 4; decide, by simpa using hl, fun x hx => hL x (by simpa using hx)⟩
      · exact ⟨hok.2.1, by have := hok.2.2.2.1; omega, hok.2.2.2.2.1⟩
    refine ⟨fun σ' H' => ∃ D : Addr, σ' = [some (.str (kS b)), some (.ref p), some (.ref D), none, none, none, none, none] ∧ Same H H' ∧ TupsAt K H' D ws, ?_, ?_⟩
    · refine ⟨_, rfl, rfl, _, rfl, ?_⟩
      rw [kS_eq]
      rcases hV with ⟨rfl, ns, rfl, hW, hl, hL⟩ | ⟨rfl, xs, hR, hok⟩
      · refine iteT ?_
        obtain ⟨dx, tl, tk, ks, w1, w2, _⟩ := id hW
        refine ⟨_, rfl, p, C, dx, _, _, rfl, w1, T.cl, T.nL, wf_letters, by show 1 ≤ sizeLine; decide, fun D hD => ?_⟩
        have s1 := same_upd (o := .lst [.ref tl]) hD
        exact ⟨D, rfl, s1, [.ref tl], upd_same, .cons ⟨tl, rfl, WR.Same.seqT s1 w2.sq⟩ .nil⟩
      · refine iteF ?_
        refine lc_in ?_
        obtain ⟨dx, tw, tl, th, tn, r1, r2, r3, _⟩ := id hR
        refine ⟨_, rfl, p, CR, dx, _, _, rfl, r1, TC.cl, TC.n1, rf_words, tw, rfl, ⟨_, r2.sq⟩, ?_⟩
        have lxw : xs.length = ws.length := r3.length
        refine lcM (walk_tup (K := K) (a := tw) (xs := xs.map V.ref)) ws (fun _ H v ns => ∃ t, v = V.ref t ∧ SqT K H t (iv ns)) (fun _ _ _ _ _ ⟨t, e, q⟩ s => ⟨t, e, WR.Same.seqT s q⟩) (fun D H ws o v ns hD ⟨t, e, q⟩ => ⟨t, e, SqT.keptL hD Kept.upd q⟩) (by rw [List.length_map]; omega) (by rw [List.length_map]; exact lxw) (fun H s => WR.Same.seqT s r2.sq) ?_ (fun x σ1 H A B k h => gName_mono k h) ?_
        · intro i x u hx hu D2 H2 hD2 _ s2 Qy ky
          obtain ⟨q, hq, rfl⟩ : ∃ q, xs[i]? = some q ∧ x = V.ref q := by
            rw [List.getElem?_map] at hx
            cases e : xs[i]? with
            | none => rw [e] at hx; cases hx
            | some q => rw [e] at hx; exact ⟨q, rfl, (Option.some.inj hx).symm⟩
          obtain ⟨u', hu', Wq⟩ := r3.at hq
          obtain rfl : u' = u := Option.some.inj (hu'.symm.trans hu)
          obtain ⟨dx1, tl1, tk, ks, w1, w2, _⟩ := Wq.same s2
          exact ⟨rfl, _, rfl, q, C, dx1, _, _, rfl, w1, T.cl, T.nL, wf_letters, ky _ H2 (Same.refl _) ⟨tl1, rfl, w2.sq⟩⟩
        intro D H2 vs hD s2 h2 r2
        exact ⟨D, rfl, s2, vs, h2, r2⟩
    rintro σ' H1 ⟨D, rfl, s1, vs, hD, hvs⟩
    refine ⟨Nat.zero_le _, fun L0 hL0 => ?_⟩
    have s2 := s1.trans (same_upd (o := .lst []) hL0)
    have hD2 := same_upd (o := .lst []) hL0 _ _ hD
    have hvs2 := hvs.imp fun _ _ ⟨t, e, q⟩ => (⟨t, e, WR.Same.seqT (same_upd (o := .lst []) hL0) q⟩ : ∃ t, _ = V.ref t ∧ SqT K (L2.upd H1 L0 (.lst [])) t (iv _))
    have lvs := hvs.length
    have hL2 : (L2.upd H1 L0 (.lst [])) L0 = some (.lst ((slw (ws.take 0)).map V.str)) := by
      rw [upd_same, List.take_zero]
      rfl
    generalize L2.upd H1 L0 (.lst []) = H2 at s2 hD2 hvs2 hL2
    refine ⟨_, rfl, D, _, rfl, SqL.of hD2, ?_⟩
    refine for_it (walk_enum (K := K) (a := D) (xs := vs)) (fun i σ H' => ∃ (v4 v5 : Option V) (L : Addr), σ = [some (.str (kS b)), some (.ref p), some (.ref D), some (.ref L), v4, v5, none, none] ∧ Same H2 H' ∧ H' L = some (.lst ((slw (ws.take i)).map V.str)))
      ⟨none, none, L0, rfl, Same.refl _, hL2⟩ (fun i σ H' _ ⟨_, _, _, _, s, _⟩ => SqL.of (s _ _ hD2)) ?_ ?_
    · rintro i x σ H3 H4 hi ⟨v4, v5, L, rfl, sm, hL⟩ ⟨T0, xi, yi, rfl, hT0, rfl, hx, hy⟩
      have hin : i < ws.length := by omega
      obtain rfl := Option.some.inj hx
      have hy : vs[i]? = some yi := hy
      obtain ⟨u, hu, t, rfl, ht⟩ := hvs2.at hy
      have hu' : ws[i]? = some u := hu
      have eu : ws[i] = u := (List.getElem?_eq_some_iff.mp hu').2
      have sT := same_upd (o := .tup [.int (i : Int), .ref t]) hT0
      have hLT := sT _ _ hL
      have ht4 := WR.Same.seqT (sm.trans sT) ht
      refine ⟨T0, _, rfl, SqT.of upd_same, rfl, _, _, rfl, _, _, rfl, rfl, ?_⟩
      have hlu : u.length ≤ 500 := Nat.le_trans (word_le (List.mem_of_getElem? hu')) hws.2.1
      have hLu : Lts u := hws.2.2.word (List.mem_of_getElem? hu')
      have hsl := slw_len (ws.take i)
      have hsf := flat_take_le ws i
      have hst : (ws.take i).length ≤ 4 := by rw [List.length_take]; omega
      generalize L2.upd H3 T0 (.tup [.int (i : Int), .ref t]) = H5 at sT hLT ht4 ⊢
      have e0 : slw (ws.take (i + 1)) = slw (ws.take i) ++ ((if 0 < i then [slashS] else []) ++ u.map itm) := by
        rw [List.take_succ_eq_append_getElem hin, eu, slw_snoc]
        congr 2
        by_cases h0 : 0 < i
        · rw [if_pos h0, if_neg]
          intro q
          have h9 : (ws.take i).length = 0 := by rw [q]; rfl
          rw [List.length_take] at h9
          omega
        · rw [if_neg h0, if_pos]
          have : i = 0 := by omega
          rw [this]
          rfl
      refine nx_op_lc2 ?_
      refine ⟨_, rfl, _, rfl, _, _, rfl, rfl, _, rfl, ?_⟩
      by_cases h0 : 0 < i
      · refine iteT' (decide_eq_true (by omega)) ?_
        refine ⟨by show 1 ≤ sizeLine; decide, fun q hq => ?_⟩
        show rCat (.ref L) (.ref q) (L2.upd H5 q (.lst ([slashS].map V.str))) _
        have hone : ([slashS] : List Str).length ≤ 1 := by decide
        have hSL : (slw (ws.take i)).length ≤ 504 := by omega
        have s6 := same_upd (o := .lst ([slashS].map V.str)) hq
        have hq6 : (L2.upd H5 q (.lst ([slashS].map V.str))) q = some (.lst ([slashS].map V.str)) := upd_same
        have hL6 := s6 _ _ hLT
        have ht6 := WR.Same.seqT s6 ht4
        refine ⟨L, q, _, [slashS].map V.str, rfl, rfl, hL6, hq6, Evl.sz_of (by rw [List.length_map, List.length_map]; omega), fun M hM => ?_⟩
        have s7 := s6.trans (same_upd (o := .lst ((slw (ws.take i)).map V.str ++ [slashS].map V.str)) hM)
        have hM7 : (L2.upd (L2.upd H5 q (.lst ([slashS].map V.str))) M (.lst ((slw (ws.take i)).map V.str ++ [slashS].map V.str))) M = some (.lst ((slw (ws.take i)).map V.str ++ [slashS].map V.str)) := upd_same
        have ht7 := WR.Same.seqT (same_upd (o := .lst ((slw (ws.take i)).map V.str ++ [slashS].map V.str)) hM) ht6
        have hSL : (slw (ws.take i)).length ≤ 504 := by omega
        generalize L2.upd (L2.upd H5 q (.lst ([slashS].map V.str))) M (.lst ((slw (ws.take i)).map V.str ++ [slashS].map V.str)) = H7 at s7 hM7 ht7 ⊢
        refine ⟨_, rfl, t, rfl, ⟨_, ht7⟩, ?_⟩
        refine lcM (walk_tup (K := K) (a := t) (xs := iv u)) u (fun _ _ v b => v = V.str (itm b)) (fun _ _ _ _ _ h _ => h) (fun _ _ _ _ _ _ _ h => h) (by rw [List.length_map]; omega) (by rw [List.length_map]) (fun H s => WR.Same.seqT s ht7) ?_ (fun x σ1 H A B k h => gName_mono k h) ?_
        · intro j x c hx hc D2 H8 hD2 _ s8 Qy ky
          rw [List.getElem?_map, hc] at hx
          obtain rfl := Option.some.inj hx
          obtain ⟨c1, c2⟩ := hLu c (List.mem_of_getElem? hc)
          exact ⟨rfl, _, rfl, c, rfl, c1, c2, ky _ _ (Same.refl _) rfl⟩
        intro D8 H8 vs8 hD8 s8 h8 r8
        have e8 := all_itm r8
        subst e8
        refine ⟨M, D8, _, _, rfl, rfl, s8 _ _ hM7, h8, Evl.sz_of (by rw [List.length_append, List.length_map, List.length_map, List.length_map, List.length_map]; omega), fun L9 hL9 => ?_⟩
        refine ⟨some (.int (i : Int)), some (.ref t), L9, rfl, (((sm.trans sT).trans s7).trans s8).trans (same_upd hL9), ?_⟩
        rw [upd_same, e0, if_pos h0]
        simp only [List.map_append, List.append_assoc]
      · refine iteF' (decide_eq_false (by omega)) ?_
        refine ⟨Nat.zero_le _, fun q hq => ?_⟩
        show rCat (.ref L) (.ref q) (L2.upd H5 q (.lst (([] : List Str).map V.str))) _
        have hone : (([] : List Str) : List Str).length ≤ 1 := by decide
        have hSL : (slw (ws.take i)).length ≤ 504 := by omega
        have s6 := same_upd (o := .lst (([] : List Str).map V.str)) hq
        have hq6 : (L2.upd H5 q (.lst (([] : List Str).map V.str))) q = some (.lst (([] : List Str).map V.str)) := upd_same
        have hL6 := s6 _ _ hLT
        have ht6 := WR.Same.seqT s6 ht4
        refine ⟨L, q, _, ([] : List Str).map V.str, rfl, rfl, hL6, hq6, Evl.sz_of (by rw [List.length_map, List.length_map]; omega), fun M hM => ?_⟩
        have s7 := s6.trans (same_upd (o := .lst ((slw (ws.take i)).map V.str ++ ([] : List Str).map V.str)) hM)
        have hM7 : (L2.upd (L2.upd H5 q (.lst (([] : List Str).map V.str))) M (.lst ((slw (ws.take i)).map V.str ++ ([] : List Str).map V.str))) M = some (.lst ((slw (ws.take i)).map V.str ++ ([] : List Str).map V.str)) := upd_same
        have ht7 := WR.Same.seqT (same_upd (o := .lst ((slw (ws.take i)).map V.str ++ ([] : List Str).map V.str)) hM) ht6
        have hSL : (slw (ws.take i)).length ≤ 504 := by omega
        generalize L2.upd (L2.upd H5 q (.lst (([] : List Str).map V.str))) M (.lst ((slw (ws.take i)).map V.str ++ ([] : List Str).map V.str)) = H7 at s7 hM7 ht7 ⊢
        refine ⟨_, rfl, t, rfl, ⟨_, ht7⟩, ?_⟩
        refine lcM (walk_tup (K := K) (a := t) (xs := iv u)) u (fun _ _ v b => v = V.str (itm b)) (fun _ _ _ _ _ h _ => h) (fun _ _ _ _ _ _ _ h => h) (by rw [List.length_map]; omega) (by rw [List.length_map]) (fun H s => WR.Same.seqT s ht7) ?_ (fun x σ1 H A B k h => gName_mono k h) ?_
        · intro j x c hx hc D2 H8 hD2 _ s8 Qy ky
          rw [List.getElem?_map, hc] at hx
          obtain rfl := Option.some.inj hx
          obtain ⟨c1, c2⟩ := hLu c (List.mem_of_getElem? hc)
          exact ⟨rfl, _, rfl, c, rfl, c1, c2, ky _ _ (Same.refl _) rfl⟩
        intro D8 H8 vs8 hD8 s8 h8 r8
        have e8 := all_itm r8
        subst e8
        refine ⟨M, D8, _, _, rfl, rfl, s8 _ _ hM7, h8, Evl.sz_of (by rw [List.length_append, List.length_map, List.length_map, List.length_map, List.length_map]; omega), fun L9 hL9 => ?_⟩
        refine ⟨some (.int (i : Int)), some (.ref t), L9, rfl, (((sm.trans sT).trans s7).trans s8).trans (same_upd hL9), ?_⟩
        rw [upd_same, e0, if_neg h0]
        simp only [List.map_append, List.append_assoc]
    · rintro σ H3 ⟨v4, v5, L, rfl, sm, hL⟩
      rw [lvs, List.take_length] at hL
      refine ⟨_, rfl, Nat.zero_le _, fun q hq => ?_⟩
      have s6 := same_upd (o := .lst []) hq
      have hL6 := s6 _ _ hL
      have s06 := (s2.trans sm).trans s6
      have hkk := k
      unfold toldF at hkk
      have hok : ∀ z ∈ slw ws, PyData.strOk z = true := slw_ok hws.2.2
      refine ⟨.list ((slw ws).map PyData.str), .list [], .lst (SqL.of hL6) (dpStrs _), .lst (SqL.of upd_same) .nil, shaped_strs hok, rfl, _, rfl, ?_⟩
      cases es : slw ws with
      | nil =>
        rw [es, if_pos rfl] at hkk
        refine iteF' (by decide) ?_
        refine ⟨by show 1 ≤ sizeLine; decide, fun M hM => hkk M _ (s06.trans (same_upd hM)) ?_⟩
        rw [upd_same, dash_eq]
        rfl
      | cons y r =>
        rw [es, if_neg (by simp)] at hkk
        refine iteT' (by rfl) ?_
        rw [es] at hL6
        exact ⟨_, rfl, hkk L _ s06 hL6⟩
end
end W03
set_option Elab.async false
set_option linter.all false
set_option maxRecDepth 100000
set_option maxHeartbeats 600000
namespace W03
open PySem L2 PySem.Spec PyProof.Rows WR WB
abbrev sTR : Stmt := top 57
def spTR : Sp := fun vs H Q _ => ∃ (b : Bool) (z : Str), vs = [.str (kS b), .str z] ∧ Fit z ∧ ∀ H', Same H H' → Q (.bl true) H'
/-- what is known of the two classes -/
structure Both (P : Program) (w : World) (K : PySem.W.Frag) (mg : Str → Option Value) (base : Heap) (C CR : Addr) : Prop where
  eqW : EqW P w K mg base C
  eqR : EqR P w K mg base C CR
  strW : MStr.Spe P w K mg base C "__str__" 2 (spStrM K C)
  strR : MStr.Spe P w K mg base CR "__str__" 5 (spStrR K C CR)
theorem passF {X : Cx} : Passes (L2.CX X.prog X.w) X (fun _ _ _ => False) := fun pins σ H s e s' I c => by
  obtain ⟨a, B, H', cls, d, rfl, fl, hok, ub, na, os, ag, hE⟩ := c
  exact hE.elim
theorem call_strB {X : Cx} {C CR : Addr} (B : Both X.prog X.w X.K X.mg X.base C CR) {j : Nat} (hr : Room j X.A) (hj : 7 ≤ j) : CallR X (.type "str") (fun xs H Q => MStr.rStrO C (spStrM X.K C) xs H Q ∨ MStr.rStrO CR (spStrR X.K C CR) xs H Q) :=
  (MStr.call_strO B.strW hr (by omega)).or (MStr.call_strO B.strR hr (by omega))
theorem str_val {K : PySem.W.Frag} {C CR : Addr} {H : Hp} {b : Bool} {p : Addr} {ws : List (List Int)} {z : Str} {Q : VK} (hV : ValAt K C CR H b p ws) (hz : (b = true → ∀ ns, ws = [ns] → txt ns = z) ∧ (b = false → txtR ws = z)) (k : ∀ H', Same H H' → Q (.str z) H') :
    MStr.rStrO C (spStrM K C) [.ref p] H Q ∨ MStr.rStrO CR (spStrR K C CR) [.ref p] H Q := by
  rcases hV with ⟨e, ns, e2, hW, hl, hL⟩ | ⟨e, xs, hR, hok⟩
  · left
    obtain ⟨dx, tl, tk, ks, w1, _⟩ := id hW
    refine ⟨p, dx, _, rfl, w1, p, ns, rfl, hW, hl, hL, fun H' s => ⟨_, rfl, ?_⟩⟩
    rw [hz.1 e ns e2]
    exact k H' s
  · right
    obtain ⟨dx, tw, tl, th, tn, r1, _⟩ := id hR
    refine ⟨p, dx, _, rfl, r1, p, xs, ws, rfl, hR, hok, fun H' s => ⟨_, rfl, ?_⟩⟩
    rw [hz.2 e]
    exact k H' s
/-- what a right text gives -/
theorem read_ok {z : Str} {b : Bool} (h : plF b (sp z) = none) : ∃ ws, toldF ws = sp z ∧ (b = true → ws = [(sp z).filterMap lof] ∧ txt ((sp z).filterMap lof) = z ∧ Lts ((sp z).filterMap lof) ∧ ((sp z).filterMap lof).length ≤ 500) ∧ (b = false → ws = rowsOf (sp z) ∧ txtR ws = z ∧ RimOk ws) := by
  cases b with
  | true =>
    obtain ⟨h1, h2, h3, h4⟩ := word_back (z := z) h
    refine ⟨_, ?_, fun _ => ⟨rfl, h1, h2, h3⟩, fun e => nomatch e⟩
    unfold toldF
    have e1 : slw [(sp z).filterMap lof] = ((sp z).filterMap lof).map itm := by simp [slw]
    rw [e1]
    conv => rhs; rw [h4]
    by_cases hn : (sp z).filterMap lof = []
    · rw [hn]
      rfl
    · rw [if_neg hn, if_neg]
      intro q
      exact hn (List.map_eq_nil_iff.mp q)
  | false =>
    obtain ⟨h1, h2, h3⟩ := rims_back (z := z) h
    refine ⟨_, ?_, (fun e => nomatch e), fun _ => ⟨rfl, h1, h2⟩⟩
    unfold toldF
    rw [← h3, if_neg (sp_ne z)]
section
variable {P : Program} {w : World} {K : PySem.W.Frag} {mg : Str → Option Value} {base : Heap} {C CR CT : Addr}
abbrev nTR : List Str := ["_law_kind", "_law_text", "_law_items", "_law_place_here", "_law_value"]
theorem scTR : FnScope nTR ["_law_kind", "_law_text"] (defScope sTR) := ⟨rfl, rfl, rfl, by decide +kernel, rfl, by decide +kernel, by decide +kernel⟩
theorem ok_tr {f : Addr} {fd : FuncData} (F : Fun K "_law_text_right" "_law_text_right" sTR f fd) (B : Both P w K mg base C CR) (hstr : mg "str" = none) (GP : Cal P w K mg base "_law_place" 3 ["_law_kind", "_law_items"] (spPl K)) (GH : Cal P w K mg base "_law_heard" 8 ["_law_kind", "_law_text"] spHeard)
    (GR : CalX P w K mg base "_law_read" 7 ["_law_kind", "_law_text"] (spRead K C CR CT)) (GT : Cal P w K mg base "_law_told" 2 ["_law_kind", "_law_value"] (spTold2 K C CR)) : FnOk P w K mg base CX0 9 f fd ["_law_kind", "_law_text"] spTR := by
  refine F.ok scTR (fun vs H Q E h => ?_) (fun cdv A outer s H vs Q E hr h => ?_)
  · obtain ⟨b, z, rfl, _⟩ := h
    rfl
  · obtain ⟨b, z, rfl, hf, k⟩ := h
    refine ⟨_, pss_cons (ps_set (i := 2) scTR.nd rfl (Or.inl rfl) (pe_split (pv 1) pe_str))
      (pss_cons (ps_set (i := 3) scTR.nd rfl (Or.inl rfl) (pe_cal GP hr (by decide) (by rfl) (pa_cons (pv 0) (pa_cons (pv 2) pa_nil))))
      (pss_cons (ps_if (pt_cmpR op_notN (pv 3) pe_non (nomark _)) (pss_one (ps_ret (pe_cmpR (op_eqD hr.units) (pe_cal GH hr (by decide) (by rfl) (pa_cons (pv 0) (pa_cons (pv 1) pa_nil))) (pe_tup (pa_cons pe_int (pa_cons (pv 3) pa_nil))) (nomark _)))) pss_nil)
      (pss_cons (ps_set (i := 4) scTR.nd rfl (Or.inl rfl) (pe_calX GR hr (by decide) passF (by rfl) (pa_cons (pv 0) (pa_cons (pv 1) pa_nil))))
      (pss_one (ps_ret (pe_and (pe_cmpR op_eq (pe_callTy (call_strB B hr (by decide)) (by rfl) hstr (by decide +kernel) (pa_cons (pv 4) pa_nil)) (pv 1) (nomark _))
        (pe_and (pe_cmpR (op_eqD hr.units) (pe_cal GT hr (by decide) (by rfl) (pa_cons (pv 0) (pa_cons (pv 4) pa_nil))) (pv 2) (nomark _))
        (pe_one (pe_cmpR ((op_eqW B.eqW hr (by decide)).or (op_eqR B.eqR hr (by decide))) (pe_calX GR hr (by decide) passF (by rfl) (pa_cons (pv 0) (pa_cons (pe_callTy (call_strB B hr (by decide)) (by rfl) hstr (by decide +kernel) (pa_cons (pv 4) pa_nil)) pa_nil))) (pv 4) (nomark _)))))))))), ?_⟩
    have hs : z.length + 2 ≤ sizeLine := Nat.le_trans (show z.length + 2 ≤ 4002 by have := hf.2; omega) (by decide)
    refine ⟨_, rfl, ⟨_, rfl⟩, _, _, rfl, rfl, (by decide +kernel), hs, fun a ha => ?_⟩
    rw [space_eq]
    have s1 := same_upd (o := .lst ((sp z).map V.str)) ha
    have hA : (L2.upd H a (.lst ((sp z).map V.str))) a = some (.lst ((sp z).map V.str)) := upd_same
    show tNext _ _ (L2.upd H a (.lst ((sp z).map V.str)))
    generalize L2.upd H a (.lst ((sp z).map V.str)) = H1 at s1 hA ⊢
    refine ⟨_, rfl, _, rfl, b, a, sp z, rfl, SqL.of hA, sp_ne z, fun y hy => sp_fit hf hy, sp_len hf, fun H2 s2 => ?_⟩
    have s02 := s1.trans s2
    have hA2 := s2 _ _ hA
    refine ⟨_, rfl, rfl, _, rfl, ?_⟩
    cases hp : plF b (sp z) with
    | some i =>
      refine iteT' rfl ?_
      refine ⟨_, rfl, _, rfl, b, .str z, rfl, .inr ⟨z, rfl, hf, fun j hj => ?_, fun hn => ?_⟩⟩
      · rw [hp] at hj
        obtain rfl := Option.some.inj hj
        intro t H3 s3 h3
        refine ⟨_, rfl, by show 2 ≤ sizeLine; decide, fun u hu => ?_⟩
        have s4 := same_upd (o := .tup [.int 0, .int (i : Int)]) hu
        refine ⟨.tuple [.int 0, .int (i : Int)], .tuple [.int 0, .int (i : Int)], .tup (SqT.of (s4 _ _ h3)) (.cons (.int 0) (.cons (.int _) .nil)), .tup (SqT.of upd_same) (.cons (.int 0) (.cons (.int _) .nil)), rfl, rfl, ?_⟩
        have e : PyData.eqv (.tuple [.int 0, .int (i : Int)]) (.tuple [.int 0, .int (i : Int)]) = true := by
          show (((0 : Int) == 0) && (((i : Int) == (i : Int)) && true)) = true
          simp
        rw [e]
        exact k _ ((s02.trans s3).trans s4)
      · rw [hp] at hn
        cases hn
    | none =>
      refine iteF' rfl ?_
      obtain ⟨ws, htd, hw1, hw2⟩ := read_ok hp
      have hread : ∀ (H3 : Hp) (Q3 : VK), (∀ p H4, Same H3 H4 → ValAt K C CR H4 b p ws → Q3 (.ref p) H4) → spRead K C CR CT [.str (kS b), .str z] H3 Q3 (fun _ _ _ => False) := by
        intro H3 Q3 k3
        refine ⟨b, .str z, rfl, .inr ⟨z, rfl, hf, fun i hi => ?_, fun _ => ⟨fun e => fun p H4 s4 W4 => ?_, fun e => fun p H4 xs s4 R4 => ?_⟩⟩⟩
        · rw [hp] at hi
          cases hi
        · obtain ⟨e1, e2, e3, e4⟩ := hw1 e
          exact k3 p H4 s4 (.inl ⟨e, _, e1, W4, e4, e3⟩)
        · obtain ⟨e1, e2, e3⟩ := hw2 e
          refine k3 p H4 s4 (.inr ⟨e, xs, ?_, e3⟩)
          rw [e1]
          exact R4
      have htxt : (b = true → ∀ ns, ws = [ns] → txt ns = z) ∧ (b = false → txtR ws = z) := by
        refine ⟨fun e ns en => ?_, fun e => (hw2 e).2.1⟩
        obtain ⟨e1, e2, _⟩ := hw1 e
        rw [e1] at en
        have : (sp z).filterMap lof = ns := by injection en
        rw [← this]
        exact e2
      refine ⟨_, rfl, _, rfl, hread H2 _ fun p H3 s3 V3 => ?_⟩
      refine ⟨_, rfl, str_val V3 htxt fun H4 s4 => ?_⟩
      have V4 := V3.same s4
      have s04 := (s02.trans s3).trans s4
      have hA4 := s4 _ _ (s3 _ _ hA2)
      refine ⟨_, rfl, rfl, _, rfl, iteT' (decide_eq_true rfl) ?_⟩
      refine ⟨_, rfl, _, rfl, b, p, ws, rfl, V4, fun q H5 s5 h5 => ?_⟩
      rw [htd] at h5
      have hA5 := s5 _ _ hA4
      have hok : ∀ y ∈ sp z, PyData.strOk y = true := fun y hy => fit_ok (sp_fit hf hy)
      refine ⟨_, rfl, .list ((sp z).map PyData.str), .list ((sp z).map PyData.str), .lst (SqL.of h5) (dpStrs _), .lst (SqL.of hA5) (dpStrs _), shaped_strs hok, shaped_strs hok, _, rfl, iteT' (eqv_strs _) ?_⟩
      have V5 := V4.same s5
      refine ⟨_, rfl, _, rfl, str_val V5 htxt fun H6 s6 => ?_⟩
      refine hread H6 _ fun p7 H7 s7 V7 => ?_
      have V77 := (V5.same s6).same s7
      have s07 := ((s04.trans s5).trans s6).trans s7
      refine ⟨_, rfl, ?_⟩
      rcases V7 with ⟨eb, ns, e2, W7, _⟩ | ⟨eb, xs, R7, _⟩
      · rcases V77 with ⟨_, ms, e3, W77, _⟩ | ⟨eb2, _⟩
        · left
          refine ⟨p7, p, ns, ms, rfl, rfl, W7, W77, ?_⟩
          have : ns = ms := by
            rw [e2] at e3
            injection e3
          rw [decide_eq_true this]
          exact k _ s07
        · rw [eb] at eb2
          cases eb2
      · rcases V77 with ⟨eb2, _⟩ | ⟨_, ys, R77, _⟩
        · rw [eb] at eb2
          cases eb2
        · right
          refine ⟨p7, p, xs, ys, ws, ws, rfl, rfl, R7, R77, ?_⟩
          rw [decide_eq_true rfl]
          exact k _ s07
end
end W03
set_option Elab.async false
set_option linter.all false
set_option maxRecDepth 100000
set_option maxHeartbeats 600000
namespace W03
open PySem L2 PySem.Spec PyProof.Rows WR WB
abbrev sLets : Stmt := top 51
def spLets : Sp := fun vs H Q _ => ∃ (a c : Addr) (m n : Nat), vs = [.ref a, .int (m : Int)] ∧ HandAt H a c n ∧ m ≤ 500 ∧ n ≤ 8000 ∧ ∀ l H' ls, H l = none → Drew a c (n + 1 + 2 * m) H H' → H' l = some (.lst (iv ls)) → ls.length = m → Lts ls → Q (.ref l) H'
theorem small2 {i : Int} (h : i.natAbs ≤ 1000) : i.natAbs < 2 ^ 200 := Nat.lt_of_le_of_lt h (by decide)
section
variable {P : Program} {w : World} {K : PySem.W.Frag} {mg : Str → Option Value} {base : Heap}
abbrev nLets : List Str := ["_law_hand_here", "_law_many", "_law_most", "_law_turn"]
theorem scLets : FnScope nLets ["_law_hand_here", "_law_many"] (defScope sLets) := ⟨rfl, rfl, rfl, by decide +kernel, rfl, by decide +kernel, by decide +kernel⟩
theorem ok_lets {f : Addr} {fd : FuncData} (F : Fun K "_law_letters" "_law_letters" sLets f fd) (GD : Cal P w K mg base "_law_take" 1 ["_law_hand_here", "_law_many"] spTake) (GP : Cal P w K mg base "_law_pick" 2 ["_law_hand_here", "_law_some"] spPick) (hrange : mg "range" = none) : FnOk P w K mg base CX0 3 f fd ["_law_hand_here", "_law_many"] spLets := by
  refine F.ok scLets (fun vs H Q E h => ?_) (fun cdv A outer s H vs Q E hr h => ?_)
  · obtain ⟨a, c, m, n, rfl, _⟩ := h
    rfl
  · obtain ⟨a, c, m, n, rfl, hH, hm, hn, kq⟩ := h
    refine ⟨_, pss_cons (ps_set (i := 2) scLets.nd rfl (Or.inr rfl) (pe_cal GP hr (by decide) (by rfl) (pa_cons (pv 0) (pa_cons (pe_lst (pa_cons pe_int (pa_cons pe_int (pa_cons pe_int pa_nil)))) pa_nil))))
      (pss_one (ps_ret (pe_lc (own := [("_law_turn", 3)]) (g := gName 3) (tt := tYes) rfl scLets.nd (pi_range1 (by rfl) hrange (pa_cons (pv 1) pa_nil))
      (blkOk_by (N := nLets) (sc := defScope sLets) (by decide +kernel)) (fun _ _ _ _ _ => pg_name (i := 3) scLets.nd rfl (Or.inl rfl)) (fun _ _ _ _ _ => pts_nil)
      (fun _ _ _ _ _ => pe_op op_mul (pe_op op_add pe_int (pe_cal GD hr (by decide) (by rfl) (pa_cons (pv 0) (pa_cons (pv 2) pa_nil)))) (pe_op op_sub pe_int (pe_op op_mul pe_int (pe_cal GD hr (by decide) (by rfl) (pa_cons (pv 0) (pa_cons pe_int pa_nil))))))))), ?_⟩
    refine ⟨_, rfl, by show 3 ≤ sizeLine; decide, fun L hL => ?_⟩
    have s1 := same_upd (o := .lst [.int 2, .int 3, .int 26]) hL
    have hH1 := hH.same s1
    have hLL : (L2.upd H L (.lst [V.int 2, V.int 3, V.int 26])) L = some (.lst [.int 2, .int 3, .int 26]) := upd_same
    have d1 : Drew a c n H (L2.upd H L (.lst [V.int 2, V.int 3, V.int 26])) := (Drew.refl hH).same s1
    have nLa := hH.ne hL
    generalize L2.upd H L (.lst [V.int 2, V.int 3, V.int 26]) = H1 at s1 hH1 hLL d1 ⊢
    refine ⟨a, c, L, _, n, rfl, hH1, by omega, nLa, hLL, by decide, by decide, fun v hv H2 d2 => ?_⟩
    obtain ⟨k, rfl, k1, k26⟩ : ∃ k : Int, v = .int k ∧ 1 ≤ k ∧ k ≤ 26 := by
      simp only [List.mem_cons, List.not_mem_nil, or_false] at hv
      rcases hv with rfl | rfl | rfl
      · exact ⟨2, rfl, by decide, by decide⟩
      · exact ⟨3, rfl, by decide, by decide⟩
      · exact ⟨26, rfl, by decide, by decide⟩
    have d02 : Drew a c (n + 1) H H2 := ⟨d2.1, d1.2.trans d2.2⟩
    refine at_set ?_
    try dsimp only
    refine ret_e (lc_in ?_)
    refine ⟨_, rfl, (m : Int), rfl, by omega, by omega, ?_⟩
    rw [Int.toNat_natCast]
    intro D hD
    have hD0 : H D = none := d02.back hD
    have hDa := hH.ne hD0
    have hDc := hH.neC hD0
    refine lc_range (lo := 0) (n := m) (fun i H' => ∃ ls : List Int, ls.length = i ∧ Lts ls ∧ H' D = some (.lst (iv ls)) ∧ Drew a c (n + 1 + 2 * i) H H') ⟨[], rfl, (fun _ h => nomatch h), upd_same, d02.new hD⟩ ?_ ?_
    · rintro i H2 hi ⟨ls, hl, hk, hD2, d2⟩
      refine ⟨rfl, yes_te ?_⟩
      refine ⟨_, rfl, _, rfl, a, c, k, _, rfl, d2.1, by omega, by omega, small2 (by omega), fun H3 z z0 z1 hH3 hK3 => ⟨_, _, rfl, rfl, ?_⟩⟩
      refine ⟨_, rfl, a, c, 2, _, rfl, hH3, by omega, by decide, by decide, fun H4 y y0 y1 hH4 hK4 => ⟨_, _, rfl, rfl, .inl ⟨by omega, by omega⟩, _, _, rfl, rfl, _, _, rfl, rfl, .inl ⟨by omega, by omega⟩, ?_⟩⟩
      have d4 : Drew a c (n + 1 + 2 * i + 1 + 1) H H4 := ⟨hH4, d2.2.trans (hK3.trans hK4)⟩
      have hD4 := hK4 _ _ hDa (hK3 _ _ hDa hD2)
      refine ⟨_, hD4, Evl.sz_lt (by simp; omega), ls ++ [(1 + z) * (1 - 2 * y)], by simp [hl], fun x hx => ?_, by rw [upd_same]; simp [iv], d4.put hD0 hDa hDc⟩
      rcases List.mem_append.mp hx with h | h
      · exact hk x h
      · rw [List.mem_singleton.mp h]
        rcases (by omega : y = 0 ∨ y = 1) with rfl | rfl <;> omega
    · rintro H2 ⟨ls, hl, hk, hD2, d2⟩
      exact kq D H2 ls hD0 d2 hD2 hl hk
end
/-! ### right rims -/
theorem rgo_word : ∀ {w : List Int} {i : Nat} {rs : List (List Int)} {cur : List Int} {r : List Str}, Lts w → rs.flatten.length + cur.length + w.length ≤ 24 → rgo i rs cur (w.map itm ++ r) = rgo (i + w.length) rs (cur ++ w) r
  | [], i, rs, cur, r, _, _ => by rw [List.append_nil]; rfl
  | k :: w, i, rs, cur, r, hl, h => by
    obtain ⟨k1, k2⟩ := hl k List.mem_cons_self
    rw [List.length_cons] at h
    show rgo i rs cur (itm k :: (w.map itm ++ r)) = _
    rw [rgo_some (by omega) (lof_itm k1 k2), rgo_word (fun x hx => hl x (List.mem_cons_of_mem _ hx)) (by rw [List.length_append]; show _ + (_ + 1) + _ ≤ 24; omega), List.append_assoc, List.length_cons]
    have e : i + 1 + w.length = i + (w.length + 1) := by omega
    rw [e]
    rfl
theorem lof_slash : lof slashS = none := rfl
theorem rgo_rest : ∀ {ws : List (List Int)} {i : Nat} {rs : List (List Int)} {cur : List Int}, Lts ws.flatten → (∀ w ∈ ws, w ≠ []) → cur ≠ [] → rs.length + ws.length ≤ 3 → rs.flatten.length + cur.length + ws.flatten.length ≤ 24 →
    ∃ rs' cur', rgo i rs cur ((ws.map fun u => slashS :: u.map itm).flatten) = .inr (rs', cur') ∧ cur' ≠ [] ∧ rs' ++ [cur'] = rs ++ [cur] ++ ws
  | [], i, rs, cur, _, _, hc, _, _ => ⟨rs, cur, rfl, hc, by simp⟩
  | u :: ws, i, rs, cur, hl, hne, hc, h3, h24 => by
    have hu := hne u List.mem_cons_self
    have hul : 0 < u.length := List.length_pos_iff.mpr hu
    rw [List.flatten_cons, List.length_append] at h24
    rw [List.length_cons] at h3
    have l1 : Lts u := fun x hx => hl x (by rw [List.flatten_cons]; exact List.mem_append_left _ hx)
    have l2 : Lts ws.flatten := fun x hx => hl x (by rw [List.flatten_cons]; exact List.mem_append_right _ hx)
    show ∃ rs' cur', rgo i rs cur (slashS :: (u.map itm ++ (ws.map fun u => slashS :: u.map itm).flatten)) = .inr (rs', cur') ∧ _
    rw [rgo_cut (by omega) lof_slash ⟨rfl, hc, by omega⟩, rgo_word l1 (by rw [flat_snoc, List.length_append]; show _ + 0 + _ ≤ 24; omega)]
    obtain ⟨rs', cur', e1, e2, e3⟩ := rgo_rest (ws := ws) (i := i + 1 + u.length) (rs := rs ++ [cur]) (cur := [] ++ u) l2 (fun w hw => hne w (List.mem_cons_of_mem _ hw)) (by simpa using hu) (by rw [List.length_append]; show _ + 1 + _ ≤ 3; omega) (by rw [flat_snoc, List.length_append, List.nil_append]; omega)
    refine ⟨rs', cur', e1, e2, ?_⟩
    rw [e3]
    simp
theorem slw_right {w : List Int} {ws : List (List Int)} (hl : Lts (w :: ws).flatten) (hne : ∀ u ∈ w :: ws, u ≠ []) (h3 : ws.length ≤ 3) (h24 : (w :: ws).flatten.length ≤ 24) (hb : Fr.bal (w :: ws).flatten = []) : rimsPl (slw (w :: ws)) = none := by
  rw [List.flatten_cons, List.length_append] at h24
  have l1 : Lts w := fun x hx => hl x (by rw [List.flatten_cons]; exact List.mem_append_left _ hx)
  have l2 : Lts ws.flatten := fun x hx => hl x (by rw [List.flatten_cons]; exact List.mem_append_right _ hx)
  obtain ⟨rs', cur', e1, e2, e3⟩ := rgo_rest (ws := ws) (i := 0 + w.length) (rs := []) (cur := [] ++ w) l2 (fun u hu => hne u (List.mem_cons_of_mem _ hu)) (by simpa using hne w List.mem_cons_self) (by simpa using h3) (by simpa using h24)
  have e : rgo 0 [] [] (slw (w :: ws)) = .inr (rs', cur') := by
    show rgo 0 [] [] (w.map itm ++ _) = _
    rw [rgo_word l1 (by show 0 + 0 + _ ≤ 24; omega)]
    exact e1
  rw [rimsPl_r e, if_neg e2, if_pos]
  rw [e3]
  simpa using hb
theorem bal_iff {ns : List Int} : Fr.bal ns = [] ↔ ∀ k : Nat, k < 26 → Fr.cnt ns ((k : Int) + 1) = 0 := by
  unfold Fr.bal
  rw [List.filter_eq_nil_iff]
  constructor
  · intro q k hk
    have := q _ (List.mem_map_of_mem (List.mem_range.mpr hk))
    simpa using this
  · intro q p hp
    obtain ⟨k, hk, rfl⟩ := List.mem_map.mp hp
    have := q k (List.mem_range.mp hk)
    simpa using this
theorem count_neg (k : Int) : ∀ ns : List Int, (ns.map fun x => -x).count k = ns.count (-k)
  | [] => rfl
  | a :: r => by
    rw [List.map_cons, List.count_cons, List.count_cons, count_neg k r]
    have : ((-a) == k) = (a == -k) := by
      rw [Bool.eq_iff_iff, beq_iff_eq, beq_iff_eq]
      omega
    rw [this]
theorem bal_perm {ns s : List Int} (h : ns.Perm (s ++ s.map fun x => -x)) : Fr.bal ns = [] := by
  rw [bal_iff]
  intro k _
  unfold Fr.cnt
  rw [h.count_eq, h.count_eq, List.count_append, List.count_append, count_neg, count_neg, Int.neg_neg]
  omega
end W03
set_option Elab.async false
set_option linter.all false
set_option maxRecDepth 100000
set_option maxHeartbeats 600000
namespace W03
open PySem L2 PySem.Spec PyProof.Rows WR WB
abbrev sRight : Stmt := top 52
abbrev Pc (z : Str) : Prop := (∀ c ∈ z.cps.toList, c < 128) ∧ z.length ≤ 3
def spRight : Sp := fun vs H Q _ => ∃ (b : Bool) (a c : Addr) (n : Nat), vs = [.ref a, .str (kS b)] ∧ HandAt H a c n ∧ n ≤ 6000 ∧ ∀ p H' zs, H p = none → Drew a c (n + 1100) H H' → H' p = some (.lst (zs.map V.str)) → zs ≠ [] → (∀ z ∈ zs, Pc z) → zs.length ≤ 500 → plF b zs = none → Q (.ref p) H'
theorem itm_pc {i : Int} (h2 : i.natAbs ≤ 26) : Pc (itm i) := by
  refine ⟨fun c hc => ?_, Nat.le_trans (itm_len i) (by decide)⟩
  unfold itm at hc
  split at hc
  · simp at hc; omega
  · simp at hc; omega
theorem slash_pc : Pc slashS := ⟨fun c hc => by simp at hc; omega, by decide⟩
theorem dash_pc : Pc dashS := ⟨fun c hc => by simp at hc; omega, by decide⟩
theorem word_right {ns : List Int} (h0 : ns ≠ []) (hl : Lts ns) (hn : ns.length ≤ 500) : wordPl (ns.map itm) = none := by
  obtain ⟨k, r, rfl⟩ := List.exists_cons_of_ne_nil h0
  unfold wordPl
  rw [if_neg]
  · refine find_none fun j hj => ?_
    rw [wBad_at hj]
    rw [List.length_map] at hj
    rw [decide_eq_false (by omega), Bool.false_or, List.getElem_map]
    obtain ⟨k1, k2⟩ := hl _ (List.getElem_mem hj)
    rw [lof_itm k1 k2]
    rfl
  · intro e
    obtain ⟨k1, k2⟩ := hl k List.mem_cons_self
    exact itm_dash k1 k2 (Option.some.inj e)
theorem nodup_len : ∀ (L M : List Int), L.Nodup → (∀ k ∈ L, k ∈ M) → L.length ≤ M.length
  | [], M, _, _ => Nat.zero_le _
  | k :: L, M, nd, h => by
    have hk := h k List.mem_cons_self
    obtain ⟨n1, n2⟩ := List.nodup_cons.mp nd
    have ih := nodup_len L (M.erase k) n2 fun j hj => (List.mem_erase_of_ne (fun e => n1 (by rw [← e]; exact hj))).mpr (h j (List.mem_cons_of_mem _ hj))
    rw [List.length_erase_of_mem hk] at ih
    have : 0 < M.length := List.length_pos_of_mem hk
    rw [List.length_cons]
    omega
theorem call_lenK {X : Cx} {K : PySem.W.Frag} (h : X.K = K) : CallR X (.builtin "len") (fun xs H Q => ∃ p ys, xs = [.ref p] ∧ (SqL K H p ys ∨ SqT K H p ys) ∧ Q (.int ys.length) H) := h ▸ call_len_seq
theorem cutV_to {xs : List V} {j : Nat} (h : j ≤ xs.length) : cutV xs none (some ((j : Nat) : Int)) = xs.take j := by
  unfold cutV
  rw [HT.sIx_none, HT.sIx_nat, List.drop_zero, Nat.sub_zero, Nat.min_eq_left h]
theorem cutV_from {xs : List V} {j : Nat} (h : j ≤ xs.length) : cutV xs (some ((j : Nat) : Int)) none = xs.drop j := by
  unfold cutV
  rw [HT.sIx_none, HT.sIx_nat, Nat.min_eq_left h, List.take_of_length_le (by simp)]
theorem slw_pc {ws : List (List Int)} (h : Lts ws.flatten) : ∀ z ∈ slw ws, Pc z := by
  have hw : ∀ w : List Int, Lts w → ∀ z ∈ w.map itm, Pc z := fun w hl z hz => by
    obtain ⟨i, hi, rfl⟩ := List.mem_map.mp hz
    exact itm_pc (hl i hi).2
  cases ws with
  | nil => exact fun z hz => (nomatch hz)
  | cons w r =>
    intro z hz
    rcases List.mem_append.mp hz with hz | hz
    · exact hw w (h.word List.mem_cons_self) z hz
    · obtain ⟨l, hl2, hz2⟩ := List.mem_flatten.mp hz
      obtain ⟨u, hu, rfl⟩ := List.mem_map.mp hl2
      rcases List.mem_cons.mp hz2 with rfl | hz2
      · exact slash_pc
      · exact hw u (h.word (List.mem_cons_of_mem _ hu)) z hz2
theorem erase_perm : ∀ (us : List Int) (j : Nat) (h : j < us.length), (us[j] :: us.eraseIdx j).Perm us
  | a :: r, 0, h => List.Perm.refl _
  | a :: r, j + 1, h => by
    have hj : j < r.length := by simpa using h
    have ih := erase_perm r j hj
    show (r[j] :: a :: r.eraseIdx j).Perm (a :: r)
    exact (List.Perm.swap a r[j] _).trans (ih.cons a)
theorem nx_op_lc3 {r : R2} {wi : TI} {g gg : TG} {tt : TT} {ta te : TE} {vs : List Nat} {D : Ends} {σ : L2.St} {H : Hp} {Cc : TS} {b1 b2 : L2.St → Hp → Prop} {rt : VK}
    (h : ta σ H fun x H0 => wi σ H0 fun J H1 => tLc (fun _ H R => R J H) g tt te vs σ H1 fun y H2 => r x y H2 fun z H3 => gg z σ H3 (Cc D)) : tNext { nx := tSeq (tAsg (tOp r ta (tLc wi g tt te vs)) gg) Cc D, rt := rt, bk := b1, ct := b2 } σ H := h
theorem nx_cb2_lc {r r2 : List V → Hp → VK → Prop} {wi : TI} {g gg : TG} {tt : TT} {te : TE} {vs : List Nat} {D : Ends} {σ : L2.St} {H : Hp} {Cc : TS} {b1 b2 : L2.St → Hp → Prop} {rt : VK}
    (h : wi σ H fun J H1 => tLc (fun _ H R => R J H) g tt te vs σ H1 fun y H2 => r2 [y] H2 fun z H3 => r [z] H3 fun u H4 => gg u σ H4 (Cc D)) : tNext { nx := tSeq (tAsg (tCB r (tCons (tCB r2 (tCons (tLc wi g tt te vs) tNil)) tNil)) gg) Cc D, rt := rt, bk := b1, ct := b2 } σ H := h
theorem slw_lett (w : List Int) (ws : List (List Int)) : slw (w :: ws) = w.map itm ++ (ws.map fun u => slashS :: u.map itm).flatten := rfl
theorem slw_cut {w : List Int} {ws : List (List Int)} {c : Nat} (h : c ≤ w.length) : (slw (w :: ws)).take c ++ [slashS] ++ (slw (w :: ws)).drop c = slw (w.take c :: w.drop c :: ws) := by
  rw [slw_lett, slw_lett, List.take_append_of_le_length (by rw [List.length_map]; exact h), List.drop_append_of_le_length (by rw [List.length_map]; exact h), ← List.map_take, ← List.map_drop]
  simp
section
variable {P : Program} {w : World} {K : PySem.W.Frag} {mg : Str → Option Value} {base : Heap}
abbrev nRight : List Str := ["_law_hand_here", "_law_kind", "_law_told_here", "_law_some", "_law_left", "_law_turn", "_law_cuts", "_law_cut", "_law_letter_here"]
structure TxF (mg : Str → Option Value) : Prop where
  range : mg "range" = none
  len : mg "len" = none
  sorted : mg "sorted" = none
  set : mg "set" = none
theorem scRight : FnScope nRight ["_law_hand_here", "_law_kind"] (defScope sRight) := ⟨rfl, rfl, rfl, by decide +kernel, rfl, by decide +kernel, by decide +kernel⟩
theorem ok_right {f : Addr} {fd : FuncData} (F : Fun K "_law_right" "_law_right" sRight f fd) (N : TxF mg) (GD : Cal P w K mg base "_law_take" 1 ["_law_hand_here", "_law_many"] spTake) (GP : Cal P w K mg base "_law_pick" 2 ["_law_hand_here", "_law_some"] spPick) (GS : Cal P w K mg base "_law_letters" 3 ["_law_hand_here", "_law_many"] spLets) (GT : Cal P w K mg base "_law_text_of" 1 ["_law_letter_here"] spTxt) : FnOk P w K mg base CX0 4 f fd ["_law_hand_here", "_law_kind"] spRight := by
  refine F.ok scRight (fun vs H Q E h => ?_) (fun cdv A outer s H vs Q E hr h => ?_)
  · obtain ⟨b, a, c, n, rfl, _⟩ := h
    rfl
  · obtain ⟨b, a, c, n, rfl, hH, hn, kq⟩ := h
    refine ⟨_, pss_cons (ps_if (pt_cmpR op_eq (pv 1) pe_str (nomark _))
        (pss_cons (ps_set (i := 2) scRight.nd rfl (Or.inr rfl) (pe_cal GS hr (by decide) (by rfl) (pa_cons (pv 0) (pa_cons (pe_cal GP hr (by decide) (by rfl) (pa_cons (pv 0) (pa_cons (pe_lst (pa_cons pe_int (pa_cons pe_int (pa_cons pe_int (pa_cons pe_int (pa_cons pe_int (pa_cons pe_int (pa_cons pe_int (pa_cons pe_int pa_nil))))))))) pa_nil))) pa_nil))))
        (pss_one (ps_ret (pe_ifExp (pt_cmpR (op_neD hr.units) (pv 2) (pe_lst pa_nil) (nomark _)) (pe_lc (own := [("_law_letter_here", 8)]) (g := gName 8) (tt := tYes) rfl scRight.nd (pi_list (pv 2)) (blkOk_by (N := nRight) (sc := defScope sRight) (by decide +kernel)) (fun _ _ _ _ _ => pg_name (i := 8) scRight.nd rfl (Or.inl rfl)) (fun _ _ _ _ _ => pts_nil)
          (fun _ _ _ _ _ => pe_cal GT hr (by decide) (by rfl) (pa_cons (pv 8) pa_nil))) (pe_lst (pa_cons pe_str pa_nil)))))) pss_nil)
      (pss_cons (ps_asg (pe_tup (pa_cons (pe_cal GS hr (by decide) (by rfl) (pa_cons (pv 0) (pa_cons (pe_cal GP hr (by decide) (by rfl) (pa_cons (pv 0) (pa_cons (pe_lst (pa_cons pe_int (pa_cons pe_int (pa_cons pe_int (pa_cons pe_int (pa_cons pe_int (pa_cons pe_int (pa_cons pe_int pa_nil)))))))) pa_nil))) pa_nil))) (pa_cons (pe_lst pa_nil) pa_nil))) (pg_tup (n := 2) rfl (pgs_cons (pg_name (i := 3) scRight.nd rfl (Or.inl rfl)) (pgs_cons (pg_name (i := 2) scRight.nd rfl (Or.inr rfl)) pgs_nil))))
      (pss_cons (ps_set (i := 4) scRight.nd rfl (Or.inl rfl) (pe_op op_cat (pv 3) (pe_lc (own := [("_law_letter_here", 8)]) (g := gName 8) (tt := tYes) rfl scRight.nd (pi_list (pv 3)) (blkOk_by (N := nRight) (sc := defScope sRight) (by decide +kernel)) (fun _ _ _ _ _ => pg_name (i := 8) scRight.nd rfl (Or.inl rfl)) (fun _ _ _ _ _ => pts_nil)
          (fun _ _ _ _ _ => pe_un un_neg (pv 8)))))
      (pss_cons (ps_for PassesOwn.never rfl (pi_range1 (by rfl) N.range (pa_cons (pe_callB call_len_seq (by rfl) N.len PySem.boot_len (pa_cons (pv 4) pa_nil)) pa_nil)) (pg_name (i := 5) scRight.nd rfl (Or.inl rfl))
        (pss_one (ps_expr (pe_bm PySem.F.plainAttrs_list PySem.F.slot_list_append PySem.F.type_list_append mt_append (pv 2) (pa_cons (pe_cal GT hr (by decide) (by rfl) (pa_cons (pe_bm PySem.F.plainAttrs_list PySem.F.slot_list_pop PySem.F.type_list_pop mt_popAt (pv 4) (pa_cons (pe_cal GD hr (by decide) (by rfl) (pa_cons (pv 0) (pa_cons (pe_callB call_len_seq (by rfl) N.len PySem.boot_len (pa_cons (pv 4) pa_nil)) pa_nil))) pa_nil)) pa_nil)) pa_nil)))))
      (pss_cons (ps_set (i := 6) scRight.nd rfl (Or.inl rfl) (pe_callB (cr_sortedSet rfl) (by rfl) N.sorted (by decide +kernel) (pa_cons (pe_callTy (WS.call_setLI rfl) (by rfl) N.set (by decide +kernel) (pa_cons (pe_lc (own := [("_law_turn", 5)]) (g := gName 5) (tt := tYes) rfl scRight.nd (pi_range1 (by rfl) N.range (pa_cons (pe_cal GD hr (by decide) (by rfl) (pa_cons (pv 0) (pa_cons pe_int pa_nil))) pa_nil)) (blkOk_by (N := nRight) (sc := defScope sRight) (by decide +kernel)) (fun _ _ _ _ _ => pg_name (i := 5) scRight.nd rfl (Or.inl rfl)) (fun _ _ _ _ _ => pts_nil)
          (fun _ _ _ _ _ => pe_op op_add pe_int (pe_cal GD hr (by decide) (by rfl) (pa_cons (pv 0) (pa_cons (pe_op op_sub (pe_callB (call_lenK (K := K) rfl) (by rfl) N.len PySem.boot_len (pa_cons (pv 2) pa_nil)) pe_int) pa_nil))))) pa_nil)) pa_nil)))
      (pss_cons (ps_for PassesOwn.never rfl (pi_list (pe_revL (pv 6))) (pg_name (i := 7) scRight.nd rfl (Or.inl rfl))
        (pss_one (ps_set (i := 2) scRight.nd rfl (Or.inr rfl) (pe_op op_cat (pe_op op_cat (pe_slice sl_list (pv 2) po_none (po_some (pv 7))) (pe_lst (pa_cons pe_str pa_nil))) (pe_slice sl_list (pv 2) (po_some (pv 7)) po_none)))))
      (pss_one (ps_ret (pv 2)))))))), ?_⟩
    refine ⟨_, rfl, rfl, _, rfl, ?_⟩
    rw [kS_eq]
    cases b with
    | true =>
      refine iteT ?_
      refine ⟨_, rfl, _, rfl, by show 8 ≤ sizeLine; decide, fun L hL => ?_⟩
      have s1 := same_upd (o := .lst [.int 0, .int 1, .int 2, .int 3, .int 5, .int 9, .int 30, .int 500]) hL
      have hLL : (L2.upd H L (.lst [V.int 0, .int 1, .int 2, .int 3, .int 5, .int 9, .int 30, .int 500])) L = some (.lst [.int 0, .int 1, .int 2, .int 3, .int 5, .int 9, .int 30, .int 500]) := upd_same
      have d1 := (Drew.refl hH).same s1
      have nLa := hH.ne hL
      generalize L2.upd H L (.lst [V.int 0, .int 1, .int 2, .int 3, .int 5, .int 9, .int 30, .int 500]) = H1 at s1 hLL d1 ⊢
      refine ⟨a, c, L, _, n, rfl, d1.1, by omega, nLa, hLL, by decide, by decide, fun v hv H2 d2 => ?_⟩
      obtain ⟨m, rfl, hm⟩ : ∃ m : Nat, v = .int (m : Int) ∧ m ≤ 500 := by
        simp only [List.mem_cons, List.not_mem_nil, or_false] at hv
        rcases hv with rfl | rfl | rfl | rfl | rfl | rfl | rfl | rfl
        · exact ⟨0, rfl, by decide⟩
        · exact ⟨1, rfl, by decide⟩
        · exact ⟨2, rfl, by decide⟩
        · exact ⟨3, rfl, by decide⟩
        · exact ⟨5, rfl, by decide⟩
        · exact ⟨9, rfl, by decide⟩
        · exact ⟨30, rfl, by decide⟩
        · exact ⟨500, rfl, by decide⟩
      refine ⟨a, c, m, n + 1, rfl, d2.1, hm, by omega, fun l H3 ls hl0 d3 h3 hlen hls => ?_⟩
      have d03 : Drew a c (n + 1 + 1 + 2 * m) H H3 := ⟨d3.1, d1.2.trans (d2.2.trans d3.2)⟩
      refine at_set ?_
      try dsimp only
      refine ⟨_, rfl, Nat.zero_le _, fun q hq => ?_⟩
      have s4 := same_upd (o := .lst []) hq
      have h4 := s4 _ _ h3
      have d04 := d03.same s4
      refine ⟨.list (ls.map PyData.int), .list [], .lst (SqL.of h4) (dpInts _), .lst (SqL.of upd_same) .nil, PySem.W.ke_shaped_ints _, rfl, _, rfl, ?_⟩
      generalize L2.upd H3 q (.lst []) = H4 at h4 d04 ⊢
      by_cases he : ls = []
      · subst he
        refine iteF' (by decide) ?_
        refine ⟨by show 1 ≤ sizeLine; decide, fun M hM => kq M _ [dashS] (d04.back hM) ((d04.new hM).mono (by omega)) ?_ (by simp) ?_ (by decide) rfl⟩
        · rw [upd_same, dash_eq]
          rfl
        · intro z hz
          rw [List.mem_singleton.mp hz]
          exact dash_pc
      · refine iteT' (by
          cases ls with
          | nil => exact absurd rfl he
          | cons => rfl) ?_
        refine lc_in ?_
        refine ⟨_, rfl, l, rfl, ⟨_, SqL.of h4⟩, ?_⟩
        refine lcM (walk_list (K := K) (a := l) (xs := iv ls)) ls (fun _ _ v b => v = V.str (itm b)) (fun _ _ _ _ _ h _ => h) (fun _ _ _ _ _ _ _ h => h) (by rw [List.length_map]; omega) (by rw [List.length_map]) (fun H s => SqL.of (s _ _ h4)) ?_ (fun x σ1 H A B k h => gName_mono k h) ?_
        · intro j x k hx hk D2 H8 hD2 _ s8 Qy ky
          rw [List.getElem?_map, hk] at hx
          obtain rfl := Option.some.inj hx
          obtain ⟨c1, c2⟩ := hls k (List.mem_of_getElem? hk)
          exact ⟨rfl, _, rfl, k, rfl, c1, c2, ky _ _ (Same.refl _) rfl⟩
        intro D8 H8 vs8 hD8 s8 h8 r8
        have e8 := all_itm r8
        subst e8
        refine kq D8 H8 (ls.map itm) (d04.back hD8) ((d04.same s8).mono (by omega)) h8 (by simpa using he) (fun z hz => ?_) (by rw [List.length_map]; omega) (word_right he hls (by omega))
        obtain ⟨i, hi, rfl⟩ := List.mem_map.mp hz
        exact itm_pc (hls i hi).2
    | false =>
      refine iteF ?_
      refine ⟨_, rfl, _, rfl, by show 7 ≤ sizeLine; decide, fun L hL => ?_⟩
      have s1 := same_upd (o := .lst [.int 1, .int 2, .int 2, .int 3, .int 4, .int 6, .int 12]) hL
      have hLL : (L2.upd H L (.lst [V.int 1, .int 2, .int 2, .int 3, .int 4, .int 6, .int 12])) L = some (.lst [.int 1, .int 2, .int 2, .int 3, .int 4, .int 6, .int 12]) := upd_same
      have d1 := (Drew.refl hH).same s1
      have nLa := hH.ne hL
      generalize L2.upd H L (.lst [V.int 1, .int 2, .int 2, .int 3, .int 4, .int 6, .int 12]) = H1 at s1 hLL d1 ⊢
      refine ⟨a, c, L, _, n, rfl, d1.1, by omega, nLa, hLL, by decide, by decide, fun v hv H2 d2 => ?_⟩
      obtain ⟨m, rfl, hm1, hm⟩ : ∃ m : Nat, v = .int (m : Int) ∧ 1 ≤ m ∧ m ≤ 12 := by
        simp only [List.mem_cons, List.not_mem_nil, or_false] at hv
        rcases hv with rfl | rfl | rfl | rfl | rfl | rfl | rfl
        · exact ⟨1, rfl, by decide, by decide⟩
        · exact ⟨2, rfl, by decide, by decide⟩
        · exact ⟨2, rfl, by decide, by decide⟩
        · exact ⟨3, rfl, by decide, by decide⟩
        · exact ⟨4, rfl, by decide, by decide⟩
        · exact ⟨6, rfl, by decide, by decide⟩
        · exact ⟨12, rfl, by decide, by decide⟩
      refine ⟨a, c, m, n + 1, rfl, d2.1, by omega, by omega, fun l H3 ls hl0 d3 h3 hlen hls => ?_⟩
      have d03 : Drew a c (n + 1 + 1 + 2 * m) H H3 := ⟨d3.1, d1.2.trans (d2.2.trans d3.2)⟩
      have lH : H l = none := d1.back (d2.back hl0)
      refine ⟨Nat.zero_le _, fun T hT => ⟨by show 2 ≤ sizeLine; decide, fun t ht => ⟨t, _, rfl, SqT.of upd_same, rfl, _, _, rfl, _, _, rfl, rfl, ?_⟩⟩⟩
      have s4 := same_upd (o := .lst []) hT
      have TH : H T = none := d03.back hT
      have hTT : (L2.upd H3 T (.lst [])) T = some (.lst ((([] : List Int).map itm).map V.str)) := upd_same
      have s5 := s4.trans (same_upd (o := .tup [.ref l, .ref T]) ht)
      have hTT := same_upd (o := .tup [.ref l, .ref T]) ht _ _ hTT
      have hl5 := s5 _ _ h3
      have d05 := d03.same s5
      show tNext _ _ (L2.upd (L2.upd H3 T (.lst [])) t (.tup [.ref l, .ref T]))
      generalize L2.upd (L2.upd H3 T (.lst [])) t (.tup [.ref l, .ref T]) = H5 at hTT hl5 d05 ⊢
      -- left
      refine nx_op_lc3 ?_
      refine ⟨_, rfl, _, rfl, l, rfl, ⟨_, SqL.of hl5⟩, ?_⟩
      refine lcp (walk_list (K := K) (a := l) (xs := iv ls)) (fun _ => true) (fun x => match x with | .int i => .int (-i) | _ => .non) (by rw [List.length_map]; omega) (fun H s => SqL.of (s _ _ hl5)) ?_ ?_
      · intro x hx H2 s2 Qy Qn ky kn
        obtain ⟨i, _, rfl⟩ := List.mem_map.mp hx
        refine ⟨rfl, yes_te ?_⟩
        exact ⟨_, rfl, i, rfl, ky rfl H2 (fun _ _ e => e)⟩
      intro D6 H6 hD6 s6 h6
      have e6 : (((iv ls).filter fun _ => true).map fun x => match x with | .int i => V.int (-i) | _ => .non) = iv (ls.map fun x => -x) := by
        rw [List.filter_eq_self.mpr (fun _ _ => rfl)]
        unfold iv
        rw [List.map_map, List.map_map]
        rfl
      rw [e6] at h6
      refine ⟨l, D6, _, _, rfl, rfl, s6 _ _ hl5, h6, Evl.sz_of (by rw [List.length_map, List.length_map, List.length_map]; omega), fun lf hlf => ?_⟩
      have s7 := s6.trans (same_upd (o := .lst (iv ls ++ iv (ls.map fun x => -x))) hlf)
      have h7 : (L2.upd H6 lf (.lst (iv ls ++ iv (ls.map fun x => -x)))) lf = some (.lst (iv (ls ++ ls.map fun x => -x))) := by
        rw [upd_same]
        simp [iv]
      have lfH5 : H5 lf = none := s6.free hlf
      have lfH : H lf = none := d05.back lfH5
      have d07 := d05.same s7
      have hT7 := s7 _ _ hTT
      have lfT : lf ≠ T := fun e => by
        rw [e, hTT] at lfH5
        cases lfH5
      refine at_set ?_
      try dsimp only
      generalize L2.upd H6 lf (.lst (iv ls ++ iv (ls.map fun x => -x))) = H7 at h7 d07 hT7 ⊢
      have l0 : (ls ++ ls.map fun x => -x).length = 2 * m := by rw [List.length_append, List.length_map]; omega
      have hl0 : Lts (ls ++ ls.map fun x => -x) := by
        intro x hx
        rcases List.mem_append.mp hx with hx | hx
        · exact hls x hx
        · obtain ⟨y, hy, rfl⟩ := List.mem_map.mp hx
          have := hls y hy
          omega
      have hbal : ∀ ns : List Int, ns.Perm (ls ++ ls.map fun x => -x) → Fr.bal ns = [] := fun ns hp => bal_perm hp
      generalize (ls ++ ls.map fun x => -x) = left0 at h7 l0 hl0 hbal
      have hTa := hH.ne TH
      have hTc := hH.neC TH
      have hfa := hH.ne lfH
      have hfc := hH.neC lfH
      have eln : (iv left0).length = 2 * m := by rw [List.length_map]; exact l0
      refine ⟨_, rfl, lf, _, rfl, .inl (SqL.of h7), _, rfl, by omega, by omega, ?_⟩
      refine for_range (lo := 0) (n := (((iv left0).length : Nat) : Int).toNat) (fun i σ H' => ∃ (v5 : Option V) (us ts : List Int), σ = [some (.ref a), some (.str (kS false)), some (.ref T), some (.ref l), some (.ref lf), v5, none, none, none] ∧ Drew a c (n + 30 + i) H H' ∧ H' lf = some (.lst (iv us)) ∧ H' T = some (.lst ((ts.map itm).map V.str)) ∧ us.length + i = 2 * m ∧ (ts ++ us).Perm left0)
        ⟨none, left0, [], rfl, d07.mono (by omega), h7, hT7, by omega, by rw [List.nil_append]⟩ ?_ ?_
      · rintro i σ H8 hi ⟨v5, us, ts, rfl, d8, hf8, hT8, hlen8, hp8⟩
        have hi2 : i < 2 * m := by omega
        have hts : ts.length = i := by
          have := hp8.length_eq
          rw [List.length_append] at this
          omega
        refine ⟨_, rfl, .inl ⟨rfl, _, SqL.of hT8⟩, _, rfl, .inl ⟨rfl, _, SqL.of hf8⟩, _, rfl, _, rfl, lf, _, rfl, .inl (SqL.of hf8), a, c, ((us.length : Nat) : Int), n + 30 + i, congrArg (fun z => [V.ref a, V.int z]) (by show (((iv us).length : Nat) : Int) = _; rw [List.length_map]), d8.1, by omega, by omega, small2 (by omega), fun H9 j j0 j1 hH9 hK9 => ?_⟩
        have hf9 := hK9 _ _ hfa hf8
        have hT9 := hK9 _ _ hTa hT8
        have d9 : Drew a c (n + 30 + (i + 1)) H H9 := ⟨hH9, d8.2.trans hK9⟩
        obtain ⟨j, rfl⟩ : ∃ j' : Nat, j = (j' : Int) := ⟨j.toNat, by omega⟩
        have hjl : j < us.length := by omega
        refine ⟨lf, iv us, (j : Int), j, V.int us[j], rfl, rfl, hf9, by omega, by omega, seq_at (by rw [List.length_map]; exact hjl), iv_get (List.getElem?_eq_getElem hjl), ?_⟩
        have hu : us[j] ∈ left0 := hp8.mem_iff.mp (List.mem_append_right _ (List.getElem_mem hjl))
        obtain ⟨u1, u2⟩ := hl0 _ hu
        refine ⟨us[j], rfl, u1, u2, ?_⟩
        have hT10 : L2.upd H9 lf (.lst ((iv us).eraseIdx j)) T = some (.lst ((ts.map itm).map V.str)) := by rw [upd_ne lfT.symm]; exact hT9
        refine ⟨T, _, _, rfl, rfl, hT10, Evl.sz_lt (by rw [List.length_map, List.length_map]; omega), ?_⟩
        refine ⟨_, us.eraseIdx j, ts ++ [us[j]], rfl, (d9.put lfH hfa hfc).put TH hTa hTc, ?_, ?_, ?_, ?_⟩
        · rw [upd_ne lfT, upd_same, erase_iv]
        · rw [upd_same]
          simp
        · rw [List.length_eraseIdx_of_lt hjl]
          omega
        · refine List.Perm.trans ?_ hp8
          rw [List.append_assoc]
          exact List.Perm.append_left ts (erase_perm us j hjl)
      · rintro σ H8 ⟨v5, us, ts, rfl, d8, hf8, hT8, hlen8, hp8⟩
        have hu0 : us = [] := List.length_eq_zero_iff.mp (by omega)
        subst hu0
        rw [List.append_nil] at hp8
        have htl : ts.length = 2 * m := by rw [hp8.length_eq, l0]
        have hbt := hbal ts hp8
        have hlt : Lts ts := fun x hx => hl0 x (hp8.mem_iff.mp hx)
        -- cuts
        have d60 : Drew a c (n + 60) H H8 := d8.mono (by omega)
        refine nx_cb2_lc ?_
        refine ⟨_, rfl, a, c, 4, n + 60, rfl, d60.1, by omega, by decide, by decide, fun H9 q q0 q1 hH9 hK9 => ⟨q, rfl, by omega, by omega, ?_⟩⟩
        have d61 : Drew a c (n + 61) H H9 := ⟨hH9, d60.2.trans hK9⟩
        have hT9 := hK9 _ _ hTa hT8
        intro D hD
        have hD0 : H D = none := d61.back hD
        have hDa := hH.ne hD0
        have hDc := hH.neC hD0
        have nTD : T ≠ D := ne_of_none hT9 hD
        refine lc_range (lo := 0) (n := q.toNat) (fun i H' => ∃ cs : List Int, cs.length = i ∧ (∀ k ∈ cs, 1 ≤ k ∧ k ≤ 2 * (m : Int) - 1) ∧ H' D = some (.lst (iv cs)) ∧ H' T = some (.lst ((ts.map itm).map V.str)) ∧ Drew a c (n + 61 + i) H H') ⟨[], rfl, (fun _ h => nomatch h), upd_same, by rw [upd_ne nTD]; exact hT9, d61.new hD⟩ ?_ ?_
        · rintro i H2 hi ⟨cs, hcl, hck, hD2, hT2, d2⟩
          refine ⟨rfl, yes_te ?_⟩
          refine ⟨_, rfl, _, rfl, T, _, rfl, .inl (SqL.of hT2), _, _, rfl, rfl, a, c, ((2 * m - 1 : Nat) : Int), n + 61 + i, congrArg (fun z => [V.ref a, V.int z]) (by
            show ((((ts.map itm).map V.str).length : Nat) : Int) - 1 = _
            rw [List.length_map, List.length_map]
            omega), d2.1, by omega, by omega, small2 (by omega), fun H3 z z0 z1 hH3 hK3 => ⟨_, _, rfl, rfl, ?_⟩⟩
          have hD3 := hK3 _ _ hDa hD2
          have hT3 := hK3 _ _ hTa hT2
          have d3 : Drew a c (n + 61 + (i + 1)) H H3 := ⟨hH3, d2.2.trans hK3⟩
          refine ⟨_, hD3, Evl.sz_lt (by simp; omega), cs ++ [1 + z], by simp [hcl], fun x hx => ?_, by rw [upd_same]; simp [iv], by rw [upd_ne nTD]; exact hT3, d3.put hD0 hDa hDc⟩
          rcases List.mem_append.mp hx with h | h
          · exact hck x h
          · rw [List.mem_singleton.mp h]
            omega
        rintro H10 ⟨cs, hcl, hck, hD10, hT10, d10⟩
        refine ⟨D, cs, rfl, SqL.of hD10, by omega, fun S L hS nd mem => ?_⟩
        have hLc := nodup_len L cs nd fun k hk => (mem k).mp hk
        refine ⟨S, _, L.length, rfl, upd_same, by omega, fun cuts p2 hsort hmem hcl2 hp2 => ?_⟩
        have s11 := (same_upd (o := SetO w S (fun j => decide (j ∈ cs)) L.length) hS).trans (same_upd (o := .lst (cuts.map V.int)) hp2)
        have h11 : (L2.upd (L2.upd H10 S (SetO w S (fun j => decide (j ∈ cs)) L.length)) p2 (.lst (cuts.map V.int))) p2 = some (.lst (iv cuts)) := upd_same
        have hT11 := s11 _ _ hT10
        have d11 := d10.same s11
        have hcut : ∀ k ∈ cuts, 1 ≤ k ∧ k ≤ 2 * (m : Int) - 1 := fun k hk => hck k (of_decide_eq_true ((hmem k).mp hk))
        refine at_set ?_
        try dsimp only
        refine ⟨_, rfl, p2, _, rfl, SqL.of h11, fun p3 hp3 => ?_⟩
        have s12 := same_upd (o := .lst (iv cuts).reverse) hp3
        have hT12 := s12 _ _ hT11
        have d12 := d11.same s12
        have h12 : (L2.upd (L2.upd (L2.upd H10 S (SetO w S (fun j => decide (j ∈ cs)) L.length)) p2 (.lst (cuts.map V.int))) p3 (.lst (iv cuts).reverse)) p3 = some (.lst (iv cuts.reverse)) := by
          rw [upd_same]
          simp [iv]
        obtain ⟨H12, e12⟩ : ∃ H12, H12 = (L2.upd (L2.upd (L2.upd H10 S (SetO w S (fun j => decide (j ∈ cs)) L.length)) p2 (.lst (cuts.map V.int))) p3 (.lst (iv cuts).reverse)) := ⟨_, rfl⟩
        have h12' : H12 p3 = some (.lst (iv cuts.reverse)) := by rw [e12]; exact h12
        have hT12' : H12 T = some (.lst ((ts.map itm).map V.str)) := by rw [e12]; exact hT12
        have d12' : Drew a c (n + 61 + q.toNat) H H12 := by rw [e12]; exact d12
        have hdesc : cuts.reverse.Pairwise (fun x y => y < x) := List.pairwise_reverse.mpr hsort
        have hcut2 : ∀ k ∈ cuts.reverse, 1 ≤ k ∧ k ≤ 2 * (m : Int) - 1 := fun k hk => hcut k (List.mem_reverse.mp hk)
        have hrl : cuts.reverse.length ≤ 3 := by rw [List.length_reverse]; omega
        refine ⟨p3, rfl, ⟨_, SqL.of h12⟩, ?_⟩
        refine for_list (K := K) (a := p3) (xs := iv cuts.reverse) (fun i σ H' => ∃ (v5 v7 : Option V) (Tn : Addr) (u : List Int) (ws : List (List Int)), σ = [some (.ref a), some (.str (kS false)), some (.ref Tn), some (.ref l), some (.ref lf), v5, some (.ref p2), v7, none] ∧ Same H12 H' ∧ H Tn = none ∧ H' Tn = some (.lst ((slw (u :: ws)).map V.str)) ∧ (u :: ws).flatten = ts ∧ (∀ y ∈ u :: ws, y ≠ []) ∧ ws.length = i ∧ ∀ k ∈ cuts.reverse.drop i, k < u.length)
          ⟨v5, none, T, ts, [], rfl, by rw [e12]; exact Same.refl _, TH, ?_, by simp, ?_, rfl, ?_⟩ (fun i σ H' _ ⟨_, _, _, _, _, _, s, _⟩ => SqL.of (s _ _ h12')) ?_ ?_
        · have e : slw [ts] = ts.map itm := by simp [slw]
          rw [e]
          exact hT12
        · intro y hy
          rw [List.mem_singleton.mp hy]
          intro e
          rw [e] at htl
          have : (0 : Nat) = 2 * m := htl
          omega
        · intro k hk
          have := hcut2 k hk
          omega
        · rintro i y σ H13 hi ⟨v5, v7, Tn, u, ws, rfl, sm, hTn0, hTn, hfl, hne, hwl, hrem⟩
          obtain ⟨k, hk, rfl⟩ : ∃ k, cuts.reverse[i]? = some k ∧ y = V.int k := by
            rw [List.getElem?_map] at hi
            cases e : cuts.reverse[i]? with
            | none => rw [e] at hi; cases hi
            | some k => rw [e] at hi; exact ⟨k, rfl, (Option.some.inj hi).symm⟩
          obtain ⟨hil, hki⟩ := List.getElem?_eq_some_iff.mp hk
          have hkm := List.mem_of_getElem? hk
          have hk1 := (hcut2 k hkm).1
          have hku := hrem k (by rw [List.drop_eq_getElem_cons hil, hki]; exact List.mem_cons_self)
          obtain ⟨j, rfl⟩ : ∃ j : Nat, k = (j : Int) := ⟨k.toNat, by omega⟩
          have hju : j ≤ u.length := by omega
          have htl2 : (u :: ws).flatten.length = 2 * m := by rw [hfl]; exact htl
          have hsl := slw_len (u :: ws)
          rw [htl2, List.length_cons] at hsl
          have hjl : j ≤ ((slw (u :: ws)).map V.str).length := by
            rw [List.length_map, slw_lett, List.length_append, List.length_map]
            omega
          refine ⟨_, rfl, _, rfl, _, rfl, Tn, _, rfl, SqL.of hTn, fun q1 hq1 => ?_⟩
          rw [cutV_to hjl, ← List.map_take]
          have s1' := same_upd (o := .lst (((slw (u :: ws)).take j).map V.str)) hq1
          have hTn1 := s1' _ _ hTn
          have hq1' : (L2.upd H13 q1 (.lst (((slw (u :: ws)).take j).map V.str))) q1 = some (.lst (((slw (u :: ws)).take j).map V.str)) := upd_same
          show tLst _ _ (L2.upd H13 q1 (.lst (((slw (u :: ws)).take j).map V.str))) _
          generalize L2.upd H13 q1 (.lst (((slw (u :: ws)).take j).map V.str)) = H14 at s1' hTn1 hq1' ⊢
          refine ⟨by show 1 ≤ sizeLine; decide, fun q2 hq2 => ?_⟩
          have s2' := same_upd (o := .lst [V.str slashS]) hq2
          refine ⟨q1, q2, _, _, rfl, rfl, s2' _ _ hq1', upd_same, Evl.sz_of (by rw [List.length_map, List.length_take]; show _ + 1 ≤ _; omega), fun q3 hq3 => ?_⟩
          have s3' := s2'.trans (same_upd (o := .lst (((slw (u :: ws)).take j).map V.str ++ [V.str slashS])) hq3)
          have hTn3 := s3' _ _ hTn1
          have hq3' : (L2.upd (L2.upd H14 q2 (.lst [V.str slashS])) q3 (.lst (((slw (u :: ws)).take j).map V.str ++ [V.str slashS]))) q3 = some (.lst (((slw (u :: ws)).take j ++ [slashS]).map V.str)) := by
            rw [upd_same]
            simp
          obtain ⟨H15, e15⟩ : ∃ H15, H15 = (L2.upd (L2.upd H14 q2 (.lst [V.str slashS])) q3 (.lst (((slw (u :: ws)).take j).map V.str ++ [V.str slashS]))) := ⟨_, rfl⟩
          have hTn3' : H15 Tn = some (.lst ((slw (u :: ws)).map V.str)) := by rw [e15]; exact hTn3
          have hq3'' : H15 q3 = some (.lst (((slw (u :: ws)).take j ++ [slashS]).map V.str)) := by rw [e15]; exact hq3'
          have s3'' : Same H14 H15 := by rw [e15]; exact s3'
          refine ⟨_, rfl, _, rfl, _, rfl, Tn, _, rfl, SqL.of hTn3, fun q4 hq4 => ?_⟩
          rw [cutV_from hjl, ← List.map_drop]
          have hq4' : H15 q4 = none := by rw [e15]; exact hq4
          have s4' := same_upd (o := .lst (((slw (u :: ws)).drop j).map V.str)) hq4'
          refine ⟨q3, q4, ((slw (u :: ws)).take j ++ [slashS]).map V.str, ((slw (u :: ws)).drop j).map V.str, rfl, rfl, ?_, upd_same, Evl.sz_of (by rw [List.length_map, List.length_map, List.length_append, List.length_take, List.length_drop]; show _ + 1 + _ ≤ _; omega), fun q5 hq5 => ?_⟩
          · have := s4' _ _ hq3''
            rw [e15] at this
            exact this
          have hall : Same H13 (L2.upd (L2.upd H15 q4 (.lst (((slw (u :: ws)).drop j).map V.str))) q5 (.lst (((slw (u :: ws)).take j ++ [slashS]).map V.str ++ ((slw (u :: ws)).drop j).map V.str))) := by
            refine ((s1'.trans s3'').trans s4').trans (same_upd ?_)
            rw [e15]
            exact hq5
          rw [e15] at hall
          have hq5H : H q5 = none := by
            have h1 : (L2.upd H15 q4 (.lst (((slw (u :: ws)).drop j).map V.str))) q5 = none := by rw [e15]; exact hq5
            exact d12'.back (sm.free (s1'.free (s3''.free (s4'.free h1))))
          refine ⟨v5, some (.int (j : Int)), q5, u.take j, u.drop j :: ws, rfl, sm.trans hall, hq5H, ?_, ?_, ?_, by rw [List.length_cons, hwl], ?_⟩
          · rw [upd_same, ← List.map_append, slw_cut hju]
          · rw [← hfl]
            simp only [List.flatten_cons]
            rw [← List.append_assoc, List.take_append_drop]
          · intro x hx
            rcases List.mem_cons.mp hx with rfl | hx
            · intro e
              have := congrArg List.length e
              rw [List.length_take] at this
              have z0 : ([] : List Int).length = 0 := rfl
              omega
            · rcases List.mem_cons.mp hx with rfl | hx
              · intro e
                have := congrArg List.length e
                rw [List.length_drop] at this
                have z0 : ([] : List Int).length = 0 := rfl
                omega
              · exact hne x (List.mem_cons_of_mem _ hx)
          · intro x hx
            rw [List.length_take]
            have hd2 : (cuts.reverse.drop i).Pairwise (fun x y => y < x) := hdesc.sublist (List.drop_sublist _ _)
            rw [List.drop_eq_getElem_cons hil, hki] at hd2
            have := (List.pairwise_cons.mp hd2).1 x hx
            omega
        · rintro σ H13 ⟨v5, v7, Tn, u, ws, rfl, sm, hTn0, hTn, hfl, hne, hwl, hrem⟩
          have hwl3 : ws.length ≤ 3 := by rw [hwl, List.length_map]; exact hrl
          have htl2 : (u :: ws).flatten.length = 2 * m := by rw [hfl]; exact htl
          have hsl := slw_len (u :: ws)
          rw [htl2, List.length_cons] at hsl
          have hu0 := hne u List.mem_cons_self
          refine ⟨_, rfl, kq Tn H13 (slw (u :: ws)) hTn0 ((d12'.same sm).mono (by omega)) hTn ?_ (slw_pc (by rw [hfl]; exact hlt)) (by omega) (slw_right (by rw [hfl]; exact hlt) hne hwl3 (by omega) (by rw [hfl]; exact hbt))⟩
          intro e
          rw [slw_lett] at e
          have := congrArg List.length e
          rw [List.length_append, List.length_map] at this
          have z0 : ([] : List Str).length = 0 := rfl
          exact hu0 (List.length_eq_zero_iff.mp (by omega))
end
end W03
set_option Elab.async false
set_option linter.all false
set_option maxRecDepth 100000
set_option maxHeartbeats 600000
namespace W03
open PySem L2 PySem.Spec PyProof.Rows WR WB
abbrev sBent : Stmt := top 53
/-- an expression that makes a list of these texts -/
def MkE (te : TE) (σ : L2.St) (H : Hp) (zs : List Str) : Prop := ∀ H1, Same H H1 → ∀ Q : VK, (∀ p H2, Same H1 H2 → H2 p = some (.lst (zs.map V.str)) → Q (.ref p) H2) → te σ H1 Q
theorem MkE.on {te : TE} {σ : L2.St} {H : Hp} {zs : List Str} {Q : VK} (h : MkE te σ H zs) (k : ∀ p H2, Same H H2 → H2 p = some (.lst (zs.map V.str)) → Q (.ref p) H2) : te σ H Q := h H (Same.refl _) Q k
theorem mke_cat {ta tb : TE} {σ : L2.St} {H : Hp} {zs ys : List Str} (h1 : MkE ta σ H zs) (h2 : MkE tb σ H ys) (hl : zs.length + ys.length ≤ 5000) : MkE (tOp rCat ta tb) σ H (zs ++ ys) := fun H1 s1 Q k =>
  h1 H1 s1 _ fun p H2 s2 hp => h2 H2 (s1.trans s2) _ fun q H3 s3 hq => ⟨p, q, _, _, rfl, rfl, s3 _ _ hp, hq, Evl.sz_of (by rw [List.length_map, List.length_map]; omega), fun r hr => k r _ ((s2.trans s3).trans (same_upd hr)) (by rw [upd_same, List.map_append])⟩
theorem mke_one {te : TE} {σ : L2.St} {H : Hp} {z : Str} (hv : ∀ H1 (Q : VK), Q (.str z) H1 → te σ H1 Q) : MkE (tLst (tCons te tNil)) σ H [z] := fun H1 s1 Q k =>
  hv H1 _ ⟨by show 1 ≤ sizeLine; decide, fun p hp => k p _ (same_upd hp) upd_same⟩
theorem mke_sl {K : PySem.W.Frag} {te : TE} {tl th : TO} {σ : L2.St} {H : Hp} {a : Addr} {zs ys : List Str} {lo hi : Option Int} (hv : ∀ H1 (Q : VK), Q (.ref a) H1 → te σ H1 Q) (hlo : ∀ H1 Q, Q lo H1 → tl σ H1 Q) (hhi : ∀ H1 Q, Q hi H1 → th σ H1 Q) (hS : H a = some (.lst (zs.map V.str))) (e : cutV (zs.map V.str) lo hi = ys.map V.str) : MkE (tSl (rSlL K) te tl th) σ H ys := fun H1 s1 Q k =>
  hv H1 _ (hlo H1 _ (hhi H1 _ ⟨a, _, rfl, SqL.of (s1 _ _ hS), fun p hp => k p _ (same_upd hp) (by rw [upd_same, e])⟩))
theorem mke_rev {K : PySem.W.Frag} {te : TE} {σ : L2.St} {H : Hp} {zs : List Str} (h : MkE te σ H zs) : MkE (tRevL K te) σ H zs.reverse := fun H1 s1 Q k =>
  h H1 s1 _ fun p H2 s2 hp => ⟨p, _, rfl, SqL.of hp, fun q hq => k q _ (s2.trans (same_upd hq)) (by rw [upd_same, List.map_reverse])⟩
theorem cs_to {zs : List Str} {j : Nat} (h : j ≤ zs.length) : cutV (zs.map V.str) none (some ((j : Nat) : Int)) = (zs.take j).map V.str := by
  rw [cutV_to (by rw [List.length_map]; exact h), List.map_take]
theorem cs_from {zs : List Str} {j : Nat} (h : j ≤ zs.length) : cutV (zs.map V.str) (some ((j : Nat) : Int)) none = (zs.drop j).map V.str := by
  rw [cutV_from (by rw [List.length_map]; exact h), List.map_drop]
theorem cs_any {zs : List Str} {i j : Nat} : cutV (zs.map V.str) (some ((i : Nat) : Int)) (some ((j : Nat) : Int)) = ((zs.drop (min i zs.length)).take (min j zs.length - min i zs.length)).map V.str := by
  unfold cutV
  rw [HT.sIx_nat, HT.sIx_nat, List.length_map, List.map_take, List.map_drop]
theorem cs_from2 {zs : List Str} {j : Nat} : cutV (zs.map V.str) (some ((j : Nat) : Int)) none = (zs.drop (min j zs.length)).map V.str := by
  unfold cutV
  rw [HT.sIx_none, HT.sIx_nat, List.length_map, ← List.map_drop, List.take_of_length_le (by simp)]
def spBent : Sp := fun vs H Q _ => ∃ (a c p : Addr) (n : Nat) (zs : List Str), vs = [.ref a, .ref p] ∧ HandAt H a c n ∧ n ≤ 8000 ∧ p ≠ a ∧ H p = some (.lst (zs.map V.str)) ∧ zs ≠ [] ∧ (∀ z ∈ zs, Pc z) ∧ zs.length ≤ 500 ∧ ∀ (q : Addr) (H' : Hp) (ys : List Str), Drew a c (n + 3) H H' → H' q = some (.lst (ys.map V.str)) → (∀ z ∈ ys, Pc z) → ys.length ≤ 900 → Q (.ref q) H'
def oddS : List Str := ["", "a", "b'", "z", "z'", "a''", "A", "'", "ab", "-", "/", "//", "1", "a\n", "a'b", "-a", "{", "a/", "`"]
theorem odd_pc : ∀ z ∈ oddS, Pc z := by
  have : (oddS.all fun z => z.cps.toList.all (fun c => decide (c < 128)) && decide (z.length ≤ 3)) = true := by decide +kernel
  intro z hz
  have h := List.all_eq_true.mp this z hz
  rw [Bool.and_eq_true] at h
  exact ⟨fun c hc => of_decide_eq_true (List.all_eq_true.mp h.1 c hc), of_decide_eq_true h.2⟩
section
variable {P : Program} {w : World} {K : PySem.W.Frag} {mg : Str → Option Value} {base : Heap}
abbrev nBent : List Str := ["_law_hand_here", "_law_items", "_law_at", "_law_way", "_law_odd", "_law_new"]
theorem scBent : FnScope nBent ["_law_hand_here", "_law_items"] (defScope sBent) := ⟨rfl, rfl, rfl, by decide +kernel, rfl, by decide +kernel, by decide +kernel⟩
theorem ok_bent {f : Addr} {fd : FuncData} (F : Fun K "_law_bent" "_law_bent" sBent f fd) (hlen : mg "len" = none) (GD : Cal P w K mg base "_law_take" 1 ["_law_hand_here", "_law_many"] spTake) (GP : Cal P w K mg base "_law_pick" 2 ["_law_hand_here", "_law_some"] spPick) : FnOk P w K mg base CX0 3 f fd ["_law_hand_here", "_law_items"] spBent := by
  refine F.ok scBent (fun vs H Q E h => ?_) (fun cdv A outer s H vs Q E hr h => ?_)
  · obtain ⟨a, c, p, n, zs, rfl, _⟩ := h
    rfl
  · obtain ⟨a, c, p, n, zs, rfl, hH, hn, hpa, hp, hne, hpc, hlz, kq⟩ := h
    refine ⟨_, pss_cons (ps_par (i := 2) (j := 3) (by rfl) scBent.nd rfl rfl (by decide) rfl rfl (pa_cons (pe_cal GD hr (by decide) (by rfl) (pa_cons (pv 0) (pa_cons (pe_callB call_len_seq (by rfl) hlen PySem.boot_len (pa_cons (pv 1) pa_nil)) pa_nil))) (pa_cons (pe_cal GD hr (by decide) (by rfl) (pa_cons (pv 0) (pa_cons pe_int pa_nil))) pa_nil)) (by rfl))
      (pss_cons (ps_set (i := 4) scBent.nd rfl (Or.inl rfl) (pe_lst (pa_cons pe_str (pa_cons pe_str (pa_cons pe_str (pa_cons pe_str (pa_cons pe_str (pa_cons pe_str (pa_cons pe_str (pa_cons pe_str (pa_cons pe_str (pa_cons pe_str (pa_cons pe_str (pa_cons pe_str (pa_cons pe_str (pa_cons pe_str (pa_cons pe_str (pa_cons pe_str (pa_cons pe_str (pa_cons pe_str (pa_cons pe_str pa_nil)))))))))))))))))))))
      (pss_cons (ps_set (i := 5) scBent.nd rfl (Or.inl rfl) (pe_cal GP hr (by decide) (by rfl) (pa_cons (pv 0) (pa_cons (pv 4) pa_nil))))
      (pss_cons (ps_if (pt_cmpR op_lt (pv 3) pe_int (nomark _)) (pss_one (ps_ret (pe_op op_cat (pe_op op_cat (pe_slice sl_list (pv 1) po_none (po_some (pv 2))) (pe_lst (pa_cons (pv 5) pa_nil))) (pe_slice sl_list (pv 1) (po_some (pe_op op_add (pv 2) pe_int)) po_none)))) pss_nil)
      (pss_cons (ps_if (pt_cmpR op_eq (pv 3) pe_int (nomark _)) (pss_one (ps_ret (pe_op op_cat (pe_op op_cat (pe_slice sl_list (pv 1) po_none (po_some (pv 2))) (pe_lst (pa_cons (pv 5) pa_nil))) (pe_slice sl_list (pv 1) (po_some (pv 2)) po_none)))) pss_nil)
      (pss_cons (ps_if (pt_cmpR op_eq (pv 3) pe_int (nomark _)) (pss_one (ps_ret (pe_ifExp (pt_cmpR op_gt (pe_callB call_len_seq (by rfl) hlen PySem.boot_len (pa_cons (pv 1) pa_nil)) pe_int (nomark _)) (pe_op op_cat (pe_slice sl_list (pv 1) po_none (po_some (pv 2))) (pe_slice sl_list (pv 1) (po_some (pe_op op_add (pv 2) pe_int)) po_none)) (pe_lst (pa_cons pe_str pa_nil))))) pss_nil)
      (pss_cons (ps_if (pt_cmpR op_eq (pv 3) pe_int (nomark _)) (pss_one (ps_ret (pe_op op_cat (pe_op op_cat (pe_slice sl_list (pv 1) po_none (po_some (pv 2))) (pe_revL (pe_slice sl_list (pv 1) (po_some (pv 2)) (po_some (pe_op op_add (pv 2) pe_int))))) (pe_slice sl_list (pv 1) (po_some (pe_op op_add (pv 2) pe_int)) po_none)))) pss_nil)
      (pss_cons (ps_if (pt_cmpR op_eq (pv 3) pe_int (nomark _)) (pss_one (ps_ret (pe_op op_cat (pe_slice sl_list (pv 1) po_none (po_some (pe_op op_add (pv 2) pe_int))) (pe_slice sl_list (pv 1) (po_some (pv 2)) po_none)))) pss_nil)
      (pss_one (ps_ret (pe_ifExp (pt_cmpR op_eq (pv 3) pe_int (nomark _)) (pe_slice sl_list (pv 1) po_none (po_some (pe_op op_add (pv 2) pe_int))) (pe_op op_cat (pv 1) (pe_lst (pa_cons (pv 5) pa_nil))))))))))))), ?_⟩
    have hz0 : 0 < zs.length := List.length_pos_iff.mpr hne
    refine ⟨_, rfl, _, rfl, p, _, rfl, .inl (SqL.of hp), a, c, ((zs.length : Nat) : Int), n, congrArg (fun z => [V.ref a, V.int z]) (by rw [List.length_map]), hH, by omega, by omega, small2 (by omega), fun H1 j j0 j1 hH1 hK1 => ?_⟩
    obtain ⟨j, rfl⟩ : ∃ j' : Nat, j = (j' : Int) := ⟨j.toNat, by omega⟩
    have hj : j < zs.length := by omega
    have hp1 := hK1 _ _ hpa hp
    have d1 : Drew a c (n + 1) H H1 := ⟨hH1, hK1⟩
    refine ⟨_, rfl, a, c, 8, n + 1, rfl, hH1, by omega, by decide, by decide, fun H2 y y0 y1 hH2 hK2 => ?_⟩
    have hp2 := hK2 _ _ hpa hp1
    have d2 : Drew a c (n + 2) H H2 := ⟨hH2, d1.2.trans hK2⟩
    refine ⟨_, _, rfl, ?_⟩
    refine ⟨by show 19 ≤ sizeLine; decide, fun L hL => ?_⟩
    have s3 := same_upd (o := .lst (oddS.map V.str)) hL
    have nLa : L ≠ a := hH2.ne hL
    show tNext _ _ (L2.upd H2 L (.lst (oddS.map V.str)))
    have hL3 : (L2.upd H2 L (.lst (oddS.map V.str))) L = some (.lst (oddS.map V.str)) := upd_same
    have hp3 := s3 _ _ hp2
    have d3 := d2.same s3
    generalize L2.upd H2 L (.lst (oddS.map V.str)) = H3 at s3 hL3 hp3 d3 ⊢
    refine ⟨_, rfl, _, rfl, a, c, L, _, n + 2, rfl, d3.1, by omega, nLa, hL3, by decide, by decide, fun v hv H4 d4 => ?_⟩
    obtain ⟨z, hz, rfl⟩ := List.mem_map.mp hv
    have hzp := odd_pc z hz
    have hp4 := d4.2 _ _ hpa hp3
    have d04 : Drew a c (n + 3) H H4 := ⟨d4.1, d3.2.trans d4.2⟩
    refine at_set ?_
    try dsimp only
    have hto : ∀ z' ∈ zs.take j, Pc z' := fun z' h => hpc z' (List.mem_of_mem_take h)
    have fin : ∀ ys : List Str, (∀ z' ∈ ys, Pc z') → ys.length ≤ 900 → ∀ q H5, Same H4 H5 → H5 q = some (.lst (ys.map V.str)) → Q (.ref q) H5 := fun ys h1 h2 q H5 s5 h5 => kq q H5 ys (d04.same s5) h5 h1 h2
    have cs_e1 : ∀ {zs : List Str}, j + 1 ≤ zs.length → cutV (zs.map V.str) none (some ((j : Int) + 1)) = (zs.take (j + 1)).map V.str := fun h => by
      rw [show (j : Int) + 1 = ((j + 1 : Nat) : Int) by omega]
      exact cs_to h
    have cs_e2 : ∀ {zs : List Str}, j + 1 ≤ zs.length → cutV (zs.map V.str) (some ((j : Int) + 1)) none = (zs.drop (j + 1)).map V.str := fun h => by
      rw [show (j : Int) + 1 = ((j + 1 : Nat) : Int) by omega]
      exact cs_from h
    have cs_e3 : ∀ {zs : List Str}, cutV (zs.map V.str) (some (j : Int)) (some ((j : Int) + 2)) = ((zs.drop (min j zs.length)).take (min (j + 2) zs.length - min j zs.length)).map V.str := by
      intro zs
      rw [show (j : Int) + 2 = ((j + 2 : Nat) : Int) by omega]
      exact cs_any
    have cs_e4 : ∀ {zs : List Str}, cutV (zs.map V.str) (some ((j : Int) + 2)) none = (zs.drop (min (j + 2) zs.length)).map V.str := by
      intro zs
      rw [show (j : Int) + 2 = ((j + 2 : Nat) : Int) by omega]
      exact cs_from2
    refine ⟨_, rfl, _, _, rfl, rfl, _, rfl, ?_⟩
    refine ite2 (fun _ => ?_) (fun _ => ?_)
    · refine ret_e ?_
      exact (mke_cat (mke_cat (mke_sl (fun H1 Q q => ⟨_, rfl, q⟩) (fun H1 Q q => q) (fun H1 Q q => ⟨_, rfl, _, rfl, q⟩) hp4 (cs_to (j := j) (by omega))) (mke_one (fun H1 Q q => ⟨_, rfl, q⟩)) (by simp only [List.length_append, List.length_take, List.length_drop, List.length_cons, List.length_nil, List.length_reverse]; omega)) (mke_sl (fun H1 Q q => ⟨_, rfl, q⟩) (fun H1 Q q => ⟨_, rfl, _, _, rfl, rfl, _, rfl, q⟩) (fun H1 Q q => q) hp4 (cs_e2 (by omega))) (by simp only [List.length_append, List.length_take, List.length_drop, List.length_cons, List.length_nil, List.length_reverse]; omega)).on (fin _ (fun z' h => by
          simp only [List.mem_append, List.mem_singleton, List.mem_reverse] at h
          rcases h with (h | h) | h
          · exact hpc z' (List.mem_of_mem_take h)
          · rw [h]; exact hzp
          · exact hpc z' (List.mem_of_mem_drop h)) (by simp only [List.length_append, List.length_take, List.length_drop, List.length_cons, List.length_nil, List.length_reverse]; omega))
    refine ⟨_, rfl, rfl, _, rfl, ?_⟩
    refine ite2 (fun _ => ?_) (fun _ => ?_)
    · refine ret_e ?_
      exact (mke_cat (mke_cat (mke_sl (fun H1 Q q => ⟨_, rfl, q⟩) (fun H1 Q q => q) (fun H1 Q q => ⟨_, rfl, _, rfl, q⟩) hp4 (cs_to (j := j) (by omega))) (mke_one (fun H1 Q q => ⟨_, rfl, q⟩)) (by simp only [List.length_append, List.length_take, List.length_drop, List.length_cons, List.length_nil, List.length_reverse]; omega)) (mke_sl (fun H1 Q q => ⟨_, rfl, q⟩) (fun H1 Q q => ⟨_, rfl, _, rfl, q⟩) (fun H1 Q q => q) hp4 (cs_from (j := j) (by omega))) (by simp only [List.length_append, List.length_take, List.length_drop, List.length_cons, List.length_nil, List.length_reverse]; omega)).on (fin _ (fun z' h => by
          simp only [List.mem_append, List.mem_singleton, List.mem_reverse] at h
          rcases h with (h | h) | h
          · exact hpc z' (List.mem_of_mem_take h)
          · rw [h]; exact hzp
          · exact hpc z' (List.mem_of_mem_drop h)) (by simp only [List.length_append, List.length_take, List.length_drop, List.length_cons, List.length_nil, List.length_reverse]; omega))
    refine ⟨_, rfl, rfl, _, rfl, ?_⟩
    refine ite2 (fun _ => ?_) (fun _ => ?_)
    · refine ret_e ?_
      refine ⟨_, rfl, p, _, rfl, .inl (SqL.of hp4), _, _, rfl, rfl, _, rfl, ?_⟩
      refine ite2 (fun _ => ?_) (fun _ => ?_)
      · exact (mke_cat (mke_sl (fun H1 Q q => ⟨_, rfl, q⟩) (fun H1 Q q => q) (fun H1 Q q => ⟨_, rfl, _, rfl, q⟩) hp4 (cs_to (j := j) (by omega))) (mke_sl (fun H1 Q q => ⟨_, rfl, q⟩) (fun H1 Q q => ⟨_, rfl, _, _, rfl, rfl, _, rfl, q⟩) (fun H1 Q q => q) hp4 (cs_e2 (by omega))) (by simp only [List.length_append, List.length_take, List.length_drop, List.length_cons, List.length_nil, List.length_reverse]; omega)).on (fin _ (fun z' h => by
          simp only [List.mem_append, List.mem_singleton, List.mem_reverse] at h
          rcases h with h | h
          · exact hpc z' (List.mem_of_mem_take h)
          · exact hpc z' (List.mem_of_mem_drop h)) (by simp only [List.length_append, List.length_take, List.length_drop, List.length_cons, List.length_nil, List.length_reverse]; omega))
      · exact (mke_one (fun H1 Q q => q)).on (fin _ (fun z' h => by
          rw [List.mem_singleton.mp h]
          exact odd_pc _ List.mem_cons_self) (by show 1 ≤ 900; decide))
    refine ⟨_, rfl, rfl, _, rfl, ?_⟩
    refine ite2 (fun _ => ?_) (fun _ => ?_)
    · refine ret_e ?_
      exact (mke_cat (mke_cat (mke_sl (fun H1 Q q => ⟨_, rfl, q⟩) (fun H1 Q q => q) (fun H1 Q q => ⟨_, rfl, _, rfl, q⟩) hp4 (cs_to (j := j) (by omega))) (mke_rev (mke_sl (fun H1 Q q => ⟨_, rfl, q⟩) (fun H1 Q q => ⟨_, rfl, _, rfl, q⟩) (fun H1 Q q => ⟨_, rfl, _, _, rfl, rfl, _, rfl, q⟩) hp4 cs_e3)) (by simp only [List.length_append, List.length_take, List.length_drop, List.length_cons, List.length_nil, List.length_reverse]; omega)) (mke_sl (fun H1 Q q => ⟨_, rfl, q⟩) (fun H1 Q q => ⟨_, rfl, _, _, rfl, rfl, _, rfl, q⟩) (fun H1 Q q => q) hp4 cs_e4) (by simp only [List.length_append, List.length_take, List.length_drop, List.length_cons, List.length_nil, List.length_reverse]; omega)).on (fin _ (fun z' h => by
          simp only [List.mem_append, List.mem_singleton, List.mem_reverse] at h
          rcases h with (h | h) | h
          · exact hpc z' (List.mem_of_mem_take h)
          · exact hpc z' (List.mem_of_mem_drop (List.mem_of_mem_take h))
          · exact hpc z' (List.mem_of_mem_drop h)) (by simp only [List.length_append, List.length_take, List.length_drop, List.length_cons, List.length_nil, List.length_reverse]; omega))
    refine ⟨_, rfl, rfl, _, rfl, ?_⟩
    refine ite2 (fun _ => ?_) (fun _ => ?_)
    · refine ret_e ?_
      exact (mke_cat (mke_sl (fun H1 Q q => ⟨_, rfl, q⟩) (fun H1 Q q => q) (fun H1 Q q => ⟨_, rfl, _, _, rfl, rfl, _, rfl, q⟩) hp4 (cs_e1 (by omega))) (mke_sl (fun H1 Q q => ⟨_, rfl, q⟩) (fun H1 Q q => ⟨_, rfl, _, rfl, q⟩) (fun H1 Q q => q) hp4 (cs_from (j := j) (by omega))) (by simp only [List.length_append, List.length_take, List.length_drop, List.length_cons, List.length_nil, List.length_reverse]; omega)).on (fin _ (fun z' h => by
          simp only [List.mem_append, List.mem_singleton, List.mem_reverse] at h
          rcases h with h | h
          · exact hpc z' (List.mem_of_mem_take h)
          · exact hpc z' (List.mem_of_mem_drop h)) (by simp only [List.length_append, List.length_take, List.length_drop, List.length_cons, List.length_nil, List.length_reverse]; omega))
    refine ⟨_, rfl, rfl, _, rfl, ?_⟩
    refine ite2 (fun _ => ?_) (fun _ => ?_)
    · exact MkE.on (mke_sl (fun H1 Q q => ⟨_, rfl, q⟩) (fun H1 Q q => q) (fun H1 Q q => ⟨_, rfl, _, _, rfl, rfl, _, rfl, q⟩) hp4 (cs_e1 (by omega))) (fin _ (fun z' h => hpc z' (List.mem_of_mem_take h)) (by simp only [List.length_append, List.length_take, List.length_drop, List.length_cons, List.length_nil, List.length_reverse]; omega))
    · exact (mke_cat (zs := zs) (fun H1 s1 Q k => ⟨_, rfl, k p H1 (Same.refl _) (s1 _ _ hp4)⟩) (mke_one (fun H1 Q q => ⟨_, rfl, q⟩)) (by simp only [List.length_append, List.length_take, List.length_drop, List.length_cons, List.length_nil, List.length_reverse]; omega)).on (fin _ (fun z' h => by
          simp only [List.mem_append, List.mem_singleton, List.mem_reverse] at h
          rcases h with h | h
          · exact hpc z' h
          · rw [h]; exact hzp) (by simp only [List.length_append, List.length_take, List.length_drop, List.length_cons, List.length_nil, List.length_reverse]; omega))
end
end W03
set_option Elab.async false
set_option linter.all false
set_option maxRecDepth 100000
set_option maxHeartbeats 600000
namespace W03
open PySem L2 PySem.Spec PyProof.Rows WR WB
abbrev sLaw : Stmt := top 58
theorem glue_mem {c x : Nat} : ∀ {ps : List (List Nat)}, x ∈ MText.glue c ps → x = c ∨ ∃ p ∈ ps, x ∈ p
  | [], h => nomatch h
  | [a], h => .inr ⟨a, List.mem_cons_self, h⟩
  | a :: b :: r, h => by
    have h : x ∈ a ++ c :: MText.glue c (b :: r) := h
    rcases List.mem_append.mp h with h | h
    · exact .inr ⟨a, List.mem_cons_self, h⟩
    · rcases List.mem_cons.mp h with h | h
      · exact .inl h
      · rcases glue_mem h with h | ⟨p, hp, h⟩
        · exact .inl h
        · exact .inr ⟨p, List.mem_cons_of_mem _ hp, h⟩
theorem glue_len {c m : Nat} : ∀ {ps : List (List Nat)}, (∀ p ∈ ps, p.length ≤ m) → (MText.glue c ps).length ≤ (m + 1) * ps.length
  | [], _ => Nat.zero_le _
  | [a], h => by
    have := h a List.mem_cons_self
    show a.length ≤ (m + 1) * 1
    omega
  | a :: b :: r, h => by
    have h1 := h a List.mem_cons_self
    have h2 := glue_len (c := c) (m := m) (ps := b :: r) fun p hp => h p (List.mem_cons_of_mem _ hp)
    show (a ++ c :: MText.glue c (b :: r)).length ≤ _
    rw [List.length_append, List.length_cons, List.length_cons (a := a), Nat.mul_add, Nat.mul_one]
    omega
theorem join_fit {zs : List Str} (h : ∀ z ∈ zs, Pc z) (hl : zs.length ≤ 900) : Fit (Txt.join ⟨#[32]⟩ zs) := by
  refine ⟨fun c hc => ?_, ?_⟩
  · rw [MText.join_glue] at hc
    rcases glue_mem hc with h1 | ⟨p, hp, h1⟩
    · omega
    · obtain ⟨z, hz, rfl⟩ := List.mem_map.mp hp
      exact (h z hz).1 c h1
  · rw [← len_cps, MText.join_glue]
    refine Nat.le_trans (glue_len (m := 3) fun p hp => ?_) ?_
    · obtain ⟨z, hz, rfl⟩ := List.mem_map.mp hp
      rw [len_cps]
      exact (h z hz).2
    · rw [List.length_map]
      omega
theorem sum_le {zs : List Str} (h : ∀ z ∈ zs, Pc z) : (zs.map (·.length)).sum ≤ 3 * zs.length := by
  induction zs with
  | nil => exact Nat.zero_le _
  | cons z r ih =>
    have h1 := (h z List.mem_cons_self).2
    have h2 := ih fun y hy => h y (List.mem_cons_of_mem _ hy)
    rw [List.map_cons, List.sum_cons, List.length_cons]
    omega
theorem HandAt.neq {H : Hp} {a c q : Addr} {n : Nat} {xs : List V} (h : HandAt H a c n) (hq : H q = some (.tup xs)) : q ≠ a := fun e => by
  obtain ⟨ns, i, r, h1, _⟩ := h
  rw [e, h1] at hq
  cases hq
def kinds : List Bool := [true, false, false, true, false]
def spLaw (K : PySem.W.Frag) : Sp := fun vs H Q _ => ∃ (a : Addr) (ns : List Int), vs = [.ref a] ∧ SqL K H a (ns.map V.int) ∧ ns.length ≤ 63 ∧ ∀ H', Q (.bl true) H'
theorem odd_not {H : Hp} {v : V} {p tq dq : Addr} {zs : List Str} (h1 : H p = some (.lst (zs.map V.str))) (h2 : H tq = some (.tup (zs.map V.str))) (h3 : H dq = some (.dK [])) (hv : v ∈ [V.non, .int 5, .bl true, .ref p, .ref tq, .int 0, .ref dq]) : NotS H v := by
  simp only [List.mem_cons, List.not_mem_nil, or_false] at hv
  rcases hv with rfl | rfl | rfl | rfl | rfl | rfl | rfl
  · exact ⟨_, .non, rfl⟩
  · exact ⟨_, .int 5, rfl⟩
  · exact ⟨_, .bl true, rfl⟩
  · exact ⟨_, .lst h1, rfl⟩
  · exact ⟨_, .tup h2, rfl⟩
  · exact ⟨_, .int 0, rfl⟩
  · exact ⟨_, .dct h3, rfl⟩
section
variable {P : Program} {w : World} {K : PySem.W.Frag} {mg : Str → Option Value} {base : Heap}
abbrev nLaw : List Str := ["_law_script", "_law_hand_here", "_law_kind", "_law_items", "_law_turn", "_law_odd"]
structure CalsL (P : Program) (w : World) (K : PySem.W.Frag) (mg : Str → Option Value) (base : Heap) : Prop where
  hand : Cal P w K mg base "_law_hand" 1 ["_law_script"] (spHand K)
  pick : Cal P w K mg base "_law_pick" 2 ["_law_hand_here", "_law_some"] spPick
  right : Cal P w K mg base "_law_right" 4 ["_law_hand_here", "_law_kind"] spRight
  bent : Cal P w K mg base "_law_bent" 3 ["_law_hand_here", "_law_items"] spBent
  place : Cal P w K mg base "_law_place" 3 ["_law_kind", "_law_items"] (spPl K)
  heard : Cal P w K mg base "_law_heard" 8 ["_law_kind", "_law_text"] spHeard
  tr : Cal P w K mg base "_law_text_right" 9 ["_law_kind", "_law_text"] spTR
theorem scLaw : FnScope nLaw ["_law_script"] (defScope sLaw) := ⟨rfl, rfl, rfl, by decide +kernel, rfl, by decide +kernel, by decide +kernel⟩
theorem ok_law {f : Addr} {fd : FuncData} (F : Fun K "law" "law" sLaw f fd) (hrange : mg "range" = none) (htuple : mg "tuple" = none) (Z : CalsL P w K mg base) : FnOk P w K mg base CX0 10 f fd ["_law_script"] (spLaw K) := by
  refine F.ok scLaw (fun vs H Q E h => ?_) (fun cdv A outer s H vs Q E hr h => ?_)
  · obtain ⟨a, ns, rfl, _⟩ := h
    rfl
  · obtain ⟨sa, ss, rfl, hS, l63, k⟩ := h
    refine ⟨_, pss_cons (ps_set (i := 1) scLaw.nd rfl (Or.inl rfl) (pe_cal Z.hand hr (by decide) (by rfl) (pa_cons (pv 0) pa_nil)))
      (pss_cons (ps_for PassesOwn.never rfl (pi_tup (pe_tup (pa_cons pe_str (pa_cons pe_str (pa_cons pe_str (pa_cons pe_str (pa_cons pe_str pa_nil))))))) (pg_name (i := 2) scLaw.nd rfl (Or.inl rfl))
        (pss_cons (ps_set (i := 3) scLaw.nd rfl (Or.inl rfl) (pe_cal Z.right hr (by decide) (by rfl) (pa_cons (pv 1) (pa_cons (pv 2) pa_nil))))
        (pss_cons (ps_if (PW.pt (pw_or (pt_cmpR op_notN (pe_cal Z.place hr (by decide) (by rfl) (pa_cons (pv 2) (pa_cons (pv 3) pa_nil))) pe_non (nomark _)) (pw_or1 (pt_not (pt_val (pe_cal Z.tr hr (by decide) (by rfl) (pa_cons (pv 2) (pa_cons (pe_join pe_str (pv 3)) pa_nil)))))))) (pss_one (ps_ret pe_bl)) pss_nil)
        (pss_cons (ps_for PassesOwn.never rfl (pi_range1 (by rfl) hrange (pa_cons pe_int pa_nil)) (pg_name (i := 4) scLaw.nd rfl (Or.inl rfl))
          (pss_one (ps_if (pt_not (pt_val (pe_cal Z.tr hr (by decide) (by rfl) (pa_cons (pv 2) (pa_cons (pe_join pe_str (pe_cal Z.bent hr (by decide) (by rfl) (pa_cons (pv 1) (pa_cons (pv 3) pa_nil)))) pa_nil))))) (pss_one (ps_ret pe_bl)) pss_nil)))
        (pss_cons (ps_set (i := 5) scLaw.nd rfl (Or.inl rfl) (pe_cal Z.pick hr (by decide) (by rfl) (pa_cons (pv 1) (pa_cons (pe_lst (pa_cons pe_non (pa_cons pe_int (pa_cons pe_bl (pa_cons (pv 3) (pa_cons (pe_callTy call_tuple_of (by rfl) htuple (by decide +kernel) (pa_cons (pv 3) pa_nil)) (pa_cons pe_int (pa_cons pe_dnewK pa_nil)))))))) pa_nil))))
        (pss_one (ps_if (pt_cmpR (op_neD hr.units) (pe_cal Z.heard hr (by decide) (by rfl) (pa_cons (pv 2) (pa_cons (pv 5) pa_nil))) (pe_tup (pa_cons pe_int (pa_cons pe_int pa_nil))) (nomark _)) (pss_one (ps_ret pe_bl)) pss_nil)))))))
      (pss_one (ps_ret pe_bl))), ?_⟩
    refine ⟨_, rfl, sa, ss, rfl, hS, by omega, fun H1 a c s1 ha0 hc0 h1 => ?_⟩
    refine at_set ?_
    try dsimp only
    refine ⟨by show 5 ≤ sizeLine; decide, fun tq htq => ?_⟩
    have s2 := same_upd (o := .tup (kinds.map fun b => V.str (kS b))) htq
    have h2 := h1.same s2
    have hq2 : (L2.upd H1 tq (.tup (kinds.map fun b => V.str (kS b)))) tq = some (.tup (kinds.map fun b => V.str (kS b))) := upd_same
    have nqa := h1.ne htq
    show ∃ (p : Addr), _
    refine ⟨tq, rfl, ⟨_, SqT.of hq2⟩, ?_⟩
    refine for_tup (K := K) (a := tq) (xs := kinds.map fun b => V.str (kS b)) (fun i σ H' => ∃ (v2 v3 v4 v5 : Option V), σ = [some (.ref sa), some (.ref a), v2, v3, v4, v5] ∧ HandAt H' a c (1200 * i) ∧ H' tq = some (.tup (kinds.map fun b => V.str (kS b)))) ⟨none, none, none, none, rfl, h2, hq2⟩ (fun i σ H' _ ⟨_, _, _, _, _, _, hq⟩ => SqT.of hq) ?_ ?_
    · rintro i y σ H3 hi ⟨v2, v3, v4, v5, rfl, h3, hq3⟩
      obtain ⟨b, hb, rfl⟩ : ∃ b, kinds[i]? = some b ∧ y = V.str (kS b) := by
        rw [List.getElem?_map] at hi
        cases e : kinds[i]? with
        | none => rw [e] at hi; cases hi
        | some b => rw [e] at hi; exact ⟨b, rfl, (Option.some.inj hi).symm⟩
      have hi5 : i < 5 := (List.getElem?_eq_some_iff.mp hb).1
      refine ⟨_, rfl, _, rfl, b, a, c, 1200 * i, rfl, h3, by omega, fun p H4 zs hp0 d4 hp4 hne hpc hlz hpl => ?_⟩
      have hpa := h3.ne hp0
      refine at_set ?_
      try dsimp only
      have jfit := join_fit hpc (by omega)
      have sjo : (zs.map (·.length)).sum + zs.length * (Str.ofString " ").length ≤ 16777216 := by
        have := sum_le hpc
        have e1 : (Str.ofString " ").length = 1 := by decide +kernel
        rw [e1]
        omega
      refine ⟨_, rfl, _, rfl, b, p, zs, rfl, SqL.of hp4, hne, fun z hz => ⟨(hpc z hz).1, by have := (hpc z hz).2; omega⟩, by omega, fun H5 s5 => ?_⟩
      rw [hpl]
      refine ⟨rfl, _, rfl, iteF' rfl ?_⟩
      refine ⟨_, rfl, ⟨_, rfl⟩, _, rfl, _, p, zs, rfl, rfl, .inl (SqL.of (s5 _ _ hp4)), sjo, b, _, rfl, (by rw [space_eq]; exact jfit), fun H6 s6 => ⟨_, rfl, iteF ?_⟩⟩
      have s46 := s5.trans s6
      have d6 := d4.same s46
      have hp6 := s46 _ _ hp4
      refine ⟨4, rfl, by decide, by decide, for_range (lo := 0) (n := (4 : Int).toNat) (fun t σ H' => ∃ (v4 v5 : Option V), σ = [some (.ref sa), some (.ref a), some (.str (kS b)), some (.ref p), v4, v5] ∧ Drew a c (1200 * i + 1100 + 3 * t) H3 H' ∧ H' p = some (.lst (zs.map V.str))) ⟨v4, v5, rfl, d6, hp6⟩ ?_ ?_⟩
      · rintro t σ H7 ht ⟨w4, w5, rfl, d7, hp7⟩
        have ht4 : t < 4 := ht
        refine ⟨_, rfl, ⟨_, rfl⟩, _, rfl, _, rfl, a, c, p, 1200 * i + 1100 + 3 * t, zs, rfl, d7.1, by omega, hpa, hp7, hne, hpc, hlz, fun q H8 ys d8 hq8 hyc hyl => ?_⟩
        have yfit := join_fit hyc hyl
        refine ⟨_, q, ys, rfl, rfl, .inl (SqL.of hq8), ?_, b, _, rfl, (by rw [space_eq]; exact yfit), fun H9 s9 => ⟨_, rfl, iteF ?_⟩⟩
        · have := sum_le hyc
          have e1 : (Str.ofString " ").length = 1 := by decide +kernel
          rw [e1]
          omega
        have d78 : Drew a c (1200 * i + 1100 + 3 * t + 3) H3 H8 := ⟨d8.1, d7.2.trans d8.2⟩
        have d9 : Drew a c (1200 * i + 1100 + 3 * (t + 1)) H3 H9 := d78.same s9
        exact ⟨_, _, rfl, d9, s9 _ _ (d8.2 _ _ hpa hp7)⟩
      · rintro σ H7 ⟨w4, w5, rfl, d7, hp7⟩
        have d7 : Drew a c (1200 * i + 1112) H3 H7 := d7
        refine ⟨_, rfl, _, rfl, _, rfl, p, _, rfl, .inl ⟨SqL.of hp7, fun tl htl => fun dq hdq => ⟨by show 7 ≤ sizeLine; decide, fun L hL => ?_⟩⟩⟩
        have s8 := same_upd (o := .tup (zs.map V.str)) htl
        have htl8 : (L2.upd H7 tl (.tup (zs.map V.str))) tl = some (.tup (zs.map V.str)) := upd_same
        have s9 := same_upd (o := .dK []) hdq
        have hdq9 : (L2.upd (L2.upd H7 tl (.tup (zs.map V.str))) dq (.dK [])) dq = some (.dK []) := upd_same
        have s10 := same_upd (o := .lst [V.non, .int 5, .bl true, .ref p, .ref tl, .int 0, .ref dq]) hL
        have hL10 : (L2.upd (L2.upd (L2.upd H7 tl (.tup (zs.map V.str))) dq (.dK [])) L (.lst [V.non, .int 5, .bl true, .ref p, .ref tl, .int 0, .ref dq])) L = some (.lst [V.non, .int 5, .bl true, .ref p, .ref tl, .int 0, .ref dq]) := upd_same
        have p10 := s10 _ _ (s9 _ _ (s8 _ _ hp7))
        have t10 := s10 _ _ (s9 _ _ htl8)
        have q10 := s10 _ _ hdq9
        have d10 := ((d7.same s8).same s9).same s10
        have nta := d7.1.ne htl
        have nda := (d7.same s8).1.ne hdq
        have nLa := ((d7.same s8).same s9).1.ne hL
        show spPick _ _ _ E0
        generalize (L2.upd (L2.upd (L2.upd H7 tl (.tup (zs.map V.str))) dq (.dK [])) L (.lst [V.non, .int 5, .bl true, .ref p, .ref tl, .int 0, .ref dq])) = H10 at hL10 p10 t10 q10 d10 ⊢
        refine ⟨a, c, L, _, 1200 * i + 1112, rfl, d10.1, by omega, nLa, hL10, (by show 0 < 7; decide), (by show 7 ≤ 1000; decide), fun v hv H11 d11 => ?_⟩
        have hodd : NotS H11 v := odd_not (d11.2 _ _ hpa p10) (d11.2 _ _ nta t10) (d11.2 _ _ nda q10) hv
        have d311 : Drew a c (1200 * i + 1113) H3 H11 := ⟨d11.1, d10.2.trans d11.2⟩
        refine at_set ?_
        try dsimp only
        refine ⟨_, rfl, _, rfl, b, v, rfl, .inl ⟨hodd, fun t H12 s12 h12 => ?_⟩⟩
        refine ⟨by show 2 ≤ sizeLine; decide, fun u hu => ?_⟩
        have s13 := same_upd (o := .tup [V.int 0, .int 0]) hu
        refine ⟨.tuple [.int 0, .int 0], .tuple [.int 0, .int 0], .tup (SqT.of (s13 _ _ h12)) (.cons (.int 0) (.cons (.int 0) .nil)), .tup (SqT.of upd_same) (.cons (.int 0) (.cons (.int 0) .nil)), rfl, rfl, _, rfl, iteF' (by decide) ?_⟩
        have dfin := (d311.same s12).same s13
        exact ⟨_, _, _, _, rfl, dfin.1.mono (by omega), dfin.2 _ _ (h3.neq hq3) hq3⟩
    · rintro σ H3 ⟨v2, v3, v4, v5, rfl, h3, hq3⟩
      exact k _
end
end W03
set_option Elab.async false
set_option linter.all false
set_option maxRecDepth 100000
set_option maxHeartbeats 1000000
namespace W03
open PySem L2 PySem.Spec PyProof.Rows WR WB
/-! ### what the top has written -/
structure FF (K : PySem.W.Frag) (mg : Str → Option Value) (x : Str) (st : Stmt) : Prop where
  ex : ∃ (f : Addr) (oc : Value) (od : Option Addr) (kV doc pm cdv ct : Value) (an : Option Addr) (osl : Array (Option Value)),
    K.lookup f = some ⟨oc, od, .func (PySem.W.fnOf x x (defArgs st) (defBody st) (defScope st) .none kV doc pm an cdv ct), osl⟩ ∧ PySem.W.codeIn K cdv x = true ∧ PySem.W.keepIn K (.ref f) = true ∧ mg x = some (.ref f)
theorem ff_mk {K : PySem.W.Frag} {mg : Str → Option Value} {h : Heap} {x : Str} {st : Stmt} {f : Addr} {oc : Value} {od an : Option Addr} {kV doc pm cdv ct : Value} {osl : Array (Option Value)} (X : K.In h) (G : h.Ns mainGlobals mg)
    (a : PySem.W.nsIn K mainGlobals x = some (some (.ref f))) (l : K.lookup f = some ⟨oc, od, .func (PySem.W.fnOf x x (defArgs st) (defBody st) (defScope st) .none kV doc pm an cdv ct), osl⟩) (c : PySem.W.codeIn K cdv x = true) (k : PySem.W.keepIn K (.ref f) = true) : FF K mg x st :=
  ⟨f, oc, od, kV, doc, pm, cdv, ct, an, osl, l, c, k, PySem.W.mg_of X G a⟩
/-- a def in the class's body, held by the class -/
structure FM (K : PySem.W.Frag) (C : Addr) (m q : Str) (st : Stmt) : Prop where
  ex : ∃ (f : Addr) (oc : Value) (od : Option Addr) (kV doc pm cdv ct : Value) (an : Option Addr) (osl : Array (Option Value)),
    PySem.W.findIn K (.ref C) m = some (some (.ref f)) ∧ PySem.W.isFn K (.ref f) = true ∧
    K.lookup f = some ⟨oc, od, .func (PySem.W.fnOf m q (defArgs st) (defBody st) (defScope st) .none kV doc pm an cdv ct), osl⟩ ∧ PySem.W.codeIn K cdv q = true ∧ PySem.W.keepIn K (.ref f) = true
theorem fm_mk {K : PySem.W.Frag} {C : Addr} {m q : Str} {st : Stmt} {f : Addr} {oc : Value} {od an : Option Addr} {kV doc pm cdv ct : Value} {osl : Array (Option Value)}
    (a : PySem.W.findIn K (.ref C) m = some (some (.ref f))) (i : PySem.W.isFn K (.ref f) = true) (l : K.lookup f = some ⟨oc, od, .func (PySem.W.fnOf m q (defArgs st) (defBody st) (defScope st) .none kV doc pm an cdv ct), osl⟩) (c : PySem.W.codeIn K cdv q = true) (k : PySem.W.keepIn K (.ref f) = true) : FM K C m q st :=
  ⟨f, oc, od, kV, doc, pm, cdv, ct, an, osl, a, i, l, c, k⟩
section
variable {P : Program} {w : World} {K : PySem.W.Frag} {mg : Str → Option Value} {base : Heap} {x m q : Str} {C : Addr} {st : Stmt} {k : Nat} {ps ks : List Str} {sp : Sp}
theorem FF.cal (F : FF K mg x st) (ok : ∀ f fd, Fun K x x st f fd → FnOk P w K mg base CX0 k f fd ps sp)
    (hb : ∀ (kV doc pm : Value) (an : Option Addr) (cdv ct : Value) (us : List Value), us.length = ps.length → bindArgs (PySem.W.fnOf x x (defArgs st) (defBody st) (defScope st) .none kV doc pm an cdv ct) ⟨us, []⟩ = pure (ps.zip us)) : Cal P w K mg base x k ps sp := by
  obtain ⟨f, oc, od, kV, doc, pm, cdv, ct, an, osl, l, c, kp, m⟩ := F.ex
  exact ⟨f, _, ok f _ (fun_mk l c kp), m, kp, (fun_mk l c kp).binds hb⟩
/-- a def that calls itself: its promise may use where it stands -/
theorem FF.calR (F : FF K mg x st) (ok : ∀ f fd, Fun K x x st f fd → mg x = some (.ref f) → Binds K fd ps [] → FnOk P w K mg base CX0 k f fd ps sp)
    (hb : ∀ (kV doc pm : Value) (an : Option Addr) (cdv ct : Value) (us : List Value), us.length = ps.length → bindArgs (PySem.W.fnOf x x (defArgs st) (defBody st) (defScope st) .none kV doc pm an cdv ct) ⟨us, []⟩ = pure (ps.zip us)) : Cal P w K mg base x k ps sp := by
  obtain ⟨f, oc, od, kV, doc, pm, cdv, ct, an, osl, l, c, kp, m⟩ := F.ex
  exact ⟨f, _, ok f _ (fun_mk l c kp) m ((fun_mk l c kp).binds hb), m, kp, (fun_mk l c kp).binds hb⟩
/-- a class's __init__ -/
theorem FM.made (F : FM K C m q st) (hm : m = "__init__") (mks : PySem.W.makesIn K C = true) (kc : PySem.W.keepIn K (.ref C) = true) (ok : ∀ f fd, Fun K m q st f fd → FnOk P w K mg base CX0 k f fd ps sp)
    (hb : ∀ (kV doc pm : Value) (an : Option Addr) (cdv ct : Value) (us : List Value), us.length = ps.length → bindArgs (PySem.W.fnOf m q (defArgs st) (defBody st) (defScope st) .none kV doc pm an cdv ct) ⟨us, []⟩ = pure (ps.zip us)) : ∃ (f : Addr) (fd : FuncData), Mk K C f ∧ FnOk P w K mg base CX0 k f fd ps sp ∧ Binds K fd ps [] := by
  subst hm
  obtain ⟨f, oc, od, kV, doc, pm, cdv, ct, an, osl, a, i, l, c, kp⟩ := F.ex
  exact ⟨f, _, ⟨mks, a, i, kc⟩, ok f _ (fun_mk l c kp), (fun_mk l c kp).binds hb⟩
theorem FF.calX (F : FF K mg x st) (ok : ∀ f fd, Fun K x x st f fd → FnOk P w K mg base (L2.CX P w) k f fd ps sp)
    (hb : ∀ (kV doc pm : Value) (an : Option Addr) (cdv ct : Value) (us : List Value), us.length = ps.length → bindArgs (PySem.W.fnOf x x (defArgs st) (defBody st) (defScope st) .none kV doc pm an cdv ct) ⟨us, []⟩ = pure (ps.zip us)) : CalX P w K mg base x k ps sp := by
  obtain ⟨f, oc, od, kV, doc, pm, cdv, ct, an, osl, l, c, kp, m⟩ := F.ex
  exact ⟨f, _, ok f _ (fun_mk l c kp), m, kp, (fun_mk l c kp).binds hb⟩
theorem FM.spe (F : FM K C m q st) (ok : ∀ f fd, Fun K m q st f fd → FnOk P w K mg base CX0 k f fd ["self"] sp)
    (hb : ∀ (kV doc pm : Value) (an : Option Addr) (cdv ct : Value) (us : List Value), us.length = 1 → bindArgs (PySem.W.fnOf m q (defArgs st) (defBody st) (defScope st) .none kV doc pm an cdv ct) ⟨us, []⟩ = pure ((["self"] : List Str).zip us)) : MStr.Spe P w K mg base C m k sp := by
  obtain ⟨f, oc, od, kV, doc, pm, cdv, ct, an, osl, a, i, l, c, kp⟩ := F.ex
  exact ⟨f, _, ok f _ (fun_mk l c kp), a, i, (fun_mk l c kp).binds hb⟩
end
/-- a staticmethod in the class's body -/
structure FS (K : PySem.W.Frag) (C : Addr) (m q : Str) (st : Stmt) : Prop where
  ex : ∃ (p f : Addr) (oc : Value) (od : Option Addr) (kV doc pm cdv ct : Value) (an : Option Addr) (osl : Array (Option Value)),
    MStat.SMet K C (.type "type") m p f ∧ K.lookup f = some ⟨oc, od, .func (PySem.W.fnOf m q (defArgs st) (defBody st) (defScope st) .none kV doc pm an cdv ct), osl⟩ ∧ PySem.W.codeIn K cdv q = true
theorem fs_mk {K : PySem.W.Frag} {C : Addr} {m q : Str} {st : Stmt} {p f : Addr} {rest : List Value} {oc : Value} {od an : Option Addr} {kV doc pm cdv ct : Value} {osl : Array (Option Value)}
    (rd : PySem.W.readsIn K C (.type "type") = true) (ga : PySem.W.specialIn K (.ref C) "__getattribute__" = some (some (.builtin "type.__getattribute__")))
    (at_ : PySem.W.findCls K (.ref C) (.type "type") m = some (.get (.builtin "staticmethod.__get__") (.ref p) .none (.ref C))) (rc : PySem.W.recIn K p "staticmethod" = some (.ref f :: rest)) (kp : PySem.W.keepIn K (.ref f) = true)
    (l : K.lookup f = some ⟨oc, od, .func (PySem.W.fnOf m q (defArgs st) (defBody st) (defScope st) .none kV doc pm an cdv ct), osl⟩) (c : PySem.W.codeIn K cdv q = true) : FS K C m q st :=
  ⟨p, f, oc, od, kV, doc, pm, cdv, ct, an, osl, ⟨rd, ga, at_, ⟨rest, rc⟩, kp⟩, l, c⟩
theorem FS.smx {P : Program} {w : World} {K : PySem.W.Frag} {mg : Str → Option Value} {base : Heap} {m q : Str} {C : Addr} {st : Stmt} {k : Nat} {ps : List Str} {sp : Sp} (F : FS K C m q st) (ok : ∀ f fd, Fun K m q st f fd → FnOk P w K mg base (L2.CX P w) k f fd ps sp)
    (hb : ∀ (kV doc pm : Value) (an : Option Addr) (cdv ct : Value) (us : List Value), us.length = ps.length → bindArgs (PySem.W.fnOf m q (defArgs st) (defBody st) (defScope st) .none kV doc pm an cdv ct) ⟨us, []⟩ = pure (ps.zip us)) : SMx P w K mg base C m k ps sp := by
  obtain ⟨p, f, oc, od, kV, doc, pm, cdv, ct, an, osl, sm, l, c⟩ := F.ex
  exact ⟨.type "type", p, f, _, sm, ok f _ (fun_mk l c sm.kp), (fun_mk l c sm.kp).binds hb⟩
/-- what is to be known of an error's class -/
structure ErrW (K : PySem.W.Frag) (mg : Str → Option Value) (C : Addr) (x q : Str) (st : Stmt) : Prop where
  oex : OexC K C
  xf : XfC K C
  ini : FM K C "__init__" q st
  ty : ∀ f : Addr, PySem.W.findIn K (.ref C) "__init__" = some (some (.ref f)) → PySem.W.typeIn K (.ref f) = some (.type "function")
  g : mg x = some (.ref C)
  te : PySem.W.exmOne K (.ref C) (.ref C) = some true
structure Names (mg : Str → Option Value) : Prop where
  isinstance : mg "isinstance" = none
  int : mg "int" = none
  bool : mg "bool" = none
  str : mg "str" = none
  list : mg "list" = none
  tuple : mg "tuple" = none
  all : mg "all" = none
  len : mg "len" = none
  abs : mg "abs" = none
  range : mg "range" = none
  sorted : mg "sorted" = none
  set : mg "set" = none
  enumerate : mg "enumerate" = none
  kind : ∃ t, mg "MOST_KIND" = some (.int 26 t)
  most : ∃ t, mg "MOST_LETTERS" = some (.int 500 t)
  words : ∃ t, mg "MOST_WORDS" = some (.int 4 t)
  places : ∃ t, mg "MOST_PLACES" = some (.int 24 t)
  alph : ∃ t, mg "ALPHABET" = some (.str alphS t)
structure Defs (K : PySem.W.Frag) (mg : Str → Option Value) (C CR : Addr) : Prop where
  d_sIsInt : FF K mg "is_integer" sIsInt
  d_sWithin : FF K mg "is_within" sWithin
  d_sLetter : FF K mg "is_letter" sLetter
  d_sListed : FF K mg "is_listed" sListed
  d_sShr : FF K mg "shortened_letters" sShr
  d_sRnd : FF K mg "rounded_letters" sRnd
  d_sKinds : FF K mg "kinds_of" sKinds
  d_sBalOf : FF K mg "balance_of" sBalOf
  d_sLText : FF K mg "letter_text" sLText
  d_sLOf : FF K mg "letter_of" sLOf
  d_sItems : FF K mg "items_of" sItems
  d_sTold : FF K mg "items_told" sTold
  d_sFilled : FF K mg "is_filled" sFilled
  d_sFew : FF K mg "need_few_letters" sFew
  d_sNeedB : FF K mg "need_balanced" sNeedB
  d_sFewP : FF K mg "need_few_places" sFewP
  d_sNexts : FF K mg "nexts_of" sNexts
  d_sRows : FF K mg "rows_of" sRows
  d_sJar : FF K mg "_law_hand" sJar
  d_sDraw : FF K mg "_law_take" sDraw
  d_sPick : FF K mg "_law_pick" sPick
  d_sLet : FF K mg "_law_letter" sLet
  d_sWPl : FF K mg "_law_word_place" sWPl
  d_sRPl : FF K mg "_law_rims_place" sRPl
  d_sPl : FF K mg "_law_place" sPl
  d_sTxt : FF K mg "_law_text_of" sTxt
  d_sLets : FF K mg "_law_letters" sLets
  d_sRight : FF K mg "_law_right" sRight
  d_sBent : FF K mg "_law_bent" sBent
  d_sRead : FF K mg "_law_read" sRead
  d_sHeard : FF K mg "_law_heard" sHeard
  d_sTold2 : FF K mg "_law_told" sTold2
  d_sTR : FF K mg "_law_text_right" sTR
  d_sLaw : FF K mg "law" sLaw
  m_sInit : FM K C "__init__" "Word.__init__" sInit
  m_sEq : FM K C "__eq__" "Word.__eq__" sEq
  m_sStrM : FM K C "__str__" "Word.__str__" sStrM
  m_sInitR : FM K CR "__init__" "Rims.__init__" sInitR
  m_sEqR : FM K CR "__eq__" "Rims.__eq__" sEqR
  m_sStrR : FM K CR "__str__" "Rims.__str__" sStrR
structure ClsC (K : PySem.W.Frag) (mg : Str → Option Value) (C : Addr) : Prop where
  cl : Cls K C
  n1 : NoAttr K C "letters"
  n2 : NoAttr K C "length"
  n3 : NoAttr K C "kinds"
  n4 : NoAttr K C "is_short"
  n5 : NoAttr K C "is_short_round"
  ca : PySem.W.findIn K (.ref C) "__class__" = some (some (.builtin "object.__class__"))
  cm : PySem.W.mroIn K C (.type "object") = some true
  mks : PySem.W.makesIn K C = true
  kc : PySem.W.keepIn K (.ref C) = true
  mgC : mg "Word" = some (.ref C)
  cn : PySem.W.specialIn K (.builtin "object.__class__") "__get__" = some (some (.builtin "getset_descriptor.__get__"))
  ct : PySem.W.takesIn K (.builtin "object.__class__") = some true
structure ClsCR (K : PySem.W.Frag) (mg : Str → Option Value) (C : Addr) : Prop where
  cl : Cls K C
  n1 : NoAttr K C "words"
  n2 : NoAttr K C "letters"
  n3 : NoAttr K C "many"
  n4 : NoAttr K C "bands"
  n5 : NoAttr K C "is_short"
  n6 : NoAttr K C "homes"
  n7 : NoAttr K C "nexts"
  ca : PySem.W.findIn K (.ref C) "__class__" = some (some (.builtin "object.__class__"))
  cm : PySem.W.mroIn K C (.type "object") = some true
  mks : PySem.W.makesIn K C = true
  kc : PySem.W.keepIn K (.ref C) = true
  mgC : mg "Rims" = some (.ref C)
theorem law_mk {P : Program} {w : World} {K : PySem.W.Frag} {mg : Str → Option Value} {base : Heap} {C CR CT fL : Addr} {fdL : FuncData} (N : Names mg) (D : Defs K mg C CR) (WC : ClsC K mg C) (WCR : ClsCR K mg CR) (SW : FS K C "read" "Word.read" sReadM) (SR : FS K CR "read" "Rims.read" sReadR) (ZT : ErrW K mg CT "BadText" "BadText.__init__" sInitT) (zl : PySem.W.findIn K (.ref CT) "line" = some none) (zi : PySem.W.findIn K (.ref CT) "item" = some none) (FL : Fun K "law" "law" sLaw fL fdL) : FnOk P w K mg base CX0 10 fL fdL ["_law_script"] (spLaw K) := by
  have tA : TxA mg := ⟨N.tuple, N.len⟩
  have tB : TxB mg := ⟨N.sorted, N.abs⟩
  have tC : TxC mg := ⟨N.kind, N.all⟩
  have tI : TxI mg := ⟨N.isinstance, N.int, N.bool, N.str, N.list, N.tuple⟩
  have tL : TxL mg := ⟨N.int, N.len, N.abs⟩
  have tR : TxR mg := ⟨N.words, N.places, N.range, N.enumerate⟩
  have tW : TxW K mg C := ⟨WC.cl, WC.n1, WC.n2, WC.n3, WC.n4, WC.n5, WC.ca, WC.cn, WC.ct, WC.cm, WC.mgC, N.most, N.isinstance, N.all⟩
  have tRC : TxRC K mg CR := ⟨WCR.cl, WCR.n1, WCR.n2, WCR.n3, WCR.n4, WCR.n5, WCR.n6, WCR.n7, WCR.mgC, WCR.ca, WCR.cm⟩
  have cInt : Cal P w K mg base "is_integer" 1 ["value"] spIsInt := D.d_sIsInt.cal (fun f fd F => ok_isInt F tI) (fun _ _ _ _ _ _ us hl => match us, hl with | [_], _ => rfl)
  have cWithin : Cal P w K mg base "is_within" 2 ["value", "least", "most"] spWithin := D.d_sWithin.cal (fun f fd F => ok_within F cInt) (fun _ _ _ _ _ _ us hl => match us, hl with | [_, _, _], _ => rfl)
  have cLetter : Cal P w K mg base "is_letter" 3 ["value"] spLetter := D.d_sLetter.cal (fun f fd F => ok_letter F cWithin tC) (fun _ _ _ _ _ _ us hl => match us, hl with | [_], _ => rfl)
  have cListE : Cal P w K mg base "is_listed" 1 ["value"] (spListE K) := D.d_sListed.cal (fun f fd F => ok_listE F tI) (fun _ _ _ _ _ _ us hl => match us, hl with | [_], _ => rfl)
  have cFew : Cal P w K mg base "need_few_letters" 1 ["many"] spFew := D.d_sFew.cal (fun f fd F => ok_few F tW) (fun _ _ _ _ _ _ us hl => match us, hl with | [_], _ => rfl)
  have cKinds : Cal P w K mg base "kinds_of" 1 ["letters"] (spKinds K) := D.d_sKinds.cal (fun f fd F => ok_kinds F tA tB) (fun _ _ _ _ _ _ us hl => match us, hl with | [_], _ => rfl)
  have cShr : Cal P w K mg base "shortened_letters" 1 ["letters"] (spShr K) := D.d_sShr.cal (fun f fd F => ok_shr F tA) (fun _ _ _ _ _ _ us hl => match us, hl with | [_], _ => rfl)
  have cRnd : Cal P w K mg base "rounded_letters" 2 ["letters"] (spRnd K) := D.d_sRnd.cal (fun f fd F => ok_rnd F cShr tA) (fun _ _ _ _ _ _ us hl => match us, hl with | [_], _ => rfl)
  have mW : MkW P w K mg base C := ⟨D.m_sInit.made rfl WC.mks WC.kc (fun f fd F => ok_init F tW tA cListE cLetter cFew cKinds cShr cRnd) (fun _ _ _ _ _ _ us hl => match us, hl with | [_, _], _ => rfl)⟩
  have cBal : Cal P w K mg base "balance_of" 2 ["letters"] (spBalOf K) := D.d_sBalOf.cal (fun f fd F => ok_balOf F tA cKinds) (fun _ _ _ _ _ _ us hl => match us, hl with | [_], _ => rfl)
  have cFilled : Cal P w K mg base "is_filled" 1 ["value"] (spFilled K C) := D.d_sFilled.cal (fun f fd F => ok_filled F tW) (fun _ _ _ _ _ _ us hl => match us, hl with | [_], _ => rfl)
  have cFewP : Cal P w K mg base "need_few_places" 1 ["many"] spFewP := D.d_sFewP.cal (fun f fd F => ok_fewP F tR) (fun _ _ _ _ _ _ us hl => match us, hl with | [_], _ => rfl)
  have cNeedB : Cal P w K mg base "need_balanced" 3 ["letters"] (spNeedB K) := D.d_sNeedB.cal (fun f fd F => ok_needB F cBal) (fun _ _ _ _ _ _ us hl => match us, hl with | [_], _ => rfl)
  have cNexts : Cal P w K mg base "nexts_of" 1 ["words"] (spNexts K C) := D.d_sNexts.cal (fun f fd F => ok_nexts F tW tA tR) (fun _ _ _ _ _ _ us hl => match us, hl with | [_], _ => rfl)
  have mR : MkR P w K mg base C CR := ⟨D.m_sInitR.made rfl WCR.mks WCR.kc (fun f fd F => ok_initR F tW tRC tA tR cListE cFilled cFewP cNeedB cNexts) (fun _ _ _ _ _ _ us hl => match us, hl with | [_, _], _ => rfl)⟩
  have eW : EqW P w K mg base C := by
    obtain ⟨f, oc, od, kV, doc, pm, cdv, ct, an, osl, a, i, l, c, kp⟩ := D.m_sEq.ex
    exact ⟨f, _, ok_eq (fun_mk l c kp) tW, a, i, (fun_mk l c kp).binds (fun _ _ _ _ _ _ us hl => match us, hl with | [_, _], _ => rfl)⟩
  have eR : EqR P w K mg base C CR := by
    obtain ⟨f, oc, od, kV, doc, pm, cdv, ct, an, osl, a, i, l, c, kp⟩ := D.m_sEqR.ex
    exact ⟨f, _, ok_eqR (fun_mk l c kp) tW tRC eW, a, i, (fun_mk l c kp).binds (fun _ _ _ _ _ _ us hl => match us, hl with | [_, _], _ => rfl)⟩
  have cLText : Cal P w K mg base "letter_text" 1 ["letter"] spLText := D.d_sLText.cal (fun f fd F => ok_lText F N.alph N.abs) (fun _ _ _ _ _ _ us hl => match us, hl with | [_], _ => rfl)
  have sW : MStr.Spe P w K mg base C "__str__" 2 (spStrM K C) := D.m_sStrM.spe (fun f fd F => ok_strM F tW cLText) (fun _ _ _ _ _ _ us hl => match us, hl with | [_], _ => rfl)
  have sR : MStr.Spe P w K mg base CR "__str__" 5 (spStrR K C CR) := D.m_sStrR.spe (fun f fd F => ok_strR F tRC N.str sW) (fun _ _ _ _ _ _ us hl => match us, hl with | [_], _ => rfl)
  have B : Both P w K mg base C CR := ⟨eW, eR, sW, sR⟩
  have ET : ErrC P w K mg base CT "BadText" ["self", "line", "item"] (spI2 CT) := by
    obtain ⟨f, oc, od, kV, doc, pm, cdv, ct, an, osl, a, i, l, c, kp⟩ := ZT.ini.ex
    exact ⟨ZT.oex, ⟨f, _, a, ZT.ty f a, ok_initT (fun_mk l c kp) ZT.oex zl zi, (fun_mk l c kp).binds (fun _ _ _ _ _ _ us hl => match us, hl with | [_, _, _], _ => rfl)⟩, ZT.g, ZT.xf, ZT.te⟩
  have cLOf : Cal P w K mg base "letter_of" 1 ["item"] spLOf := D.d_sLOf.cal (fun f fd F => ok_lOf F N.alph N.len) (fun _ _ _ _ _ _ us hl => match us, hl with | [_], _ => rfl)
  have cItems : CalX P w K mg base "items_of" 3 ["text"] (spItems CT) := D.d_sItems.calX (fun f fd F => ok_items F tI ET) (fun _ _ _ _ _ _ us hl => match us, hl with | [_], _ => rfl)
  have cTold : CalX P w K mg base "items_told" 4 ["text"] (spTold CT) := D.d_sTold.calX (fun f fd F => ok_told F cItems ET N.len) (fun _ _ _ _ _ _ us hl => match us, hl with | [_], _ => rfl)
  have cRows : CalX P w K mg base "rows_of" 3 ["items"] (spRows K CT) := D.d_sRows.calX (fun f fd F => ok_rows F tR tA cLOf ET) (fun _ _ _ _ _ _ us hl => match us, hl with | [_], _ => rfl)
  have mSW : SMx P w K mg base C "read" 6 ["text"] (spReadM K C CT) := SW.smx (fun f fd F => ok_readM F tW mW cTold cLOf ET N.enumerate) (fun _ _ _ _ _ _ us hl => match us, hl with | [_], _ => rfl)
  have mSR : SMx P w K mg base CR "read" 6 ["text"] (spReadR K C CR CT) := SR.smx (fun f fd F => ok_readR F tW tRC tA mW mR cItems cRows cBal ET) (fun _ _ _ _ _ _ us hl => match us, hl with | [_], _ => rfl)
  have cRead : CalX P w K mg base "_law_read" 7 ["_law_kind", "_law_text"] (spRead K C CR CT) := D.d_sRead.calX (fun f fd F => ok_read F tW tRC mSW mSR) (fun _ _ _ _ _ _ us hl => match us, hl with | [_, _], _ => rfl)
  have cHeard : Cal P w K mg base "_law_heard" 8 ["_law_kind", "_law_text"] spHeard := D.d_sHeard.cal (fun f fd F => ok_heard F ET zl zi cRead) (fun _ _ _ _ _ _ us hl => match us, hl with | [_, _], _ => rfl)
  have cHand : Cal P w K mg base "_law_hand" 1 ["_law_script"] (spHand K) := D.d_sJar.cal (fun f fd F => ok_hand F tL) (fun _ _ _ _ _ _ us hl => match us, hl with | [_], _ => rfl)
  have cTake : Cal P w K mg base "_law_take" 1 ["_law_hand_here", "_law_many"] spTake := D.d_sDraw.cal (fun f fd F => ok_take F tL) (fun _ _ _ _ _ _ us hl => match us, hl with | [_, _], _ => rfl)
  have cPick : Cal P w K mg base "_law_pick" 2 ["_law_hand_here", "_law_some"] spPick := D.d_sPick.cal (fun f fd F => ok_pick F cTake tL) (fun _ _ _ _ _ _ us hl => match us, hl with | [_, _], _ => rfl)
  have cLet : Cal P w K mg base "_law_letter" 1 ["_law_item"] spLet := D.d_sLet.cal (fun f fd F => ok_let F N.list N.len) (fun _ _ _ _ _ _ us hl => match us, hl with | [_], _ => rfl)
  have cWPl : Cal P w K mg base "_law_word_place" 2 ["_law_items"] (spPlace wordPl K) := D.d_sWPl.cal (fun f fd F => ok_wpl F cLet N.len N.enumerate) (fun _ _ _ _ _ _ us hl => match us, hl with | [_], _ => rfl)
  have cRPl : Cal P w K mg base "_law_rims_place" 2 ["_law_items"] (spPlace rimsPl K) := D.d_sRPl.cal (fun f fd F => ok_rpl F cLet N.len N.enumerate) (fun _ _ _ _ _ _ us hl => match us, hl with | [_], _ => rfl)
  have cPl : Cal P w K mg base "_law_place" 3 ["_law_kind", "_law_items"] (spPl K) := D.d_sPl.cal (fun f fd F => ok_pl F cWPl cRPl) (fun _ _ _ _ _ _ us hl => match us, hl with | [_, _], _ => rfl)
  have cTxt : Cal P w K mg base "_law_text_of" 1 ["_law_letter_here"] spTxt := D.d_sTxt.cal (fun f fd F => ok_txt F) (fun _ _ _ _ _ _ us hl => match us, hl with | [_], _ => rfl)
  have cLets : Cal P w K mg base "_law_letters" 3 ["_law_hand_here", "_law_many"] spLets := D.d_sLets.cal (fun f fd F => ok_lets F cTake cPick N.range) (fun _ _ _ _ _ _ us hl => match us, hl with | [_, _], _ => rfl)
  have cRight : Cal P w K mg base "_law_right" 4 ["_law_hand_here", "_law_kind"] spRight := D.d_sRight.cal (fun f fd F => ok_right F ⟨N.range, N.len, N.sorted, N.set⟩ cTake cPick cLets cTxt) (fun _ _ _ _ _ _ us hl => match us, hl with | [_, _], _ => rfl)
  have cBent : Cal P w K mg base "_law_bent" 3 ["_law_hand_here", "_law_items"] spBent := D.d_sBent.cal (fun f fd F => ok_bent F N.len cTake cPick) (fun _ _ _ _ _ _ us hl => match us, hl with | [_, _], _ => rfl)
  have cTold2 : Cal P w K mg base "_law_told" 2 ["_law_kind", "_law_value"] (spTold2 K C CR) := D.d_sTold2.cal (fun f fd F => ok_told2 F tW tRC N.enumerate cTxt) (fun _ _ _ _ _ _ us hl => match us, hl with | [_, _], _ => rfl)
  have cTR : Cal P w K mg base "_law_text_right" 9 ["_law_kind", "_law_text"] spTR := D.d_sTR.cal (fun f fd F => ok_tr F B N.str cPl cHeard cRead cTold2) (fun _ _ _ _ _ _ us hl => match us, hl with | [_, _], _ => rfl)
  exact ok_law FL N.range N.tuple ⟨cHand, cPick, cRight, cBent, cPl, cHeard, cTR⟩
theorem at_mk {l : PySem.W.OpenLaw} {w : World} {K : PySem.W.Frag} {h : Heap} {mg : Str → Option Value} {fa C CR CT : Addr} (X : K.In h) (G : h.Ns mainGlobals mg) (hfa : mg "law" = some (.ref fa)) (N : Names mg) (D : Defs K mg C CR) (WC : ClsC K mg C) (WCR : ClsCR K mg CR) (SW : FS K C "read" "Word.read" sReadM) (SR : FS K CR "read" "Rims.read" sReadR) (ZT : ErrW K mg CT "BadText" "BadText.__init__" sInitT) (zl : PySem.W.findIn K (.ref CT) "line" = some none) (zi : PySem.W.findIn K (.ref CT) "item" = some none) :
    ∃ fd : FuncData, (∀ (s : Shared) (v : Value), BindsTo s fd ⟨[v], []⟩ [("_law_script", v)]) ∧ ∀ base : Heap, K.In base → base.Ns mainGlobals mg → FnOk l.prog w K mg base CX0 10 fa fd ["_law_script"] (spLaw K) := by
  obtain ⟨f, oc, od, kV, doc, pm, cdv, ct, an, osl, lL, c, kp, m⟩ := D.d_sLaw.ex
  have e := hfa.symm.trans m
  cases e
  exact ⟨_, fun s v => .of_eq rfl, fun base _ _ => law_mk N D WC WCR SW SR ZT zl zi (fun_mk lL c kp)⟩
theorem walk {l : PySem.W.OpenLaw} {q : Program} {loose : List Str} {XP : (Str → Option Value) → Heap → Prop} {YP : World → Heap → Prop} {d : DefRec} {K : Params → PySem.W.Frag} (hn : l.most = some 63) (hdf : d.params.defaults = [])
    (hY : ∀ (w : World) (h : Heap), YP w h → (K w.params).In h)
    (F : ∀ (w : World) (mg : Str → Option Value) (fa : Addr) (h : Heap), (K w.params).In h → h.Ns mainGlobals mg → mg d.name = some (.ref fa) →
      ∃ fd : FuncData, (∀ (s : Shared) (u : Value), BindsTo s fd ⟨[u], []⟩ [("_law_script", u)]) ∧ ∀ base : Heap, (K w.params).In base → base.Ns mainGlobals mg → FnOk l.prog w (K w.params) mg base CX0 10 fa fd ["_law_script"] (spLaw (K w.params))) :
    PySem.W.WalkO q loose XP YP l.row.toRowW d [] (fun f vs => PySem.call f vs) :=
  L2.walk_of (n := 63) (k := 10) (x := "_law_script") (CX := fun _ => CX0) (sp := fun w => spLaw (K w.params)) hn (by decide) hdf ⟨rfl, by decide, by decide⟩ hY F (fun _ _ a ns hl _ hS => ⟨a, ns, rfl, hS, hl, fun _ => rfl⟩) fun _ _ _ _ _ z => z
end W03
set_option Elab.async false
set_option linter.all false
set_option maxRecDepth 100000
set_option maxHeartbeats 4000000
namespace W03
open PySem L2 PySem.Spec PyProof.Rows WR WB
theorem exm_two {K : PySem.W.Frag} {S U : Addr} {b : Bool} (g1 : PySem.W.subIn K (.ref U) (.type "BaseException") = some true) (g2 : PySem.W.isClsIn K U = true) (g3 : PySem.W.typeIn K (.ref U) = some (.type "type")) (h4 : PySem.W.subIn K (.ref S) (.ref U) = some b) :
    PySem.W.exmOne K (.ref S) (.ref U) = some b := by
  have e1 : (PySem.W.subIn K (.ref U) (.type "BaseException") == some true) = true := by rw [g1] <;> rfl
  have e2 : ((PySem.W.clsIn K U).isSome && PySem.W.typeIn K (.ref U) == some (.type "type")) = true := by
    have h2' : (PySem.W.clsIn K U).isSome = true := g2
    rw [h2', g3] <;> rfl
  show (if (PySem.W.subIn K (.ref U) (.type "BaseException") == some true) = true then (if ((PySem.W.clsIn K U).isSome && PySem.W.typeIn K (.ref U) == some (.type "type")) = true then PySem.W.subIn K (.ref S) (.ref U) else none) else none) = some b
  rw [if_pos e1, if_pos e2]
  exact h4
theorem err_mk {K : PySem.W.Frag} {h : Heap} {mg : Str → Option Value} {C f : Addr} {x q : Str} {st : Stmt} (X : K.In h) (G : h.Ns mainGlobals mg)
    {nm q2 : Str} {N : Addr} {bs bm : List Value} {sn : List Str} {sub : List Value} {ab : Bool} {col : Option Bool} {dd : Option Addr} {m0 m1 m2 m3 m5 : Option Value} {oc : Value} {od an : Option Addr} {kV doc pm cdv ct : Value} {osl : Array (Option Value)}
    (aC : PySem.W.nsIn K mainGlobals x = some (some (.ref C)))
    (xL : K.lookup C = some (excClassObj nm q2 C N bs bm true sn sub ab col dd m0 m1 m2 m3 m5 "ValueError.__new__")) (rv : PySem.HandSPX.refsVE bm = true)
    (sa : PySem.W.findIn K (.ref C) "__setattr__" = some (some (.builtin "object.__setattr__"))) (ga : PySem.W.findIn K (.ref C) "__getattribute__" = some (some (.builtin "BaseException.__getattribute__"))) (gg : PySem.W.findIn K (.ref C) "__getattr__" = some none)
    (i1 : PySem.W.findIn K (.ref C) "__init__" = some (some (.ref f))) (t1 : PySem.W.typeIn K (.ref f) = some (.type "function")) (fn : PySem.W.isFn K (.ref f) = true)
    (l1 : K.lookup f = some ⟨oc, od, .func (PySem.W.fnOf "__init__" q (defArgs st) (defBody st) (defScope st) .none kV doc pm an cdv ct), osl⟩) (c1 : PySem.W.codeIn K cdv q = true) (k1 : PySem.W.keepIn K (.ref f) = true)
    (kC : PySem.W.keepIn K (.ref C) = true) (eC : PySem.W.subIn K (.ref C) (.type "BaseException") = some true) (tC : PySem.W.typeIn K (.ref C) = some (.type "type")) (hC : PySem.W.hasDictIn K C = true) (iC : PySem.W.isClsIn K C = true) (sC : PySem.W.subIn K (.ref C) (.ref C) = some true) : ErrW K mg C x q st :=
  have O : OexC K C := ⟨⟨nm, q2, N, bs, bm, sn, sub, ab, col, dd, m0, m1, m2, m3, m5, xL, rv⟩, sa, eC, tC, kC⟩
  have F : XfC K C := ⟨ga, gg, eC, hC⟩
  ⟨O, F, ⟨f, oc, od, kV, doc, pm, cdv, ct, an, osl, i1, fn, l1, c1, k1⟩, fun f' e => by
    rw [i1] at e
    cases e
    exact t1, PySem.W.mg_of X G aC, exm_two eC iC tC sC⟩
theorem names_mk {K : PySem.W.Frag} {h : Heap} {mg : Str → Option Value} {u0 : Tok} {u1 : Tok} {u2 : Tok} {u3 : Tok} {u4 : Tok} (X : K.In h) (G : h.Ns mainGlobals mg)
    (n0 : PySem.W.nsIn K mainGlobals "isinstance" = some none) (n1 : PySem.W.nsIn K mainGlobals "int" = some none) (n2 : PySem.W.nsIn K mainGlobals "bool" = some none) (n3 : PySem.W.nsIn K mainGlobals "str" = some none) (n4 : PySem.W.nsIn K mainGlobals "list" = some none) (n5 : PySem.W.nsIn K mainGlobals "tuple" = some none) (n6 : PySem.W.nsIn K mainGlobals "all" = some none) (n7 : PySem.W.nsIn K mainGlobals "len" = some none) (n8 : PySem.W.nsIn K mainGlobals "abs" = some none) (n9 : PySem.W.nsIn K mainGlobals "range" = some none) (n10 : PySem.W.nsIn K mainGlobals "sorted" = some none) (n11 : PySem.W.nsIn K mainGlobals "set" = some none) (n12 : PySem.W.nsIn K mainGlobals "enumerate" = some none) (g0 : PySem.W.nsIn K mainGlobals "MOST_KIND" = some (some (.int 26 u0))) (g1 : PySem.W.nsIn K mainGlobals "MOST_LETTERS" = some (some (.int 500 u1))) (g2 : PySem.W.nsIn K mainGlobals "MOST_WORDS" = some (some (.int 4 u2))) (g3 : PySem.W.nsIn K mainGlobals "MOST_PLACES" = some (some (.int 24 u3))) (g4 : PySem.W.nsIn K mainGlobals "ALPHABET" = some (some (.str alphS u4))) : Names mg :=
  ⟨PySem.W.mg_none_of X G n0, PySem.W.mg_none_of X G n1, PySem.W.mg_none_of X G n2, PySem.W.mg_none_of X G n3, PySem.W.mg_none_of X G n4, PySem.W.mg_none_of X G n5, PySem.W.mg_none_of X G n6, PySem.W.mg_none_of X G n7, PySem.W.mg_none_of X G n8, PySem.W.mg_none_of X G n9, PySem.W.mg_none_of X G n10, PySem.W.mg_none_of X G n11, PySem.W.mg_none_of X G n12, ⟨_, PySem.W.mg_of X G g0⟩, ⟨_, PySem.W.mg_of X G g1⟩, ⟨_, PySem.W.mg_of X G g2⟩, ⟨_, PySem.W.mg_of X G g3⟩, ⟨_, PySem.W.mg_of X G g4⟩⟩
theorem cls_mkC {K : PySem.W.Frag} {h : Heap} {mg : Str → Option Value} {C : Addr} (X : K.In h) (G : h.Ns mainGlobals mg) (aC : PySem.W.nsIn K mainGlobals "Word" = some (some (.ref C)))
    (pg : PySem.W.plainGet K C Str.empty = true) (hd : PySem.W.hasDictIn K C = true) (po : PySem.W.plainOver K C = true) (sa : PySem.W.findIn K (.ref C) "__setattr__" = some (some (.builtin "object.__setattr__")))
    (n1 : PySem.W.findIn K (.ref C) "letters" = some none) (n2 : PySem.W.findIn K (.ref C) "length" = some none) (n3 : PySem.W.findIn K (.ref C) "kinds" = some none) (n4 : PySem.W.findIn K (.ref C) "is_short" = some none) (n5 : PySem.W.findIn K (.ref C) "is_short_round" = some none)
    (ca : PySem.W.findIn K (.ref C) "__class__" = some (some (.builtin "object.__class__"))) (cm : PySem.W.mroIn K C (.type "object") = some true) (mk : PySem.W.makesIn K C = true) (kc : PySem.W.keepIn K (.ref C) = true)
    (cn : PySem.W.specialIn K (.builtin "object.__class__") "__get__" = some (some (.builtin "getset_descriptor.__get__"))) (ct : PySem.W.takesIn K (.builtin "object.__class__") = some true) : ClsC K mg C :=
  ⟨⟨pg, hd, po, sa⟩, n1, n2, n3, n4, n5, ca, cm, mk, kc, PySem.W.mg_of X G aC, cn, ct⟩
theorem cls_mkCR {K : PySem.W.Frag} {h : Heap} {mg : Str → Option Value} {C : Addr} (X : K.In h) (G : h.Ns mainGlobals mg) (aC : PySem.W.nsIn K mainGlobals "Rims" = some (some (.ref C)))
    (pg : PySem.W.plainGet K C Str.empty = true) (hd : PySem.W.hasDictIn K C = true) (po : PySem.W.plainOver K C = true) (sa : PySem.W.findIn K (.ref C) "__setattr__" = some (some (.builtin "object.__setattr__")))
    (n1 : PySem.W.findIn K (.ref C) "words" = some none) (n2 : PySem.W.findIn K (.ref C) "letters" = some none) (n3 : PySem.W.findIn K (.ref C) "many" = some none) (n4 : PySem.W.findIn K (.ref C) "bands" = some none) (n5 : PySem.W.findIn K (.ref C) "is_short" = some none) (n6 : PySem.W.findIn K (.ref C) "homes" = some none) (n7 : PySem.W.findIn K (.ref C) "nexts" = some none)
    (ca : PySem.W.findIn K (.ref C) "__class__" = some (some (.builtin "object.__class__"))) (cm : PySem.W.mroIn K C (.type "object") = some true) (mk : PySem.W.makesIn K C = true) (kc : PySem.W.keepIn K (.ref C) = true) : ClsCR K mg C :=
  ⟨⟨pg, hd, po, sa⟩, n1, n2, n3, n4, n5, n6, n7, ca, cm, mk, kc, PySem.W.mg_of X G aC⟩
end W03

open PySem PySem.W PyProof.Rows in
set_option maxRecDepth 100000 in
set_option maxHeartbeats 0 in
theorem PySem.Challenge.cw_handlerims_k03_texts_bent_at_any_item_holds : PySem.Challenge.rw_handlerims_k03_texts_bent_at_any_item.Holds := by
  w_on; o_law; k_head; (case hw => w_witness2)
  k_fill
  refine W03.walk (l := PySem.Challenge.rw_handlerims_k03_texts_bent_at_any_item) rfl rfl (fun w h Y => PySem.W.kIn_of Y) ?F
  case F =>
    intro w mg fa h KX G hmg
    have hN : W03.Names mg := by
      refine' W03.names_mk KX G ?q_n0 ?q_n1 ?q_n2 ?q_n3 ?q_n4 ?q_n5 ?q_n6 ?q_n7 ?q_n8 ?q_n9 ?q_n10 ?q_n11 ?q_n12 ?q_g0 ?q_g1 ?q_g2 ?q_g3 ?q_g4
      (case q_n0 => k_is)
      (case q_n1 => k_is)
      (case q_n2 => k_is)
      (case q_n3 => k_is)
      (case q_n4 => k_is)
      (case q_n5 => k_is)
      (case q_n6 => k_is)
      (case q_n7 => k_is)
      (case q_n8 => k_is)
      (case q_n9 => k_is)
      (case q_n10 => k_is)
      (case q_n11 => k_is)
      (case q_n12 => k_is)
      (case q_g0 => k_is)
      (case q_g1 => k_is)
      (case q_g2 => k_is)
      (case q_g3 => k_is)
      (case q_g4 => k_is)
    refine' W03.at_mk KX G hmg hN ?q_D ?q_WC ?q_WCR (W03.fs_mk ?q_srd ?q_sga ?q_sat ?q_src ?q_skp ?q_sl ?q_sc) (W03.fs_mk ?q_trd ?q_tga ?q_tat ?q_trc ?q_tkp ?q_tl ?q_tc) (W03.err_mk KX G ?q_eaC ?q_exL ?q_erv ?q_esa ?q_ega ?q_egg ?q_ei1 ?q_et1 ?q_efn ?q_el1 ?q_ec1 ?q_ek1 ?q_ekC ?q_eeC ?q_etC ?q_ehC ?q_eiC ?q_esC) ?q_zl ?q_zi
    case q_WC =>
      refine' W03.cls_mkC KX G ?q_CaC ?q_Cpg ?q_Chd ?q_Cpo ?q_Csa ?q_Cn1 ?q_Cn2 ?q_Cn3 ?q_Cn4 ?q_Cn5 ?q_Cca ?q_Ccm ?q_Cmk ?q_Ckc ?q_Ccn ?q_Cct
      (case q_CaC => first | k_is | kernel_rfl)
      (case q_Cpg => first | k_is | kernel_rfl)
      (case q_Chd => first | k_is | kernel_rfl)
      (case q_Cpo => first | k_is | kernel_rfl)
      (case q_Csa => first | k_is | kernel_rfl)
      (case q_Cn1 => first | k_is | kernel_rfl)
      (case q_Cn2 => first | k_is | kernel_rfl)
      (case q_Cn3 => first | k_is | kernel_rfl)
      (case q_Cn4 => first | k_is | kernel_rfl)
      (case q_Cn5 => first | k_is | kernel_rfl)
      (case q_Cca => first | k_is | kernel_rfl)
      (case q_Ccm => first | k_is | kernel_rfl)
      (case q_Cmk => first | k_is | kernel_rfl)
      (case q_Ckc => first | k_is | kernel_rfl)
      (case q_Ccn => first | k_is | kernel_rfl)
      (case q_Cct => first | k_is | kernel_rfl)
    case q_WCR =>
      refine' W03.cls_mkCR KX G ?q_CRaC ?q_CRpg ?q_CRhd ?q_CRpo ?q_CRsa ?q_CRn1 ?q_CRn2 ?q_CRn3 ?q_CRn4 ?q_CRn5 ?q_CRn6 ?q_CRn7 ?q_CRca ?q_CRcm ?q_CRmk ?q_CRkc
      (case q_CRaC => first | k_is | kernel_rfl)
      (case q_CRpg => first | k_is | kernel_rfl)
      (case q_CRhd => first | k_is | kernel_rfl)
      (case q_CRpo => first | k_is | kernel_rfl)
      (case q_CRsa => first | k_is | kernel_rfl)
      (case q_CRn1 => first | k_is | kernel_rfl)
      (case q_CRn2 => first | k_is | kernel_rfl)
      (case q_CRn3 => first | k_is | kernel_rfl)
      (case q_CRn4 => first | k_is | kernel_rfl)
      (case q_CRn5 => first | k_is | kernel_rfl)
      (case q_CRn6 => first | k_is | kernel_rfl)
      (case q_CRn7 => first | k_is | kernel_rfl)
      (case q_CRca => first | k_is | kernel_rfl)
      (case q_CRcm => first | k_is | kernel_rfl)
      (case q_CRmk => first | k_is | kernel_rfl)
      (case q_CRkc => first | k_is | kernel_rfl)
    case q_D =>
      refine' { d_sIsInt := W03.ff_mk KX G ?q_a0 ?q_l0 ?q_c0 ?q_k0, d_sWithin := W03.ff_mk KX G ?q_a1 ?q_l1 ?q_c1 ?q_k1, d_sLetter := W03.ff_mk KX G ?q_a2 ?q_l2 ?q_c2 ?q_k2, d_sListed := W03.ff_mk KX G ?q_a3 ?q_l3 ?q_c3 ?q_k3, d_sShr := W03.ff_mk KX G ?q_a4 ?q_l4 ?q_c4 ?q_k4, d_sRnd := W03.ff_mk KX G ?q_a5 ?q_l5 ?q_c5 ?q_k5, d_sKinds := W03.ff_mk KX G ?q_a6 ?q_l6 ?q_c6 ?q_k6, d_sBalOf := W03.ff_mk KX G ?q_a7 ?q_l7 ?q_c7 ?q_k7, d_sLText := W03.ff_mk KX G ?q_a8 ?q_l8 ?q_c8 ?q_k8, d_sLOf := W03.ff_mk KX G ?q_a9 ?q_l9 ?q_c9 ?q_k9, d_sItems := W03.ff_mk KX G ?q_a10 ?q_l10 ?q_c10 ?q_k10, d_sTold := W03.ff_mk KX G ?q_a11 ?q_l11 ?q_c11 ?q_k11, d_sFilled := W03.ff_mk KX G ?q_a12 ?q_l12 ?q_c12 ?q_k12, d_sFew := W03.ff_mk KX G ?q_a13 ?q_l13 ?q_c13 ?q_k13, d_sNeedB := W03.ff_mk KX G ?q_a14 ?q_l14 ?q_c14 ?q_k14, d_sFewP := W03.ff_mk KX G ?q_a15 ?q_l15 ?q_c15 ?q_k15, d_sNexts := W03.ff_mk KX G ?q_a16 ?q_l16 ?q_c16 ?q_k16, d_sRows := W03.ff_mk KX G ?q_a17 ?q_l17 ?q_c17 ?q_k17, d_sJar := W03.ff_mk KX G ?q_a18 ?q_l18 ?q_c18 ?q_k18, d_sDraw := W03.ff_mk KX G ?q_a19 ?q_l19 ?q_c19 ?q_k19, d_sPick := W03.ff_mk KX G ?q_a20 ?q_l20 ?q_c20 ?q_k20, d_sLet := W03.ff_mk KX G ?q_a21 ?q_l21 ?q_c21 ?q_k21, d_sWPl := W03.ff_mk KX G ?q_a22 ?q_l22 ?q_c22 ?q_k22, d_sRPl := W03.ff_mk KX G ?q_a23 ?q_l23 ?q_c23 ?q_k23, d_sPl := W03.ff_mk KX G ?q_a24 ?q_l24 ?q_c24 ?q_k24, d_sTxt := W03.ff_mk KX G ?q_a25 ?q_l25 ?q_c25 ?q_k25, d_sLets := W03.ff_mk KX G ?q_a26 ?q_l26 ?q_c26 ?q_k26, d_sRight := W03.ff_mk KX G ?q_a27 ?q_l27 ?q_c27 ?q_k27, d_sBent := W03.ff_mk KX G ?q_a28 ?q_l28 ?q_c28 ?q_k28, d_sRead := W03.ff_mk KX G ?q_a29 ?q_l29 ?q_c29 ?q_k29, d_sHeard := W03.ff_mk KX G ?q_a30 ?q_l30 ?q_c30 ?q_k30, d_sTold2 := W03.ff_mk KX G ?q_a31 ?q_l31 ?q_c31 ?q_k31, d_sTR := W03.ff_mk KX G ?q_a32 ?q_l32 ?q_c32 ?q_k32, d_sLaw := W03.ff_mk KX G ?q_a33 ?q_l33 ?q_c33 ?q_k33, m_sInit := W03.fm_mk ?q_ma0 ?q_mi0 ?q_ml0 ?q_mc0 ?q_mk0, m_sEq := W03.fm_mk ?q_ma1 ?q_mi1 ?q_ml1 ?q_mc1 ?q_mk1, m_sStrM := W03.fm_mk ?q_ma2 ?q_mi2 ?q_ml2 ?q_mc2 ?q_mk2, m_sInitR := W03.fm_mk ?q_ma3 ?q_mi3 ?q_ml3 ?q_mc3 ?q_mk3, m_sEqR := W03.fm_mk ?q_ma4 ?q_mi4 ?q_ml4 ?q_mc4 ?q_mk4, m_sStrR := W03.fm_mk ?q_ma5 ?q_mi5 ?q_ml5 ?q_mc5 ?q_mk5 }
      (case q_a0 => k_is); (case q_l0 => k_is); (case q_c0 => k_is); (case q_k0 => k_is)
      (case q_a1 => k_is); (case q_l1 => k_is); (case q_c1 => k_is); (case q_k1 => k_is)
      (case q_a2 => k_is); (case q_l2 => k_is); (case q_c2 => k_is); (case q_k2 => k_is)
      (case q_a3 => k_is); (case q_l3 => k_is); (case q_c3 => k_is); (case q_k3 => k_is)
      (case q_a4 => k_is); (case q_l4 => k_is); (case q_c4 => k_is); (case q_k4 => k_is)
      (case q_a5 => k_is); (case q_l5 => k_is); (case q_c5 => k_is); (case q_k5 => k_is)
      (case q_a6 => k_is); (case q_l6 => k_is); (case q_c6 => k_is); (case q_k6 => k_is)
      (case q_a7 => k_is); (case q_l7 => k_is); (case q_c7 => k_is); (case q_k7 => k_is)
      (case q_a8 => k_is); (case q_l8 => k_is); (case q_c8 => k_is); (case q_k8 => k_is)
      (case q_a9 => k_is); (case q_l9 => k_is); (case q_c9 => k_is); (case q_k9 => k_is)
      (case q_a10 => k_is); (case q_l10 => k_is); (case q_c10 => k_is); (case q_k10 => k_is)
      (case q_a11 => k_is); (case q_l11 => k_is); (case q_c11 => k_is); (case q_k11 => k_is)
      (case q_a12 => k_is); (case q_l12 => k_is); (case q_c12 => k_is); (case q_k12 => k_is)
      (case q_a13 => k_is); (case q_l13 => k_is); (case q_c13 => k_is); (case q_k13 => k_is)
      (case q_a14 => k_is); (case q_l14 => k_is); (case q_c14 => k_is); (case q_k14 => k_is)
      (case q_a15 => k_is); (case q_l15 => k_is); (case q_c15 => k_is); (case q_k15 => k_is)
      (case q_a16 => k_is); (case q_l16 => k_is); (case q_c16 => k_is); (case q_k16 => k_is)
      (case q_a17 => k_is); (case q_l17 => k_is); (case q_c17 => k_is); (case q_k17 => k_is)
      (case q_a18 => k_is); (case q_l18 => k_is); (case q_c18 => k_is); (case q_k18 => k_is)
      (case q_a19 => k_is); (case q_l19 => k_is); (case q_c19 => k_is); (case q_k19 => k_is)
      (case q_a20 => k_is); (case q_l20 => k_is); (case q_c20 => k_is); (case q_k20 => k_is)
      (case q_a21 => k_is); (case q_l21 => k_is); (case q_c21 => k_is); (case q_k21 => k_is)
      (case q_a22 => k_is); (case q_l22 => k_is); (case q_c22 => k_is); (case q_k22 => k_is)
      (case q_a23 => k_is); (case q_l23 => k_is); (case q_c23 => k_is); (case q_k23 => k_is)
      (case q_a24 => k_is); (case q_l24 => k_is); (case q_c24 => k_is); (case q_k24 => k_is)
      (case q_a25 => k_is); (case q_l25 => k_is); (case q_c25 => k_is); (case q_k25 => k_is)
      (case q_a26 => k_is); (case q_l26 => k_is); (case q_c26 => k_is); (case q_k26 => k_is)
      (case q_a27 => k_is); (case q_l27 => k_is); (case q_c27 => k_is); (case q_k27 => k_is)
      (case q_a28 => k_is); (case q_l28 => k_is); (case q_c28 => k_is); (case q_k28 => k_is)
      (case q_a29 => k_is); (case q_l29 => k_is); (case q_c29 => k_is); (case q_k29 => k_is)
      (case q_a30 => k_is); (case q_l30 => k_is); (case q_c30 => k_is); (case q_k30 => k_is)
      (case q_a31 => k_is); (case q_l31 => k_is); (case q_c31 => k_is); (case q_k31 => k_is)
      (case q_a32 => k_is); (case q_l32 => k_is); (case q_c32 => k_is); (case q_k32 => k_is)
      (case q_a33 => k_is); (case q_l33 => k_is); (case q_c33 => k_is); (case q_k33 => k_is)
      (case q_ma0 => k_is); (case q_mi0 => k_is); (case q_ml0 => k_is); (case q_mc0 => k_is); (case q_mk0 => k_is)
      (case q_ma1 => k_is); (case q_mi1 => k_is); (case q_ml1 => k_is); (case q_mc1 => k_is); (case q_mk1 => k_is)
      (case q_ma2 => k_is); (case q_mi2 => k_is); (case q_ml2 => k_is); (case q_mc2 => k_is); (case q_mk2 => k_is)
      (case q_ma3 => k_is); (case q_mi3 => k_is); (case q_ml3 => k_is); (case q_mc3 => k_is); (case q_mk3 => k_is)
      (case q_ma4 => k_is); (case q_mi4 => k_is); (case q_ml4 => k_is); (case q_mc4 => k_is); (case q_mk4 => k_is)
      (case q_ma5 => k_is); (case q_mi5 => k_is); (case q_ml5 => k_is); (case q_mc5 => k_is); (case q_mk5 => k_is)
    (case q_sat => first | k_is | kernel_rfl | rfl)
    (case q_srd => first | k_is | kernel_rfl | rfl)
    (case q_sga => first | k_is | kernel_rfl | rfl)
    (case q_src => first | k_is | kernel_rfl | rfl)
    (case q_skp => first | k_is | kernel_rfl | rfl)
    (case q_sl => first | k_is | kernel_rfl | rfl)
    (case q_sc => first | k_is | kernel_rfl | rfl)
    (case q_tat => first | k_is | kernel_rfl | rfl)
    (case q_trd => first | k_is | kernel_rfl | rfl)
    (case q_tga => first | k_is | kernel_rfl | rfl)
    (case q_trc => first | k_is | kernel_rfl | rfl)
    (case q_tkp => first | k_is | kernel_rfl | rfl)
    (case q_tl => first | k_is | kernel_rfl | rfl)
    (case q_tc => first | k_is | kernel_rfl | rfl)
    (case q_eaC => first | k_is | kernel_rfl | rfl)
    (case q_exL => first | k_is | kernel_rfl | rfl)
    (case q_erv => first | k_is | kernel_rfl | rfl)
    (case q_esa => first | k_is | kernel_rfl | rfl)
    (case q_ega => first | k_is | kernel_rfl | rfl)
    (case q_egg => first | k_is | kernel_rfl | rfl)
    (case q_ei1 => first | k_is | kernel_rfl | rfl)
    (case q_et1 => first | k_is | kernel_rfl | rfl)
    (case q_efn => first | k_is | kernel_rfl | rfl)
    (case q_el1 => first | k_is | kernel_rfl | rfl)
    (case q_ec1 => first | k_is | kernel_rfl | rfl)
    (case q_ek1 => first | k_is | kernel_rfl | rfl)
    (case q_ekC => first | k_is | kernel_rfl | rfl)
    (case q_eeC => first | k_is | kernel_rfl | rfl)
    (case q_etC => first | k_is | kernel_rfl | rfl)
    (case q_ehC => first | k_is | kernel_rfl | rfl)
    (case q_eiC => first | k_is | kernel_rfl | rfl)
    (case q_esC => first | k_is | kernel_rfl | rfl)
    (case q_zl => first | k_is | kernel_rfl | rfl)
    (case q_zi => first | k_is | kernel_rfl | rfl)
