import PyProof.Rows.All
import Wide.All
import OpenK.AllK
import Wide.FinOn
import HandS.ForMost
import HandS.Strs
import HandS.SetBool
import HandS.TupAny
import HandS.TupMul
import KE.KRevSl
import HandS.Exc
import HandS.TryOnly
import HandS.ExcOwn
import HandS.WordsExc
import HandS.Wide
import HandS.IsInst
import HandS.Style
import HandS.Flow
import HandS.Evl
import HandS.MakeKwOnly
import HandS.Walk
import KE.KEqSeq
import HandS.OwnEq
import HandS.More
import PyProof.InstNe
import HandS.ClsMeth
import OpenK.KDescr
import KE.KCallOwn
import PyProof.StrLawsChain
import HandS.Codes
import PyProof.ReprRoads
import HandS.SetFor
import HandS.SetKeys
import HandS.Dict
import HandS.Iter
import HandS.Deep
import HandS.ReCall
import HandS.Conv
import HandS.TupSets
import PySem.Challenge.RW_handlerims_k04_words_made_read_put_behin
set_option Elab.async false
set_option linter.all false
/-! Rows of letters, shortened: neighbours that are contraries taken out. -/
namespace Fr

/-- a letter laid on what is left, its last one in front -/
def push : List Int → Int → List Int
  | [], a => [a]
  | b :: t, a => if b = -a then t else a :: b :: t

def act (s : List Int) (xs : List Int) : List Int := xs.foldl push s

/-- no neighbours are contraries -/
def Rd : List Int → Prop
  | [] => True
  | [_] => True
  | a :: b :: t => a ≠ -b ∧ Rd (b :: t)

/-- what is left of a row of letters -/
def shr (xs : List Int) : List Int := (act [] xs).reverse

/-- the contraries, the last one first -/
def con (xs : List Int) : List Int := xs.reverse.map (fun a => -a)

/-- so many times -/
def rep : Nat → List Int → List Int
  | 0, _ => []
  | n + 1, xs => xs ++ rep n xs

theorem Rd.tail {a : Int} {t : List Int} (h : Rd (a :: t)) : Rd t := by
  cases t with
  | nil => trivial
  | cons b u => exact h.2

theorem push_rd {s : List Int} (a : Int) (h : Rd s) : Rd (push s a) := by
  cases s with
  | nil => trivial
  | cons b t =>
    show Rd (if b = -a then t else a :: b :: t)
    by_cases e : b = -a
    · rw [if_pos e]; exact h.tail
    · rw [if_neg e]
      refine ⟨?_, h⟩
      omega

theorem push_push {s : List Int} (a : Int) (h : Rd s) : push (push s a) (-a) = s := by
  cases s with
  | nil => simp [push]
  | cons b t =>
    by_cases e : b = -a
    · have h1 : push (b :: t) a = t := by simp [push, e]
      rw [h1]
      cases t with
      | nil => simp [push, e]
      | cons c u =>
        have hc : c ≠ - -a := by
          intro hc
          exact h.1 (by omega)
        simp [push, e]
        omega
    · have h1 : push (b :: t) a = a :: b :: t := by simp [push, e]
      rw [h1]
      simp [push]

theorem push_push' {s : List Int} (a : Int) (h : Rd s) : push (push s (-a)) a = s := by
  have := push_push (-a) h
  rwa [Int.neg_neg] at this

theorem act_nil (s : List Int) : act s [] = s := rfl
theorem act_cons (s : List Int) (a : Int) (t : List Int) : act s (a :: t) = act (push s a) t := rfl
theorem act_append (s xs ys : List Int) : act s (xs ++ ys) = act (act s xs) ys := List.foldl_append
theorem act_snoc (s xs : List Int) (a : Int) : act s (xs ++ [a]) = push (act s xs) a := act_append s xs [a]

theorem act_rd : ∀ {xs s : List Int}, Rd s → Rd (act s xs)
  | [], _, h => h
  | a :: t, _, h => act_rd (xs := t) (push_rd a h)

/-- two rows are one and the same when they act alike -/
def Sm (xs ys : List Int) : Prop := ∀ s, Rd s → act s xs = act s ys

theorem Sm.refl (xs : List Int) : Sm xs xs := fun _ _ => rfl
theorem Sm.symm {xs ys : List Int} (h : Sm xs ys) : Sm ys xs := fun s r => (h s r).symm
theorem Sm.trans {xs ys zs : List Int} (h : Sm xs ys) (k : Sm ys zs) : Sm xs zs := fun s r => (h s r).trans (k s r)
theorem Sm.app {xs ys us vs : List Int} (h : Sm xs ys) (k : Sm us vs) : Sm (xs ++ us) (ys ++ vs) := fun s r => by
  rw [act_append, act_append, h s r, k _ (act_rd r)]
theorem Sm.out (a : Int) : Sm [a, -a] [] := fun s r => push_push a r
theorem Sm.out' (a : Int) : Sm [-a, a] [] := fun s r => push_push' a r
theorem Sm.mid {xs us vs ys : List Int} (h : Sm us vs) : Sm (xs ++ us ++ ys) (xs ++ vs ++ ys) := ((Sm.refl xs).app h).app (Sm.refl ys)

/-- what is left acts as the whole did -/
theorem sm_stack : ∀ xs : List Int, Sm (act [] xs).reverse xs := by
  intro xs
  have gen : ∀ (n : Nat) (xs : List Int), xs.length = n → Sm (act [] xs).reverse xs := by
    intro n
    induction n with
    | zero =>
      intro xs h
      cases xs with
      | nil => exact Sm.refl _
      | cons a t => simp at h
    | succ n ih =>
      intro xs h
      obtain ⟨ys, a, rfl⟩ : ∃ ys a, xs = ys ++ [a] := by
        refine ⟨xs.dropLast, xs.getLast (by intro e; rw [e] at h; simp at h), ?_⟩
        exact (List.dropLast_concat_getLast _).symm
      have hy : ys.length = n := by simp at h; exact h
      have k := ih ys hy
      intro s r
      rw [act_snoc, act_snoc]
      cases e : act [] ys with
      | nil =>
        have k2 := k s r
        rw [e] at k2
        rw [← k2]
        rfl
      | cons b t =>
        have k2 := k s r
        rw [e, List.reverse_cons, act_snoc] at k2
        rw [← k2]
        by_cases eb : b = -a
        · have h1 : push (b :: t) a = t := by simp [push, eb]
          rw [h1, eb]
          exact (push_push' a (act_rd r)).symm
        · have h1 : push (b :: t) a = a :: b :: t := by simp [push, eb]
          rw [h1, List.reverse_cons, List.reverse_cons, act_snoc, act_snoc]
  exact gen _ xs rfl

theorem sm_shr (xs : List Int) : Sm (shr xs) xs := sm_stack xs
theorem shr_of_sm {xs ys : List Int} (h : Sm xs ys) : shr xs = shr ys := by
  unfold shr
  rw [h [] trivial]
theorem sm_of_shr {xs ys : List Int} (h : shr xs = shr ys) : Sm xs ys := by
  refine (sm_shr xs).symm.trans ?_
  rw [h]
  exact sm_shr ys
theorem shr_shr (xs : List Int) : shr (shr xs) = shr xs := shr_of_sm (sm_shr xs)
theorem shr_app (xs ys : List Int) : shr (shr xs ++ shr ys) = shr (xs ++ ys) := shr_of_sm ((sm_shr xs).app (sm_shr ys))
theorem shr_out (xs : List Int) (a : Int) (ys : List Int) : shr (xs ++ a :: -a :: ys) = shr (xs ++ ys) := by
  refine shr_of_sm ?_
  have h : Sm (xs ++ [a, -a] ++ ys) (xs ++ [] ++ ys) := Sm.mid (Sm.out a)
  simpa using h

/-! ### short ones -/
theorem rd_cons {a : Int} {t : List Int} : Rd (a :: t) ↔ (∀ b, t.head? = some b → a ≠ -b) ∧ Rd t := by
  cases t with
  | nil => simp [Rd]
  | cons b u => simp [Rd]
theorem rd_append {xs ys : List Int} : Rd (xs ++ ys) ↔ Rd xs ∧ Rd ys ∧ ∀ a b, xs.getLast? = some a → ys.head? = some b → a ≠ -b := by
  induction xs with
  | nil => simp [Rd]
  | cons x t ih =>
    rw [List.cons_append, rd_cons, rd_cons, ih]
    cases t with
    | nil =>
      simp [Rd]
      constructor
      · rintro ⟨h1, h2⟩
        exact ⟨h2, fun a b ha hb => ha ▸ h1 b hb⟩
      · rintro ⟨h1, h2⟩
        exact ⟨fun b hb => h2 x b rfl hb, h1⟩
    | cons y u =>
      simp [List.getLast?_cons_cons]
      constructor
      · rintro ⟨h1, h2, h3, h4⟩
        exact ⟨⟨h1, h2⟩, h3, h4⟩
      · rintro ⟨⟨h1, h2⟩, h3, h4⟩
        exact ⟨h1, h2, h3, h4⟩
theorem rd_reverse {xs : List Int} : Rd xs.reverse ↔ Rd xs := by
  induction xs with
  | nil => simp [Rd]
  | cons x t ih =>
    rw [List.reverse_cons, rd_append, ih, rd_cons (a := x) (t := t)]
    have one : Rd [x] := trivial
    simp [one]
    constructor
    · rintro ⟨h1, h2⟩
      refine ⟨fun b hb => ?_, h1⟩
      have := h2 b hb
      omega
    · rintro ⟨h1, h2⟩
      refine ⟨h2, fun b hb => ?_⟩
      have := h1 b hb
      omega
theorem rd_shr (xs : List Int) : Rd (shr xs) := rd_reverse.2 (act_rd trivial)
theorem act_short : ∀ (xs s : List Int), Rd (s.reverse ++ xs) → act s xs = xs.reverse ++ s
  | [], s, _ => by simp [act]
  | a :: t, s, h => by
    rw [act_cons]
    have hp : push s a = a :: s := by
      cases s with
      | nil => rfl
      | cons b u =>
        have h3 := (rd_append.1 h).2.2 b a (by simp) (by simp)
        show (if b = -a then u else a :: b :: u) = _
        rw [if_neg h3]
    rw [hp, act_short t (a :: s) (by simpa using h)]
    simp
theorem shr_short {xs : List Int} (h : Rd xs) : shr xs = xs := by
  unfold shr
  rw [act_short xs [] (by simpa using h)]
  simp
theorem shr_iff {xs : List Int} : shr xs = xs ↔ Rd xs := ⟨fun h => h ▸ rd_shr xs, shr_short⟩
/-- a short one that acts alike is what is left -/
theorem shr_eq {xs ys : List Int} (h : Sm xs ys) (r : Rd ys) : shr xs = ys := (shr_of_sm h).trans (shr_short r)

/-! ### contraries -/
theorem con_nil : con [] = [] := rfl
theorem con_cons (a : Int) (t : List Int) : con (a :: t) = con t ++ [-a] := by simp [con]
theorem con_append (xs ys : List Int) : con (xs ++ ys) = con ys ++ con xs := by simp [con]
theorem con_con (xs : List Int) : con (con xs) = xs := by
  simp [con, List.map_reverse, Function.comp_def]
theorem con_length (xs : List Int) : (con xs).length = xs.length := by simp [con]
theorem con_head (xs : List Int) : (con xs).head? = xs.getLast?.map fun a => -a := by
  simp [con]
theorem con_last (xs : List Int) : (con xs).getLast? = xs.head?.map fun a => -a := by
  simp [con, List.map_reverse]
theorem sm_con : ∀ xs : List Int, Sm (xs ++ con xs) []
  | [] => Sm.refl _
  | a :: t => by
    rw [con_cons]
    have h : Sm ([a] ++ (t ++ con t) ++ [-a]) ([a] ++ [] ++ [-a]) := Sm.mid (sm_con t)
    have k : Sm ([a] ++ [] ++ [-a]) [] := Sm.out a
    have := h.trans k
    simpa using this
theorem sm_con' (xs : List Int) : Sm (con xs ++ xs) [] := by
  have := sm_con (con xs)
  rwa [con_con] at this
theorem Sm.con {xs ys : List Int} (h : Sm xs ys) : Sm (con xs) (con ys) := by
  have h1 : Sm (Fr.con xs ++ (ys ++ Fr.con ys)) (Fr.con xs ++ []) := (Sm.refl _).app (sm_con ys)
  have h2 : Sm (Fr.con xs ++ ys ++ Fr.con ys) (Fr.con xs ++ xs ++ Fr.con ys) := Sm.mid h.symm
  have h3 : Sm (Fr.con xs ++ xs ++ Fr.con ys) ([] ++ Fr.con ys) := (sm_con' xs).app (Sm.refl _)
  rw [List.append_nil, ← List.append_assoc] at h1
  exact (h1.symm.trans h2).trans h3
theorem rd_con {xs : List Int} : Rd (con xs) ↔ Rd xs := by
  have one : ∀ xs : List Int, Rd xs → Rd (con xs) := by
    intro xs
    induction xs with
    | nil => exact fun _ => trivial
    | cons a t ih =>
      intro h
      rw [con_cons, rd_append]
      refine ⟨ih h.tail, trivial, fun x y hx hy => ?_⟩
      rw [con_last] at hx
      cases t with
      | nil => simp at hx
      | cons b u =>
        simp at hx hy
        have := h.1
        omega
  refine ⟨fun h => ?_, one xs⟩
  have := one _ h
  rwa [con_con] at this
theorem shr_con (xs : List Int) : shr (con xs) = con (shr xs) := shr_eq (sm_shr xs).con.symm (rd_con.2 (rd_shr xs))

/-! ### so many times -/
theorem rep_zero (xs : List Int) : rep 0 xs = [] := rfl
theorem rep_succ (n : Nat) (xs : List Int) : rep (n + 1) xs = xs ++ rep n xs := rfl
theorem rep_one (xs : List Int) : rep 1 xs = xs := by simp [rep]
theorem rep_add (m n : Nat) (xs : List Int) : rep (m + n) xs = rep m xs ++ rep n xs := by
  induction m with
  | zero => simp [rep]
  | succ m ih => rw [Nat.succ_add, rep_succ, rep_succ, ih, List.append_assoc]
theorem rep_length (n : Nat) (xs : List Int) : (rep n xs).length = n * xs.length := by
  induction n with
  | zero => simp [rep]
  | succ n ih => rw [rep_succ, List.length_append, ih, Nat.succ_mul, Nat.add_comm]
theorem rep_nil (n : Nat) : rep n [] = [] := by
  induction n with
  | zero => rfl
  | succ n ih => rw [rep_succ, ih]; rfl
theorem Sm.rep {xs ys : List Int} (h : Sm xs ys) (n : Nat) : Sm (rep n xs) (rep n ys) := by
  induction n with
  | zero => exact Sm.refl _
  | succ n ih => exact h.app ih
theorem shr_rep (n : Nat) (xs : List Int) : shr (rep n (shr xs)) = shr (rep n xs) := shr_of_sm ((sm_shr xs).rep n)
theorem rep_succ' (n : Nat) (xs : List Int) : rep (n + 1) xs = rep n xs ++ xs := by
  rw [rep_add n 1, rep_one]
theorem con_rep (n : Nat) (xs : List Int) : con (rep n xs) = rep n (con xs) := by
  induction n with
  | zero => rfl
  | succ n ih => rw [rep_succ, con_append, ih, ← rep_succ']

/-! ### the ends -/
/-- short, and its ends are no contraries -/
def Cy (w : List Int) : Prop := Rd w ∧ ∀ a b, w.head? = some a → w.getLast? = some b → a ≠ -b
/-- no letter is 0 -/
def NZ (xs : List Int) : Prop := ∀ a ∈ xs, a ≠ 0
theorem cy_nil : Cy [] := ⟨trivial, fun a b h => by simp at h⟩
theorem NZ.app {xs ys : List Int} (h : NZ xs) (k : NZ ys) : NZ (xs ++ ys) := fun a ha => by
  rcases List.mem_append.1 ha with h1 | h1
  · exact h a h1
  · exact k a h1
theorem NZ.left {xs ys : List Int} (h : NZ (xs ++ ys)) : NZ xs := fun a ha => h a (List.mem_append_left _ ha)
theorem NZ.right {xs ys : List Int} (h : NZ (xs ++ ys)) : NZ ys := fun a ha => h a (List.mem_append_right _ ha)
theorem NZ.con {xs : List Int} (h : NZ xs) : NZ (con xs) := fun a ha => by
  unfold Fr.con at ha
  obtain ⟨b, hb, rfl⟩ := List.mem_map.1 ha
  have := h b (List.mem_reverse.1 hb)
  omega
theorem push_mem {s : List Int} {a x : Int} (h : x ∈ push s a) : x = a ∨ x ∈ s := by
  cases s with
  | nil => left; simpa [push] using h
  | cons b t =>
    have h2 : x ∈ (if b = -a then t else a :: b :: t) := h
    by_cases e : b = -a
    · rw [if_pos e] at h2; exact .inr (List.mem_cons_of_mem _ h2)
    · rw [if_neg e] at h2
      rcases List.mem_cons.1 h2 with h3 | h3
      · exact .inl h3
      · exact .inr h3
theorem act_mem : ∀ {xs s : List Int} {x : Int}, x ∈ act s xs → x ∈ xs ∨ x ∈ s
  | [], _, _, h => .inr h
  | a :: t, s, x, h => by
    rw [act_cons] at h
    rcases act_mem h with h1 | h1
    · exact .inl (List.mem_cons_of_mem _ h1)
    · rcases push_mem h1 with h2 | h2
      · exact .inl (h2 ▸ List.mem_cons_self)
      · exact .inr h2
theorem shr_mem {xs : List Int} {x : Int} (h : x ∈ shr xs) : x ∈ xs := by
  unfold shr at h
  rcases act_mem (List.mem_reverse.1 h) with h1 | h1
  · exact h1
  · simp at h1
theorem NZ.shr {xs : List Int} (h : NZ xs) : NZ (shr xs) := fun a ha => h a (shr_mem ha)

/-- a row between a letter and its contrary, or one that has no such ends -/
theorem ends_or (xs : List Int) (nz : NZ xs) : (∃ a m, xs = a :: (m ++ [-a])) ∨ ∀ a b, xs.head? = some a → xs.getLast? = some b → a ≠ -b := by
  cases xs with
  | nil => right; intro a b h; simp at h
  | cons a t =>
    by_cases ht : t = []
    · subst ht
      right
      intro x y hx hy
      simp at hx hy
      have := nz a (by simp)
      omega
    · have e := List.dropLast_concat_getLast ht
      by_cases hb : t.getLast ht = -a
      · left
        refine ⟨a, t.dropLast, ?_⟩
        rw [← hb, e]
      · right
        intro x y hx hy
        rw [← e] at hy
        rw [show a :: (t.dropLast ++ [t.getLast ht]) = (a :: t.dropLast) ++ [t.getLast ht] from rfl] at hy
        rw [List.getLast?_append] at hy
        simp at hx hy
        omega
/-- every short row is a row, one that is short round, and the contrary of the first -/
theorem parted (xs : List Int) (nz : NZ xs) (r : Rd xs) : ∃ u w, xs = u ++ w ++ con u ∧ Cy w ∧ (w = [] → u = []) := by
  have gen : ∀ (n : Nat) (xs : List Int), xs.length ≤ n → NZ xs → Rd xs → ∃ u w, xs = u ++ w ++ con u ∧ Cy w ∧ (w = [] → u = []) := by
    intro n
    induction n with
    | zero =>
      intro xs h _ _
      have : xs = [] := List.length_eq_zero_iff.1 (by omega)
      subst this
      exact ⟨[], [], rfl, cy_nil, fun _ => rfl⟩
    | succ n ih =>
      intro xs h nz r
      rcases ends_or xs nz with ⟨a, m, rfl⟩ | k
      · have hr : Rd (m ++ [-a]) := r.tail
        have hm : Rd m := (rd_append.1 hr).1
        obtain ⟨u, w, e, c, z⟩ := ih m (by simp at h; omega) (fun x hx => nz x (by simp [hx])) hm
        have hne : m ≠ [] := by
          intro e0
          subst e0
          have := r.1
          simp at this
        refine ⟨a :: u, w, ?_, c, fun hw => ?_⟩
        · rw [con_cons, e]; simp
        · exfalso
          have hu := z hw
          subst hw hu
          exact hne (by simpa [con] using e)
      · exact ⟨[], xs, by simp [con], ⟨r, k⟩, fun _ => rfl⟩
  exact gen xs.length xs (Nat.le_refl _) nz r

/-- the ends off, as long as they are contraries -/
def endsN : Nat → List Int → List Int
  | 0, xs => xs
  | n + 1, xs => if 1 < xs.length ∧ xs.head? = xs.getLast?.map (fun a => -a) then endsN n xs.tail.dropLast else xs
def ends (xs : List Int) : List Int := endsN xs.length xs
theorem endsN_cy : ∀ (n : Nat) {w : List Int}, Cy w → endsN n w = w
  | 0, _, _ => rfl
  | n + 1, w, h => by
    unfold endsN
    rw [if_neg]
    rintro ⟨h1, h2⟩
    cases e : w.getLast? with
    | none =>
      rw [List.getLast?_eq_none_iff] at e
      subst e
      simp at h1
    | some b =>
      rw [e] at h2
      exact h.2 (-b) b h2 e rfl
theorem endsN_eq : ∀ (n : Nat) (u w : List Int), Cy w → u.length ≤ n → (w = [] → u = []) → endsN n (u ++ w ++ con u) = w
  | n, [], w, c, _, _ => by
    simp [con]
    exact endsN_cy n c
  | 0, a :: u, w, c, h, _ => by simp at h
  | n + 1, a :: u, w, c, h, z => by
    have e : (a :: u) ++ w ++ con (a :: u) = a :: ((u ++ w ++ con u) ++ [-a]) := by
      rw [con_cons]; simp
    rw [e]
    unfold endsN
    rw [if_pos]
    · rw [List.tail_cons, List.dropLast_concat]
      refine endsN_eq n u w c (by simp at h; exact h) fun hw => ?_
      have := z hw
      simp at this
    · constructor
      · simp only [List.length_cons, List.length_append, List.length_nil]; omega
      · rw [show a :: ((u ++ w ++ con u) ++ [-a]) = (a :: (u ++ w ++ con u)) ++ [-a] from rfl, List.getLast?_append]
        simp
theorem ends_eq {u w : List Int} (c : Cy w) (z : w = [] → u = []) : ends (u ++ w ++ con u) = w :=
  endsN_eq _ u w c (by simp) z
theorem ends_cy {w : List Int} (c : Cy w) : ends w = w := endsN_cy _ c
/-- what is left of a ring -/
def rnd (xs : List Int) : List Int := ends (shr xs)
theorem rnd_of {xs u w : List Int} (h : Sm xs (u ++ w ++ con u)) (r : Rd (u ++ w ++ con u)) (c : Cy w) (z : w = [] → u = []) : rnd xs = w := by
  unfold rnd
  rw [shr_eq h r]
  exact ends_eq c z
theorem rnd_cy {xs : List Int} (nz : NZ xs) : Cy (rnd xs) := by
  obtain ⟨u, w, e, c, z⟩ := parted (shr xs) nz.shr (rd_shr xs)
  unfold rnd
  rw [e, ends_eq c z]
  exact c
theorem rnd_sm {xs ys : List Int} (h : Sm xs ys) : rnd xs = rnd ys := by
  unfold rnd
  rw [shr_of_sm h]
theorem rnd_iff {xs : List Int} (nz : NZ xs) : rnd xs = xs ↔ Cy xs := by
  constructor
  · intro h
    rw [← h]
    exact rnd_cy nz
  · intro c
    unfold rnd
    rw [shr_short c.1, ends_cy c]

/-! ### turned -/
def Trn (xs ys : List Int) : Prop := ∃ p q, xs = p ++ q ∧ ys = q ++ p
theorem Trn.refl (xs : List Int) : Trn xs xs := ⟨[], xs, rfl, by simp⟩
theorem Trn.symm {xs ys : List Int} (h : Trn xs ys) : Trn ys xs := by
  obtain ⟨p, q, e1, e2⟩ := h
  exact ⟨q, p, e2, e1⟩
theorem Trn.trans {xs ys zs : List Int} (h : Trn xs ys) (k : Trn ys zs) : Trn xs zs := by
  obtain ⟨p, q, rfl, e⟩ := h
  obtain ⟨p2, q2, e2, rfl⟩ := k
  rw [e] at e2
  rcases List.append_eq_append_iff.1 e2 with ⟨c, h1, h2⟩ | ⟨c, h1, h2⟩
  · subst h1 h2
    exact ⟨c, q2 ++ q, by simp, by simp⟩
  · subst h1 h2
    exact ⟨p ++ p2, c, by simp, by simp⟩
theorem Trn.cy {xs ys : List Int} (h : Trn xs ys) (c : Cy xs) : Cy ys := by
  obtain ⟨p, q, rfl, rfl⟩ := h
  by_cases hp : p = []
  · subst hp; simpa using c
  by_cases hq : q = []
  · subst hq; simpa using c
  obtain ⟨r, l⟩ := c
  obtain ⟨r1, r2, r3⟩ := rd_append.1 r
  obtain ⟨a, t, rfl⟩ := List.exists_cons_of_ne_nil hp
  obtain ⟨b, s, rfl⟩ := List.exists_cons_of_ne_nil hq
  refine ⟨rd_append.2 ⟨r2, r1, fun x y hx hy => ?_⟩, fun x y hx hy => ?_⟩
  · have := l y x (by simpa using hy) (by rw [List.getLast?_append, hx]; rfl)
    omega
  · have := r3 y x (by rw [List.getLast?_append] at hy; rw [List.getLast?_eq_some_getLast (by simp)] at hy ⊢; simpa using hy) (by simpa using hx)
    omega
/-- a letter ahead and its contrary behind -/
theorem rnd_moved1 (a : Int) (ha : a ≠ 0) (xs : List Int) (nz : NZ xs) : Trn (rnd xs) (rnd ([a] ++ xs ++ [-a])) := by
  obtain ⟨u, w, e, c, z⟩ := parted (shr xs) nz.shr (rd_shr xs)
  have hr : rnd xs = w := by
    unfold rnd
    rw [e, ends_eq c z]
  have rs := rd_shr xs
  rw [e] at rs
  have base : Sm ([a] ++ xs ++ [-a]) ([a] ++ (u ++ w ++ con u) ++ [-a]) := by
    rw [← e]
    exact Sm.mid (sm_shr xs).symm
  rw [hr]
  cases u with
  | cons b u =>
    have wne : w ≠ [] := fun h => by simp at z; exact z h
    have e2 : (b :: u) ++ w ++ con (b :: u) = b :: ((u ++ w ++ con u) ++ [-b]) := by rw [con_cons]; simp
    rw [e2] at rs base
    by_cases hb : b = -a
    · have inner : Rd (u ++ w ++ con u) := (rd_append.1 rs.tail).1
      have sm : Sm ([a] ++ (b :: ((u ++ w ++ con u) ++ [-b])) ++ [-a]) (u ++ w ++ con u) := by
        subst hb
        have h1 : Sm ([a, -a] ++ (u ++ w ++ con u) ++ [a, -a]) ([] ++ (u ++ w ++ con u) ++ []) := ((Sm.out a).app (Sm.refl _)).app (Sm.out a)
        simpa using h1
      rw [rnd_of (base.trans sm) inner c fun h => absurd h wne]
      exact Trn.refl _
    · have whole : Rd ((a :: b :: u) ++ w ++ con (a :: b :: u)) := by
        have e3 : (a :: b :: u) ++ w ++ con (a :: b :: u) = [a] ++ (b :: ((u ++ w ++ con u) ++ [-b])) ++ [-a] := by
          rw [con_cons, con_cons]; simp
        rw [e3, rd_append, rd_append]
        refine ⟨⟨trivial, rs, fun x y hx hy => ?_⟩, trivial, fun x y hx hy => ?_⟩
        · simp at hx hy; omega
        · rw [show [a] ++ (b :: ((u ++ w ++ con u) ++ [-b])) = (a :: b :: (u ++ w ++ con u)) ++ [-b] by simp] at hx
          rw [List.getLast?_append] at hx
          simp at hx hy
          omega
      have sm : Sm ([a] ++ (b :: ((u ++ w ++ con u) ++ [-b])) ++ [-a]) ((a :: b :: u) ++ w ++ con (a :: b :: u)) := by
        have e3 : (a :: b :: u) ++ w ++ con (a :: b :: u) = [a] ++ (b :: ((u ++ w ++ con u) ++ [-b])) ++ [-a] := by
          rw [con_cons, con_cons]; simp
        rw [e3]
        exact Sm.refl _
      rw [rnd_of (base.trans sm) whole c fun h => absurd h wne]
      exact Trn.refl _
  | nil =>
    have e2 : ([] : List Int) ++ w ++ con [] = w := by simp [con]
    rw [e2] at rs base
    cases w with
    | nil =>
      have sm : Sm ([a] ++ [] ++ [-a]) ([] ++ [] ++ con []) := Sm.out a
      rw [rnd_of (base.trans sm) trivial cy_nil fun _ => rfl]
      exact Trn.refl _
    | cons b t =>
      by_cases hb : b = -a
      · -- the letter takes the first one out, and its contrary stands behind
        have turn : Trn (b :: t) (t ++ [b]) := ⟨[b], t, rfl, rfl⟩
        have sm : Sm ([a] ++ (b :: t) ++ [-a]) ([] ++ (t ++ [b]) ++ con []) := by
          subst hb
          have h1 : Sm ([a, -a] ++ (t ++ [-a])) ([] ++ (t ++ [-a])) := (Sm.out a).app (Sm.refl _)
          simpa [con] using h1
        have cy := turn.cy c
        rw [rnd_of (base.trans sm) (by simpa [con] using cy.1) cy fun _ => rfl]
        exact turn
      · by_cases hl : (b :: t).getLast? = some a
        · obtain ⟨m, em⟩ : ∃ m, b :: t = m ++ [a] := by
            refine ⟨(b :: t).dropLast, ?_⟩
            have h1 := List.dropLast_concat_getLast (l := b :: t) (by simp)
            rw [List.getLast?_eq_some_getLast (by simp)] at hl
            rw [Option.some.inj hl] at h1
            exact h1.symm
          rw [em] at c base ⊢
          have turn : Trn (m ++ [a]) (a :: m) := ⟨m, [a], rfl, rfl⟩
          have sm : Sm ([a] ++ (m ++ [a]) ++ [-a]) ([] ++ (a :: m) ++ con []) := by
            have h1 : Sm ((a :: m) ++ [a, -a]) ((a :: m) ++ []) := (Sm.refl _).app (Sm.out a)
            simpa [con] using h1
          have cy := turn.cy c
          rw [rnd_of (base.trans sm) (by simpa [con] using cy.1) cy fun _ => rfl]
          exact turn
        · have whole : Rd ([a] ++ (b :: t) ++ con [a]) := by
            rw [rd_append, rd_append]
            refine ⟨⟨trivial, rs, fun x y hx hy => ?_⟩, trivial, fun x y hx hy => ?_⟩
            · simp at hx hy; omega
            · rw [List.getLast?_append] at hx
              rw [List.getLast?_eq_some_getLast (by simp)] at hx hl
              simp [con] at hx hy hl
              omega
          rw [rnd_of (base.trans (by simpa [con] using Sm.refl _)) whole c fun h => by simp at h]
          exact Trn.refl _
/-- moved: a word ahead, its contrary behind -/
theorem rnd_moved : ∀ (ys xs : List Int), NZ ys → NZ xs → Trn (rnd xs) (rnd (ys ++ xs ++ con ys))
  | [], xs, _, _ => by simpa [con] using Trn.refl _
  | a :: t, xs, hy, hx => by
    have ht : NZ t := fun x h => hy x (List.mem_cons_of_mem _ h)
    have h1 := rnd_moved t xs ht hx
    have h2 := rnd_moved1 a (hy a List.mem_cons_self) (t ++ xs ++ con t) ((ht.app hx).app ht.con)
    have e : [a] ++ (t ++ xs ++ con t) ++ [-a] = (a :: t) ++ xs ++ con (a :: t) := by rw [con_cons]; simp
    rw [e] at h2
    exact h1.trans h2
/-- turned first, shortened round then -/
theorem rnd_turned {xs ys : List Int} (nz : NZ xs) (h : Trn xs ys) : Trn (rnd xs) (rnd ys) := by
  obtain ⟨p, q, rfl, rfl⟩ := h
  have h1 := rnd_moved (con p) (p ++ q) nz.left.con nz
  have sm : Sm (con p ++ (p ++ q) ++ con (con p)) (q ++ p) := by
    rw [con_con]
    have h2 : Sm ((con p ++ p) ++ (q ++ p)) ([] ++ (q ++ p)) := (sm_con' p).app (Sm.refl _)
    simpa using h2
  rw [rnd_sm sm] at h1
  exact h1

/-! ### so many times one that is short round -/
theorem rep_head {n : Nat} {w : List Int} : (rep (n + 1) w).head? = w.head? := by
  cases w with
  | nil => rw [rep_nil]
  | cons a t => rw [rep_succ]; rfl
theorem rep_last {n : Nat} {w : List Int} : (rep (n + 1) w).getLast? = w.getLast? := by
  by_cases hw : w = []
  · subst hw; rw [rep_nil]
  · rw [rep_succ', List.getLast?_append, List.getLast?_eq_some_getLast hw]; rfl
theorem cy_rep {w : List Int} (c : Cy w) : ∀ n, Cy (rep n w)
  | 0 => cy_nil
  | n + 1 => by
    have ih := cy_rep c n
    refine ⟨?_, fun a b ha hb => ?_⟩
    · rw [rep_succ, rd_append]
      refine ⟨c.1, ih.1, fun a b ha hb => ?_⟩
      cases n with
      | zero => simp [rep] at hb
      | succ n =>
        rw [rep_head] at hb
        have := c.2 b a hb ha
        omega
    · rw [rep_head] at ha
      rw [rep_last] at hb
      exact c.2 a b ha hb
/-- so many times a row: its ends stay, what is between them comes so many times -/
theorem shr_core {xs u w : List Int} (e : shr xs = u ++ w ++ con u) (c : Cy w) (z : w = [] → u = []) (n : Nat) : shr (rep (n + 1) xs) = u ++ rep (n + 1) w ++ con u := by
  have sm : ∀ n, Sm (rep (n + 1) (u ++ w ++ con u)) (u ++ rep (n + 1) w ++ con u) := by
    intro n
    induction n with
    | zero => rw [rep_one, rep_one]; exact Sm.refl _
    | succ n ih =>
      rw [rep_succ]
      refine ((Sm.refl _).app ih).trans ?_
      have h : Sm ((u ++ w) ++ (con u ++ u) ++ (rep (n + 1) w ++ con u)) ((u ++ w) ++ [] ++ (rep (n + 1) w ++ con u)) := Sm.mid (sm_con' u)
      have e2 : rep (n + 1 + 1) w = w ++ rep (n + 1) w := rfl
      rw [e2]
      simpa using h
  refine shr_eq ?_ ?_
  · have h1 : Sm (rep (n + 1) xs) (rep (n + 1) (shr xs)) := ((sm_shr xs).rep _).symm
    rw [e] at h1
    exact h1.trans (sm n)
  · have r := rd_shr xs
    rw [e] at r
    by_cases hw : w = []
    · have hu := z hw
      subst hw hu
      rw [rep_nil]
      trivial
    · obtain ⟨r12, r3, b23⟩ := rd_append.1 r
      obtain ⟨r1, r2, b12⟩ := rd_append.1 r12
      rw [rd_append, rd_append]
      refine ⟨⟨r1, (cy_rep c _).1, fun a b ha hb => ?_⟩, r3, fun a b ha hb => ?_⟩
      · rw [rep_head] at hb
        exact b12 a b ha hb
      · refine b23 a b ?_ hb
        have hne : rep (n + 1) w ≠ [] := by
          intro h
          have h2 := rep_length (n + 1) w
          rw [h, Nat.succ_mul] at h2
          simp at h2
          exact hw (List.length_eq_zero_iff.1 (by omega))
        rw [List.getLast?_append, List.getLast?_eq_some_getLast hne] at ha
        rw [List.getLast?_append, ← rep_last (n := n), List.getLast?_eq_some_getLast hne]
        exact ha
end Fr
set_option Elab.async false
set_option linter.all false
set_option maxRecDepth 100000
set_option maxHeartbeats 2000000
/-! {e for x in xs}, e an int. -/
namespace WS
open PySem PySem.Spec PyProof.Rows L2 PpSet
/-- a set as it is when it is made -/
abbrev bareSet (w : World) : Obj := { cls := .type "set", dict := none, data := .set #[] 0 (.fresh 0 0 (!w.params.followText "set-order")) }
theorem bare_ok (w : World) (h : Heap) : SetR w (h.push (bareSet w)) h.objs.size (fun _ => false) 0 := by
  have led : w.params.followText "set-order" = true ∨ (!w.params.followText "set-order") = true := by
    cases w.params.followText "set-order"
    · right; rfl
    · left; rfl
  refine ⟨bareSet w, #[], 0, _, Heap.get?_push_size _ rfl, ⟨rfl, rfl, rfl⟩, rfl, ?_, ?_, ?_, by decide, rfl, rfl, List.Pairwise.nil, led⟩
  · intro e he; simp at he
  · simp
  · intro k; simp
/-- the new set at D, filled turn by turn -/
def Fills (w : World) (J : It) (g : TG) (tt : TT) (te : TE) (vs : List Nat) (σ : L2.St) (D : Addr) (Q : VK) (W : Nat → Nat → Hp → Prop) : Prop :=
  ∀ i m H, W i m H → (J.stop i H ∧ Q (.ref D) H) ∨ (J.go i H ∧ ∃ N : Hp → Prop, (∀ H', N H' → ∃ m', m' < m ∧ W (i + 1) m' H') ∧
    ∀ x H', J.yld i H x H' → g x (wipe σ vs) H' fun σ2 H2 => wipe σ2 vs = wipe σ vs ∧ tt σ2 H2 fun b H3 => if b = true then te σ2 H3 fun y H4 => rSAdd w (.ref D) [y] H4 fun _ H5 => N H5 else N H3)
def tSetI (w : World) (wi : TI) (g : TG) (tt : TT) (te : TE) (vs : List Nat) : TE := fun σ H Q => wi σ H fun J H1 => ∀ D, H1 D = none →
  ∃ W : Nat → Nat → Hp → Prop, (∃ m, W 0 m (upd H1 D (SetO w D (fun _ => false) 0))) ∧ Fills w J g tt te vs σ D Q W
section
variable {X : Cx}
/-- what a turn leaves known -/
def Known (X : Cx) (Z : Cx) (σw : L2.St) (fp : List Addr) (tn : Nat → Heap → Prop) (W : Nat → Nat → Hp → Prop) (m : Nat) (s : Shared) : Prop :=
  ∃ (i : Nat) (H : Hp), Inv Z [] σw H s ∧ tn i s.heap ∧ (∀ b ∈ fp, H b = none) ∧ W i m H
theorem fill_set {elt tg iter : Expr} {ifs : List Expr} {scope : Scope} {own : List (PySem.Str × Nat)} {pos : Pos} {g : TG} {tt : TT} {te : TE} {pins : List (Addr × Obj)} {σ : L2.St} {H3 : Hp} {s3 : Shared} {it D : Addr} {fp : List Addr} {tn : Nat → Heap → Prop} {J : It} {m0 : Nat} {W : Nat → Nat → Hp → Prop} {Q : VK}
    (calm : X.calm = true) (nod : X.N.Nodup) (blk : BlkOk X.N X.env.scope scope own)
    (target : ∀ (s : Shared) (H : Hp) (C : Addr) (cl : List (PySem.Str × Addr)) (fp : List Addr), PG (X.blk s H scope (compEnvC scope cl C X.env) fp) tg g)
    (tests : ∀ (s : Shared) (H : Hp) (C : Addr) (cl : List (PySem.Str × Addr)) (fp : List Addr), PTs (X.blk s H scope (compEnvC scope cl C X.env) fp) ifs tt)
    (item : ∀ (s : Shared) (H : Hp) (C : Addr) (cl : List (PySem.Str × Addr)) (fp : List Addr), PE (X.blk s H scope (compEnvC scope cl C X.env) fp) elt te)
    (T : Turn X.prog X.w X.K tg J fp it tn) (I3 : Inv X pins σ H3 s3) (off : ∀ b ∈ fp, FpOk X pins H3 b ∧ b < s3.heap.objs.size) (st3 : tn 0 s3.heap) (w0 : W 0 m0 H3) (turn : Fills X.w J g tt te (own.map (·.2)) σ D Q W) :
    codeAny (model X.prog X.w) X.A (.compStart (.SetComp elt [⟨tg, iter, ifs, 0⟩] scope pos) 0 (.ref it) (.ref D) (compEnvC scope (cellsFrom (s3.heap.objs.size + 1) scope.names (cloFrom X.env.cells scope.names [])) s3.heap.objs.size X.env))
      (compPost (model X.prog X.w) X.A X.xe none (EP X pins σ Q) (.ref D) s3.heap.objs.size) { s3 with heap := pushCells (s3.heap.push { cls := .type "dict", data := .dict #[] }) scope.names } := by
  have I4 := block_start I3 blk nod off
  have pg := target s3 H3 s3.heap.objs.size (cellsFrom (s3.heap.objs.size + 1) scope.names (cloFrom X.env.cells scope.names [])) fp
  have pt := tests s3 H3 s3.heap.objs.size (cellsFrom (s3.heap.objs.size + 1) scope.names (cloFrom X.env.cells scope.names [])) fp
  have pe := item s3 H3 s3.heap.objs.size (cellsFrom (s3.heap.objs.size + 1) scope.names (cloFrom X.env.cells scope.names [])) fp
  have st4 : tn 0 (pushCells (s3.heap.push { cls := .type "dict", data := .dict #[] }) scope.names) := T.keep _ _ _ st3 fun _ _ _ e => pushCells_keeps _ _ _ _ (Heap.get?_push_of_some _ e)
  obtain ⟨ce, ece⟩ : ∃ ce : Env, ce = compEnvC scope (cellsFrom (s3.heap.objs.size + 1) scope.names (cloFrom X.env.cells scope.names [])) s3.heap.objs.size X.env := ⟨_, rfl⟩
  have loc : ce.locals = s3.heap.objs.size := by rw [ece]; rfl
  rw [← ece] at I4 pg pt pe ⊢
  -- the places that the walk keeps
  have held : ∀ {σ' : L2.St} {H' : Hp} {s' : Shared}, Inv (X.blk s3 H3 scope ce fp) [] σ' H' s' → (∀ b ∈ fp, H' b = none) → ∀ b ∈ fp, FpOk (X.blk s3 H3 scope ce fp) [] H' b := by
    intro σ' H' s' I' none' b hb
    refine ⟨none' b hb, (I'.ok.exf b hb).1, I'.ok.exfs b hb, .inl hb, (I'.ok.exf b hb).2, fun p hp => ?_⟩
    simp at hp
  have all : codeAny (model X.prog X.w) X.A (.compLoop (.SetComp elt [⟨tg, iter, ifs, 0⟩] scope pos) 0 (.ref it) (.ref D) ce) (compPost (model X.prog X.w) X.A X.xe none (EP X pins σ Q) (.ref D) s3.heap.objs.size) { s3 with heap := pushCells (s3.heap.push { cls := .type "dict", data := .dict #[] }) scope.names } := by
    refine compLoopS_any (Known X (X.blk s3 H3 scope ce fp) (wipe σ (own.map (·.2))) fp tn W) (fun m s5 known => ?_) m0 ⟨0, H3, I4, st4, fun b hb => (off b hb).1.1, w0⟩
    obtain ⟨i, H5, I5, st5, none5, w5⟩ := known
    cases turn i m H5 w5 with
    | inl ended =>
      refine thnF (T.done (X.blk s3 H3 scope ce fp) rfl rfl rfl calm i [] s5 _ H5 (fun _ _ => False) I5 (held I5 none5) st5 ended.1) fun r s6 hr => ?_
      obtain ⟨rfl, I6⟩ := hr
      have back : Inv X pins σ H5 s6 := I3.call' (ch := fp) I6.os I6.base I6.hok I6.bare fun b hb => by
        obtain ⟨⟨_, f1, f2, f3, f4, f5⟩, _⟩ := off b hb
        exact ⟨f3, f1, f4, f5⟩
      have noL : H5 s3.heap.objs.size = none := by rw [← loc]; exact I6.free
      obtain ⟨mm, names, _⟩ := I6.loc
      have names' : s6.heap.Ns s3.heap.objs.size mm := by rw [← loc]; exact names
      obtain ⟨f0, f1, f2, f3, f4, f5⟩ := I3.fpOk (Nat.le_refl _) noL
      exact ⟨mm, names', fun h' same => ⟨.ref D, H5, back.turned (t' := s6.toks) (fun b o hb e => (same.2 b hb).trans e) f0 f1 f3 f4 f5, rfl, ended.2⟩⟩
    | inr goes =>
      obtain ⟨go, N, hN, step⟩ := goes
      refine thnF (T.item (X.blk s3 H3 scope ce fp) rfl rfl rfl calm i [] s5 _ H5 (fun _ _ => False) I5 (held I5 none5) st5 go) fun r s6 hr => ?_
      obtain ⟨u, rfl, h6⟩ := hr
      refine thnF h6 fun _ s7 h7 => ?_
      obtain ⟨x, H7, I7, r7, y7, st7, none7⟩ := h7
      refine thnF (pg.run _ s7 _ H7 x u _ (I7.pinned (held I7 none7) (T.obj _ _ st7)) r7 (step x H7 y7)) fun _ s8 h8 => ?_
      obtain ⟨σ8, H8, I8, wiped, q8⟩ := h8
      refine thnF (pt.run _ s8 σ8 H8 _ I8 q8) fun b s9 h9 => ?_
      obtain ⟨H9, I9, q9⟩ := h9
      have next : ∀ {s' : Shared} {H' : Hp}, Inv (X.blk s3 H3 scope ce fp) ([] ++ pinsAt fp s7.heap) σ8 H' s' → N H' → ∃ m', m' < m ∧ Known X (X.blk s3 H3 scope ce fp) (wipe σ (own.map (·.2))) fp tn W m' s' := by
        intro s' H' I' nx
        obtain ⟨m', lt, w'⟩ := hN H' nx
        have kept : ∀ b ∈ fp, ∀ o, s7.heap.get? b = some o → s'.heap.get? b = some o ∧ H' b = none := by
          intro b hb o e
          obtain ⟨z1, z2, _⟩ := I'.pin (b, o) (List.mem_append_right _ (List.mem_append_right _ (mem_pinsAt hb e)))
          exact ⟨z1, z2⟩
        have len : (wipe σ (own.map (·.2))).length = σ8.length := by rw [← wiped, wipe_length]
        refine ⟨m', lt, i + 1, H', (I'.unpinned (pins := [])).weak len (fun j v e => ?_), T.keep _ _ _ st7 fun b hb o e => (kept b hb o e).1, fun b hb => ?_, w'⟩
        · rw [← wiped] at e
          exact (wipe_some e).1
        · obtain ⟨o, e, _⟩ := T.obj _ _ st7 b hb
          exact (kept b hb o e).2
      cases b with
      | false =>
        rw [if_neg Bool.false_ne_true] at q9 ⊢
        exact next I9 q9
      | true =>
        rw [if_pos rfl] at q9 ⊢
        refine thnF (pe.run _ s9 σ8 H9 _ I9 q9) fun z s10 h10 => ?_
        obtain ⟨yv, H10, I10, r10, adds⟩ := h10
        refine thnF (mt_sadd (X := X.blk s3 H3 scope ce fp) _ s10 σ8 H10 (.ref D) [yv] (.ref D) [z] _ I10 rfl (.cons r10 .nil) adds) fun _ s11 h11 => ?_
        obtain ⟨_, H11, I11, _, nx⟩ := h11
        exact next I11 nx
  exact codeAny_compStart_set all (T.self X.A 0 _ _ _ st4 all)
theorem pe_setI {elt tg iter : Expr} {ifs : List Expr} {scope : Scope} {own : List (PySem.Str × Nat)} {pos : Pos} {wi : TI} {g : TG} {tt : TT} {te : TE} (calm : X.calm = true) (nod : X.N.Nodup) (walked : PI X tg iter wi) (blk : BlkOk X.N X.env.scope scope own)
    (target : ∀ (s : Shared) (H : Hp) (C : Addr) (cl : List (PySem.Str × Addr)) (fp : List Addr), PG (X.blk s H scope (compEnvC scope cl C X.env) fp) tg g)
    (tests : ∀ (s : Shared) (H : Hp) (C : Addr) (cl : List (PySem.Str × Addr)) (fp : List Addr), PTs (X.blk s H scope (compEnvC scope cl C X.env) fp) ifs tt)
    (item : ∀ (s : Shared) (H : Hp) (C : Addr) (cl : List (PySem.Str × Addr)) (fp : List Addr), PE (X.blk s H scope (compEnvC scope cl C X.env) fp) elt te) (plain : ∀ x, foldedSetIterable iter X.env x = pure x := by intro _; rfl) :
    PE X (.SetComp elt [⟨tg, iter, ifs, 0⟩] scope pos) (tSetI X.w wi g tt te (own.map (·.2))) := by
  refine ⟨fun pins s σ H Q I asked => ?_⟩
  rw [eval_SetComp]
  have caught : ∀ y ∈ scope.names, y.2 = .free → ∃ c, X.env.cells.lookup y.1 = some c := by
    intro y hy e
    cases blk.free y hy e with
    | inl k => exact I.ok.has _ (.inl k)
    | inr k => exact I.ok.has _ (.inr k)
  refine wpAny_comprehension_free (use := none) rfl plain (closure_ok caught) blk.kind (fun y hy e => by rw [blk.uniq y hy, e]) ?_
  refine thn (walked.run pins s σ H _ I asked) fun _ _ h1 => thn h1 fun _ s2 h2 => ?_
  obtain ⟨it, fp, tn, J, H2, rfl, I2, T, st2, off2, fill⟩ := h2
  refine newSet_ok (newEnv_comp ?_)
  have free0 : H2 s2.heap.objs.size = none := I2.hok.fresh (Nat.le_refl _)
  obtain ⟨W, ⟨m0, w0⟩, turn⟩ := fill s2.heap.objs.size free0
  have I3 : Inv X pins σ (upd H2 s2.heap.objs.size (SetO X.w s2.heap.objs.size (fun _ => false) 0)) { s2 with heap := s2.heap.push (bareSet X.w) } :=
    I2.laid (t' := s2.toks) (fun _ _ e => Heap.get?_push_of_some _ e) (Nat.le_refl _) (setO_new (bare_ok X.w s2.heap))
  have below : ∀ b ∈ fp, b < s2.heap.objs.size := by
    intro b hb
    obtain ⟨o, e, _⟩ := T.obj _ _ st2 b hb
    exact Heap.lt_size e
  have off3 : ∀ b ∈ fp, FpOk X pins (upd H2 s2.heap.objs.size (SetO X.w s2.heap.objs.size (fun _ => false) 0)) b ∧ b < (s2.heap.push (bareSet X.w)).objs.size := by
    intro b hb
    refine ⟨⟨?_, (off2 b hb).2⟩, by rw [Heap.size_push]; exact Nat.lt_succ_of_lt (below b hb)⟩
    rw [upd_ne (Nat.ne_of_lt (below b hb))]
    exact (off2 b hb).1
  exact fill_set calm nod blk target tests item T I3 off3 (T.keep _ _ _ st2 fun _ _ _ e => Heap.get?_push_of_some _ e) w0 turn
end
end WS
set_option Elab.async false
set_option linter.all false
set_option maxRecDepth 100000
set_option maxHeartbeats 2000000
/-! t[::-1]; tuple * int for 0 and 1. -/
namespace WR
open PySem PySem.Spec PyProof.Rows L2
section
variable {prog : Program} {w : World} {A : Around} {E : Value → Shared → Prop} {s : Shared}
theorem adjust_back (n : Nat) : Builtin.Slice.sliceAdjust none none (-1) (n : Int) = ((n : Int) - 1, -1) := by
  unfold Builtin.Slice.sliceAdjust
  simp
theorem places_back (n : Nat) : Builtin.Slice.slicePlaces ((n : Int) - 1) (-1) (-1) = n := by
  unfold Builtin.Slice.slicePlaces
  have h1 : ¬ ((-1 : Int) > 0) := by omega
  simp only [h1, if_false]
  rw [show (- -1 : Int) = 1 by decide, Int.ediv_one]
  split <;> omega
theorem fm_congr {α β : Type} {f g : α → Option β} : ∀ {l : List α}, (∀ m ∈ l, f m = g m) → l.filterMap f = l.filterMap g
  | [], _ => rfl
  | a :: t, h => by
    rw [List.filterMap_cons, List.filterMap_cons, h a List.mem_cons_self, fm_congr fun m hm => h m (List.mem_cons_of_mem _ hm)]
theorem pick_back (xs : Array Value) : ((List.range xs.size).filterMap fun (m : Nat) => xs[((xs.size : Int) - 1 + (m : Int) * (-1)).toNat]?).toArray = xs.toList.reverse.toArray := by
  have e : (List.range xs.size).filterMap (fun (m : Nat) => xs[((xs.size : Int) - 1 + (m : Int) * (-1)).toNat]?) = ((List.range xs.size).map fun k => xs.size - 1 - k).filterMap (xs[·]?) := by
    rw [List.filterMap_map]
    refine fm_congr fun m hm => ?_
    have hm2 := List.mem_range.mp hm
    have : ((xs.size : Int) - 1 + (m : Int) * (-1)).toNat = xs.size - 1 - m := by omega
    rw [this]
    rfl
  rw [e, PySem.W.krv_range, List.filterMap_reverse, PySem.W.krv_all]
theorem sliceApplied_back {sl : Addr} {vl vu vs : Value} {n : Nat} {Q : Int × Int × Nat → Shared → Prop} (hs : s.heap.IsSliceOf sl vl vu vs) (pl : IsPart vl none) (pu : IsPart vu none) (ps : IsPart vs (some (-1)))
    (h : Q ((n : Int) - 1, -1, n) s) : wpAny (model prog w) A (Builtin.Slice.sliceApplied (.ref sl) (pure (n : Int))) Q E s := by
  obtain ⟨os, hos, hcs, hds⟩ := id hs
  unfold Builtin.Slice.sliceApplied Builtin.Slice.sliceFields
  refine wpAny_bind (wpAny_bind (wpAny_field hos hds (x := vl) rfl (wpAny_bind (wpAny_field hos hds (x := vu) rfl (wpAny_bind (wpAny_field hos hds (x := vs) rfl (wpAny_pure ?_)))))))
  refine wpAny_bind (HT.slicePart_ ps ?_)
  show wpAny _ _ (if ((-1 : Int) == 0) = true then _ else _) _ _ s
  rw [if_neg (by decide)]
  refine wpAny_bind (HT.slicePart_ pl (wpAny_bind (HT.slicePart_ pu (wpAny_bind (wpAny_pure ?_)))))
  show wpAny _ _ (match Builtin.Slice.sliceAdjust none none (-1) (n : Int) with | (lo, hi) => pure (lo, (-1 : Int), Builtin.Slice.slicePlaces lo hi (-1))) _ _ s
  rw [adjust_back n]
  show wpAny _ _ (pure ((n : Int) - 1, (-1 : Int), Builtin.Slice.slicePlaces ((n : Int) - 1) (-1) (-1))) _ _ s
  rw [places_back]
  exact wpAny_pure h
theorem getItem_tuple_back {t sl : Addr} {items : Array Value} {vl vu vs : Value} {Q : Value → Shared → Prop} (ht : IsTup s.heap t items) (hs : s.heap.IsSliceOf sl vl vu vs) (pl : IsPart vl none) (pu : IsPart vu none) (ps : IsPart vs (some (-1)))
    (h : Q (.ref s.heap.objs.size) { s with heap := s.heap.push { cls := .type "tuple", data := .seq items.toList.reverse.toArray } })
    (hsz : items.size ≤ sizeLine) : wpAny (model prog w) A (getItem (.ref t) (.ref sl)) Q E s := by
  have htake : sizeOk (.seq items.toList.reverse.toArray) := by
    show items.toList.reverse.toArray.size ≤ sizeLine
    rw [List.size_toArray, List.length_reverse, Array.length_toList]
    exact hsz
  obtain ⟨os, hos, hcs, hds⟩ := id hs
  have hTs : s.TypeIs (.ref sl) "slice" := ⟨os, hos, hcs⟩
  unfold getItem
  try with_reducible refine wpAny_holding ?_
  first | refine wpAny_bind (wpAny_pure ?_) | skip
  refine wpAny_bind (wpAny_sequenceKey ht.typeIs (by decide) ?_)
  refine wpAny_bind (wpAny_callSpecial?_slot (name := Str.ofString "__getitem__") ht.typeIs PyProof.Rows.slot_tuple_getitem
    (wpAny_call_entry PyProof.Rows.slot_tuple_getitem ht.typeIs entry_tuple_getitem ?_ (args_tuple_getitem _ _)))
  show wpAny _ _ (Builtin.Tuple.tupleItemsOf (.ref t) >>= _) _ _ s
  refine wpAny_bind (tupleItemsOf_ ht ?_)
  refine wpAny_bind (wpAny_typeOf hTs ?_)
  rw [if_pos (by decide)]
  refine wpAny_bind (sliceApplied_back hs pl pu ps ?_)
  have hno : ¬ ((((items.size : Int) - 1) == 0 && (-1 : Int) == 1 && items.size == items.size) = true) := by
    intro q
    rw [Bool.and_eq_true, Bool.and_eq_true] at q
    exact absurd q.1.2 (by decide)
  show wpAny _ _ (if (((items.size : Int) - 1) == 0 && (-1 : Int) == 1 && items.size == items.size) = true then _ else _) _ _ s
  rw [if_neg hno, pick_back]
  first
    | exact wpAny_bind (m := Builtin.Tuple.tupleExact _) (wpAny_newObj_type (wpAny_pure ⟨_, rfl, wpAny_pure h⟩) htake)
    | exact wpAny_bind (m := Builtin.Tuple.tupleExact _) (wpAny_newObj_type (wpAny_bind (wpAny_pure (wpAny_pure ⟨_, rfl, wpAny_pure h⟩))) htake)
end
section
variable {X : Cx}
def tRevT (K : PySem.W.Frag) (te : TE) : TE := fun σ H Q => te σ H fun x H1 => ∃ a xs, x = .ref a ∧ SqT K H1 a xs ∧ ∀ p, H1 p = none → Q (.ref p) (upd H1 p (.tup xs.reverse))
theorem pe_revT {e : Expr} {te : TE} {k : Nat} {p1 p2 p3 pos : Pos} (he : PE X e te) : PE X (.Subscript e (.Slice none none (some (.UnaryOp .USub (.Constant (.int 1) k p1) p2)) p3) pos) (tRevT X.K te) := by
  refine ⟨fun pins s σ H Q I h => ?_⟩
  refine Subscript_ (thn (he.run pins s σ H _ I h) fun v s1 ⟨x, H1, I1, r1, q1⟩ => ?_)
  obtain ⟨a, xs, ex, hx, q⟩ := q1
  subst ex
  cases r1
  have hst : PO X (some (.UnaryOp .USub (.Constant (.int 1) k p1) p2)) (tPart (tUn (rU fun i => .int (-i)) (tC (.int 1)))) := po_some (pe_un un_neg pe_int)
  refine wpAny_Slice (thn (po_none.run pins s1 σ H1 (fun o H2 => o = none ∧ H2 = H1) I1 ⟨rfl, rfl⟩) fun vl s2 ⟨l, H2, I2, pl, el, e2⟩ => ?_)
  subst el e2
  refine thn (po_none.run pins s2 σ H2 (fun o H3 => o = none ∧ H3 = H2) I2 ⟨rfl, rfl⟩) fun vu s3 ⟨u, H3, I3, pu, eu, e3⟩ => ?_
  subst eu e3
  refine thn (hst.run pins s3 σ H3 (fun o H4 => o = some (-1) ∧ H4 = H3) I3 ⟨1, rfl, -1, rfl, rfl, rfl⟩) fun vs s4 ⟨o, H4, I4, ps, eo, e4⟩ => ?_
  subst eo e4
  have I5 : Inv X pins σ H4 { s4 with heap := s4.heap.push { cls := .type "slice", data := .fields #[vl, vu, vs] } } := I4.kept (t' := s4.toks) fun b ob q => Heap.get?_push_of_some _ q
  obtain ⟨its, r, ht, hz⟩ := I5.tuple hx
  have hlen := r.length
  show wpAny (model X.prog X.w) X.A (subscriptTail e (.Slice none none (some (.UnaryOp .USub (.Constant (.int 1) k p1) p2)) p3) (.ref a) (.ref s4.heap.objs.size)) (EP X pins σ Q) X.xe { s4 with heap := s4.heap.push { cls := .type "slice", data := .fields #[vl, vu, vs] } }
  refine tail_any (ops := [.ref a, .ref s4.heap.objs.size]) ht.typeIs (PyProof.Rows.slot_tuple_getitem.lookup) ?_ (by with_unfolding_all rfl)
  refine getItem_tuple_back ht (Heap.IsSliceOf.new _ vl vu vs) pl pu ps ?_ (by rw [List.size_toArray]; omega)
  refine ⟨.ref _, _, I5.laid (t' := s4.toks) (o := .tup xs.reverse) (fun b ob q => Heap.get?_push_of_some _ q) (Nat.le_refl _) ?_, rfl, q _ (I5.hok.fresh (Nat.le_refl _))⟩
  exact ⟨by rw [List.length_reverse]; exact hz, _, r.reverse, IsTup.new _ _⟩
end

theorem tuple_mulS (l : Addr) (items : Array Value) (n : Nat) (dd : Option Addr) (sl : Array (Option Value)) (x : Int) (u : Tok) (c0 : (decide (x < -(2 ^ 63)) || decide (x ≥ 2 ^ 63)) = false) (c1 : (items.isEmpty || x == 1) = true) :
    Meets (Builtin.«tuple.__mul__» ⟨[.ref l, .int x u], []⟩) (fun _ R s => s.heap.get? l = some { cls := .type "tuple", dict := dd, data := .seq items n, slots := sl } ∧
      R (.ok (.ret (Value.ref l))) { s with heap := s.heap, toks := s.toks }) :=
  .of_wp fun prog w A R s h => by
    obtain ⟨hp, g, d, tk, os⟩ := s
    obtain ⟨hl, h⟩ := h
    have f1 := AutoSeq1.idx_int
    wp_walk using wpAny_loadPart' hl
    repeat (first
      | (refine wpAny_ite_false (decide_eq_false (by rw [c0]; exact Bool.false_ne_true)) ?_; wp_walk using wpAny_loadPart' hl)
      | (refine wpAny_ite_true (decide_eq_true c1) ?_; wp_walk using wpAny_loadPart' hl)
      | (refine wpAny_ite_true c1 ?_; wp_walk using wpAny_loadPart' hl))
    exact ⟨_, rfl, h⟩
theorem tuple_mul0 (l : Addr) (items : Array Value) (n : Nat) (dd : Option Addr) (sl : Array (Option Value)) (x : Int) (u : Tok) (c0 : (decide (x < -(2 ^ 63)) || decide (x ≥ 2 ^ 63)) = false) (c1 : (items.isEmpty || x == 1) = false) (c2 : (decide (x ≤ 0) || items.isEmpty) = true) :
    Meets (Builtin.«tuple.__mul__» ⟨[.ref l, .int x u], []⟩) (fun _ R s => s.heap.get? l = some { cls := .type "tuple", dict := dd, data := .seq items n, slots := sl } ∧
      R (.ok (.ret (Value.ref s.heap.objs.size))) { s with heap := s.heap.push { cls := Value.type "tuple", data := Data.seq #[] }, toks := s.toks }) :=
  .of_wp fun prog w A R s h => by
    obtain ⟨hp, g, d, tk, os⟩ := s
    obtain ⟨hl, h⟩ := h
    have f1 := AutoSeq1.idx_int
    wp_walk using wpAny_loadPart' hl
    repeat (first
      | (refine wpAny_ite_false (decide_eq_false (by rw [c0]; exact Bool.false_ne_true)) ?_; wp_walk using wpAny_loadPart' hl)
      | (refine wpAny_ite_false (decide_eq_false (by rw [c1]; exact Bool.false_ne_true)) ?_; wp_walk using wpAny_loadPart' hl)
      | (refine wpAny_ite_true (decide_eq_true c2) ?_; wp_walk using wpAny_loadPart' hl))
    exact ⟨_, rfl, h⟩
/-- some tuple of these values, all else as it stood -/
def NewT (K : PySem.W.Frag) (H : Hp) (Q : VK) (xs : List V) : Prop := ∀ p H', Same H H' → SqT K H' p xs → Q (.ref p) H'
theorem same_upd {H : Hp} {p : Addr} {o : HO} (hp : H p = none) : Same H (upd H p o) := fun b u e => by
  rw [upd_ne (ne_of_none e hp)]
  exact e
theorem Same.seqT {K : PySem.W.Frag} {H H' : Hp} {a : Addr} {xs : List V} (e : Same H H') (h : SqT K H a xs) : SqT K H' a xs := by
  rcases h with h | h
  · left
    rcases h with h | ⟨o, h⟩
    · exact .inl (e _ _ h)
    · exact .inr ⟨o, e _ _ h⟩
  · exact .inr h
theorem NewT.self {K : PySem.W.Frag} {H : Hp} {Q : VK} {xs : List V} {a : Addr} (k : NewT K H Q xs) (h : SqT K H a xs) : Q (.ref a) H := k a H (Same.refl H) h
theorem NewT.new {K : PySem.W.Frag} {H : Hp} {Q : VK} {xs : List V} (k : NewT K H Q xs) {p : Addr} (hp : H p = none) : Q (.ref p) (upd H p (.tup xs)) := k p _ (same_upd hp) (SqT.of upd_same)
section
variable {X : Cx}
def rSlU (K : PySem.W.Frag) : V → Option Int → Option Int → Hp → VK → Prop := fun x lo hi H Q => ∃ a xs, x = .ref a ∧ SqT K H a xs ∧ NewT K H Q (cutV xs lo hi)
theorem sl_tupU : SlR X (rSlU X.K) := by
  intro pins s σ H x v vl vu lo hi sl Q I rx hs pl pu h
  obtain ⟨a, xs, rfl, hx, k⟩ := h
  refine sl_tupA pins s σ H _ v vl vu lo hi sl Q I rx hs pl pu ⟨a, xs, rfl, hx, fun e => ?_, fun _ p hp => k.new hp⟩
  refine k.self ?_
  have : cutV xs lo hi = xs := by
    unfold cutV
    rw [e.1, e.2, List.drop_zero, Nat.sub_zero, List.take_of_length_le (Nat.le_refl _)]
  rw [this]
  exact hx
def rCatU (K : PySem.W.Frag) : R2 := fun x y H Q => ∃ a b xs ys, x = .ref a ∧ y = .ref b ∧ SqT K H a xs ∧ SqT K H b ys ∧ xs.length + ys.length ≤ sizeLine ∧ NewT K H Q (xs ++ ys)
theorem op_catU : OpR X (binaryOp .Add) (rCatU X.K) := by
  intro pins s σ H x y v u Q I rx ry h
  obtain ⟨a, b, xs, ys, rfl, rfl, ha, hb, hz, k⟩ := h
  by_cases hx : xs = []
  · subst hx
    cases rx
    cases ry
    obtain ⟨its, r1, p1, _⟩ := I.tuple ha
    obtain ⟨its2, r2, p2, _⟩ := I.tuple hb
    cases r1
    obtain ⟨⟨cls, dd, data, sl⟩, ho, hc, n, hd⟩ := id p1
    obtain ⟨⟨cls2, dd2, data2, sl2⟩, ho2, hc2, n2, hd2⟩ := id p2
    simp only at hc hd hc2 hd2
    subst hc hd hc2 hd2
    exact concat_meets ⟨_, ho, rfl⟩ ⟨_, ho2, rfl⟩ noFill_tuple_add seq_tuple_add PySem.F.slot_tuple_add PySem.F.entry_tuple_add (PySem.F.args_tuple_add_2 _ _)
      (tuple_addW0 a b _ its2.toArray n n2 dd dd2 sl sl2 (by simp)) ⟨ho, ho2, ⟨.ref b, H, I, rfl, k.self hb⟩⟩
  · refine op_catT pins s σ H _ _ v u Q I rx ry ⟨a, b, xs, ys, rfl, rfl, ha, hb, hx, hz, fun e => ?_, fun _ p hp => k.new hp⟩
    subst e
    rw [List.append_nil] at k
    exact k.self ha
def rRepU (K : PySem.W.Frag) : R2 := fun x y H Q => ∃ l k xs, x = .ref l ∧ y = .int k ∧ SqT K H l xs ∧ 0 ≤ k ∧ k ≤ 1000 ∧ xs.length ≤ 1000 ∧ NewT K H Q (List.replicate k.toNat xs).flatten
theorem op_repU : OpR X (binaryOp .Mult) (rRepU X.K) := by
  intro pins s σ H x y v u Q I rx ry h
  obtain ⟨l, k, xs, rfl, rfl, hT, h1, h2, hz, kq⟩ := h
  by_cases hne : xs ≠ [] ∧ 2 ≤ k
  · exact op_repT pins s σ H _ _ v u Q I rx ry ⟨l, k, xs, rfl, rfl, hT, hne.1, hne.2, h2, hz, fun p hp => kq.new hp⟩
  cases rx
  obtain ⟨t, rfl⟩ := ry
  obtain ⟨its, r, ⟨⟨cls, dd, data, sl⟩, ho, hc, n, hd⟩, hs⟩ := I.tuple hT
  simp only at hc hd
  subst hc hd
  have c0 : (decide (k < -(2 ^ 63)) || decide (k ≥ 2 ^ 63)) = false := by
    rw [decide_eq_false (by omega), decide_eq_false (by omega)] <;> rfl
  by_cases hs1 : (its.toArray.isEmpty || k == 1) = true
  · refine wpAny_binaryOp_repeat_ref (T := "tuple") (U := "int") (by decide) ⟨_, ho, rfl⟩ (fun s' => typeIs_int s' k t) noFill_tuple_mul F.fills_int_mul F.slot_int_rmul repeat_tuple F.slot_int_index.lookup
      (call_meets F.slot_int_rmul (typeIs_int s k t) F.entry_int_rmul (F.args_int_rmul_2 _ _) (int_rmul_tuple k t l its.toArray n dd sl)
        ⟨ho, rfl, ⟨_, ho, rfl⟩, call_meets F.slot_tuple_mul ⟨_, ho, rfl⟩ F.entry_tuple_mul (F.args_tuple_mul_2 _ _) (tuple_mulS l its.toArray n dd sl k t c0 hs1) ⟨ho, ?_⟩⟩)
    refine ⟨.ref l, H, I, rfl, kq.self ?_⟩
    rw [Bool.or_eq_true] at hs1
    rcases hs1 with e | e
    · have ei : its = [] := by simpa using e
      have ex : xs = [] := by
        have := r.length
        rw [ei] at this
        exact List.eq_nil_of_length_eq_zero this
      subst ex
      have : (List.replicate k.toNat ([] : List V)).flatten = [] := by simp
      rw [this]
      exact hT
    · have : k = 1 := eq_of_beq e
      subst this
      have : (List.replicate (1 : Int).toNat xs).flatten = xs := by simp
      rw [this]
      exact hT
  · have hs1' : (its.toArray.isEmpty || k == 1) = false := by
      cases e : (its.toArray.isEmpty || k == 1) with
      | false => rfl
      | true => exact absurd e hs1
    have hxs : xs ≠ [] := fun e => by
      subst e
      cases r
      exact hs1 rfl
    have k1 : k ≠ 1 := fun e => by
      rw [e] at hs1'
      simp at hs1'
    have k0 : k = 0 := by
      have : ¬ 2 ≤ k := fun e => hne ⟨hxs, e⟩
      omega
    subst k0
    refine wpAny_binaryOp_repeat_ref (T := "tuple") (U := "int") (by decide) ⟨_, ho, rfl⟩ (fun s' => typeIs_int s' 0 t) noFill_tuple_mul F.fills_int_mul F.slot_int_rmul repeat_tuple F.slot_int_index.lookup
      (call_meets F.slot_int_rmul (typeIs_int s 0 t) F.entry_int_rmul (F.args_int_rmul_2 _ _) (int_rmul_tuple 0 t l its.toArray n dd sl)
        ⟨ho, rfl, ⟨_, ho, rfl⟩, call_meets F.slot_tuple_mul ⟨_, ho, rfl⟩ F.entry_tuple_mul (F.args_tuple_mul_2 _ _) (tuple_mul0 l its.toArray n dd sl 0 t c0 hs1' rfl) ⟨ho, ?_⟩⟩)
    refine ⟨.ref s.heap.objs.size, _, I.laid (t' := s.toks) (o := .tup []) (fun b ob q => Heap.get?_push_of_some _ q) (Nat.le_refl _) ?_, rfl, kq.new (xs := []) (I.hok.fresh (Nat.le_refl _))⟩
    exact ⟨Nat.zero_le _, [], .nil, IsTup.new _ _⟩
end
end WR
set_option Elab.async false
set_option linter.all false
set_option maxRecDepth 100000
set_option maxHeartbeats 1000000
/-! Tuples that have no dict of their own: a method of theirs can be called (t.count(x)). tuple(..), slices, + and * make such. -/
namespace WB
open PySem PySem.Spec PyProof PyProof.Rows L2 WR
/-- no dict of its own -/
def Bare (H : Hp) (a : Addr) : Prop := ∃ (o : Obj) (u : HO), H a = some (.frz o u) ∧ o.dict = none
structure SqB (K : PySem.W.Frag) (H : Hp) (a : Addr) (xs : List V) : Prop where
  sq : SqT K H a xs
  bare : Bare H a
instance {K : PySem.W.Frag} {H : Hp} {a : Addr} {xs : List V} : Coe (SqB K H a xs) (SqT K H a xs) := ⟨SqB.sq⟩
theorem SqB.same {K : PySem.W.Frag} {H H' : Hp} {a : Addr} {xs : List V} (s : Same H H') (h : SqB K H a xs) : SqB K H' a xs := by
  obtain ⟨h1, h2⟩ := h
  refine ⟨WR.Same.seqT s h1, ?_⟩
  obtain ⟨o, u, e, d⟩ := h2
  exact ⟨o, u, s _ _ e, d⟩
/-- some such tuple of these values, all else as it stood -/
def NewB (K : PySem.W.Frag) (H : Hp) (Q : VK) (xs : List V) : Prop := ∀ p H', Same H H' → SqB K H' p xs → Q (.ref p) H'
theorem NewB.self {K : PySem.W.Frag} {H : Hp} {Q : VK} {xs : List V} {a : Addr} (k : NewB K H Q xs) (h : SqB K H a xs) : Q (.ref a) H := k a H (Same.refl H) h
theorem NewB.new {K : PySem.W.Frag} {H : Hp} {Q : VK} {xs : List V} (k : NewB K H Q xs) {p : Addr} (hp : H p = none) {o : Obj} (d : o.dict = none) : Q (.ref p) (upd H p (.frz o (.tup xs))) :=
  k p _ (same_upd hp) ⟨.inl (.inr ⟨o, upd_same⟩), ⟨o, _, upd_same, d⟩⟩
section
variable {X : Cx} {pins : List (Addr × Obj)} {σ : L2.St} {H : Hp} {s : Shared} {Q : VK} {xs : List V} {its : List Value}
/-- a new tuple of these -/
theorem born (I : Inv X pins σ H s) {h1 : Heap} (kp : ∀ b o, s.heap.get? b = some o → h1.get? b = some o) (r : Vals xs its) (hz : xs.length ≤ sizeLine) (k : NewB X.K H Q xs) :
    ∃ (v : V) (H2 : Hp), Inv X pins σ H2 { s with heap := h1.push { cls := .type "tuple", data := .seq its.toArray } } ∧ RelV v (.ref h1.objs.size) ∧ Q v H2 := by
  have J : Inv X pins σ H { s with heap := h1 } := I.kept (t' := s.toks) kp
  have hn := J.hok.fresh (Nat.le_refl h1.objs.size)
  have new : (h1.push { cls := .type "tuple", data := .seq its.toArray }).get? h1.objs.size = some { cls := .type "tuple", data := .seq its.toArray } := Heap.get?_push_size _ rfl
  exact ⟨.ref _, _, J.laid (t' := s.toks) (o := .frz { cls := .type "tuple", data := .seq its.toArray } (.tup xs)) (fun _ _ e => Heap.get?_push_of_some _ e) (Nat.le_refl _) ⟨new, hz, its, r, IsTup.new _ _⟩, rfl, k.new hn rfl⟩
theorem call_tupB : CallR X (.type "tuple") (fun xs H Q => ∃ p ys, xs = [.ref p] ∧ ((SqL X.K H p ys ∧ NewB X.K H Q ys) ∨ (SqB X.K H p ys ∧ Q (.ref p) H))) := by
  intro pins s σ H vs us Q I r h
  obtain ⟨p, ys, rfl, h⟩ := h
  obtain ⟨u, rfl, rx⟩ := vals1 r
  cases rx
  rcases h with ⟨hq, q⟩ | ⟨hq, q⟩
  · obtain ⟨its, rv, pl, hz⟩ := I.list hq
    exact call_tuple_list pl.isList (fun h1 kp => born I kp rv hz q) (by rw [List.size_toArray, ← rv.length]; exact hz)
  · obtain ⟨its, rv, pl, _⟩ := I.tuple hq.sq
    exact call_tuple_same pl ⟨.ref p, H, I, rfl, q⟩
/-- a display -/
theorem pe_tupB {es : List Expr} {t : TA} {pos : Pos} {x1} (h : PA X es t) : PE X (.Tuple es x1 pos) (fun σ H Q => t σ H fun xs H1 => xs.length ≤ sizeLine ∧ NewB X.K H1 Q xs) := by
  constructor
  intro pins s σ H Q I hq
  refine wpAny_Tuple_spliced (thn (h.run pos pins s σ H _ I hq) fun us s1 z => ?_)
  obtain ⟨xs, H1, I1, r, z, q⟩ := z
  exact ⟨by rw [← r.length]; exact z, born I1 (fun _ _ e => e) r z q⟩
def rSlB (K : PySem.W.Frag) : V → Option Int → Option Int → Hp → VK → Prop := fun x lo hi H Q => ∃ a xs, x = .ref a ∧ SqB K H a xs ∧ NewB K H Q (cutV xs lo hi)
theorem sl_tupB : SlR X (rSlB X.K) := by
  intro pins s σ H x v vl vu lo hi sl Q I rx hs pl pu h
  obtain ⟨a, xs, rfl, hx, k⟩ := h
  cases rx
  obtain ⟨its, r, ht, hz⟩ := I.tuple hx.sq
  have hlen : its.toArray.size = xs.length := List.size_toArray.trans r.length.symm
  refine ⟨"tuple", _, PyProof.Rows.slot_tuple_getitem.lookup, ht.typeIs, ?_⟩
  by_cases hw : HT.sIx xs.length 0 lo = 0 ∧ HT.sIx xs.length xs.length hi = xs.length
  · have e : cutV xs lo hi = xs := by
      unfold cutV
      rw [hw.1, hw.2, List.drop_zero, Nat.sub_zero, List.take_of_length_le (Nat.le_refl _)]
    rw [e] at k
    exact getItem_tuple_whole ht hs pl pu (hlen.symm ▸ hw) ⟨.ref a, H, I, rfl, k.self hx⟩
  · refine HT.getItem_tuple_cut ht hs pl pu (hlen.symm ▸ hw) ?_ (hlen.symm ▸ hz)
    rw [hlen]
    exact born I (fun _ _ e => e) ((r.drop _).take _) (Nat.le_trans (cutV_length xs lo hi) hz) k
def rCatB (K : PySem.W.Frag) : R2 := fun x y H Q => ∃ a b xs ys, x = .ref a ∧ y = .ref b ∧ SqB K H a xs ∧ SqB K H b ys ∧ xs.length + ys.length ≤ sizeLine ∧ NewB K H Q (xs ++ ys)
theorem op_catB : OpR X (binaryOp .Add) (rCatB X.K) := by
  intro pins s σ H x y v u Q I rx ry h
  obtain ⟨a, b, xs, ys, rfl, rfl, ha, hb, hz, k⟩ := h
  by_cases hx : xs = []
  · subst hx
    exact op_catA pins s σ H _ _ v u Q I rx ry ⟨a, b, [], ys, rfl, rfl, ha.sq, hb.sq, hz, fun _ => k.self hb, fun z => absurd rfl z, fun z => absurd rfl z⟩
  cases rx
  cases ry
  obtain ⟨its, r1, p1, _⟩ := I.tuple ha.sq
  obtain ⟨its2, r2, p2, _⟩ := I.tuple hb.sq
  refine HT.cat_tup p1 p2 (fun z => hx (r1.nil_iff.mp z)) (fun z => ?_) (fun z => ?_) (r1.length ▸ r2.length ▸ hz)
  · have e := r2.nil_iff.mp z
    subst e
    rw [List.append_nil] at k
    exact ⟨.ref a, H, I, rfl, k.self ha⟩
  · exact born I (fun _ _ e => e) (r1.append r2) (by rw [List.length_append]; exact hz) k
def rRepB (K : PySem.W.Frag) : R2 := fun x y H Q => ∃ l k xs, x = .ref l ∧ y = .int k ∧ SqB K H l xs ∧ 0 ≤ k ∧ k ≤ 1000 ∧ xs.length ≤ 1000 ∧ NewB K H Q (List.replicate k.toNat xs).flatten
theorem op_repB : OpR X (binaryOp .Mult) (rRepB X.K) := by
  intro pins s σ H x y v u Q I rx ry h
  obtain ⟨l, k, xs, rfl, rfl, hT, h1, h2, hz, kq⟩ := h
  cases rx
  obtain ⟨t, rfl⟩ := ry
  obtain ⟨its, r, ⟨⟨cls, dd, data, sl⟩, ho, hc, n, hd⟩, hs⟩ := I.tuple hT.sq
  simp only at hc hd
  subst hc hd
  have c0 : (decide (k < -(2 ^ 63)) || decide (k ≥ 2 ^ 63)) = false := by
    rw [decide_eq_false (by omega), decide_eq_false (by omega)] <;> rfl
  have hle : its.length = xs.length := r.length.symm
  have big : k.toNat * xs.length ≤ 1000 * 1000 := Nat.mul_le_mul (by omega) hz
  have flat : (List.replicate k.toNat xs).flatten.length ≤ sizeLine := by
    rw [PyProof.Rows.lm_len_rep_flat, sizeLine_eq]
    omega
  -- what the slot says is what the operator says
  have slot : ∀ {E : Value → Shared → Prop} {Qv : Value → Shared → Prop}, wpAny (model X.prog X.w) X.A (call (.builtin "tuple.__mul__") [.ref l, .int k t]) Qv E s → wpAny (model X.prog X.w) X.A (binaryOp .Mult (.ref l) (.int k t)) Qv E s := fun hh =>
    wpAny_binaryOp_repeat_ref (T := "tuple") (U := "int") (by decide) ⟨_, ho, rfl⟩ (fun s' => typeIs_int s' k t) noFill_tuple_mul F.fills_int_mul F.slot_int_rmul repeat_tuple F.slot_int_index.lookup
      (call_meets F.slot_int_rmul (typeIs_int s k t) F.entry_int_rmul (F.args_int_rmul_2 _ _) (int_rmul_tuple k t l its.toArray n dd sl) ⟨ho, rfl, ⟨_, ho, rfl⟩, hh⟩)
  refine slot ?_
  by_cases hs1 : (its.toArray.isEmpty || k == 1) = true
  · refine call_meets F.slot_tuple_mul ⟨_, ho, rfl⟩ F.entry_tuple_mul (F.args_tuple_mul_2 _ _) (tuple_mulS l its.toArray n dd sl k t c0 hs1) ⟨ho, ?_⟩
    have e : (List.replicate k.toNat xs).flatten = xs := by
      rcases Bool.or_eq_true_iff.mp hs1 with e | e
      · have e0 : xs = [] := List.eq_nil_of_length_eq_zero (by rw [← hle]; simpa using e)
        rw [e0]
        simp
      · rw [show k = 1 from eq_of_beq e]
        simp
    rw [e] at kq
    exact ⟨.ref l, H, I, rfl, kq.self hT⟩
  · have hs2 := Bool.eq_false_iff.mpr hs1
    obtain ⟨n1, n2⟩ := Bool.or_eq_false_iff.mp hs2
    by_cases k0 : k = 0
    · subst k0
      refine call_meets F.slot_tuple_mul ⟨_, ho, rfl⟩ F.entry_tuple_mul (F.args_tuple_mul_2 _ _) (tuple_mul0 l its.toArray n dd sl 0 t c0 hs2 rfl) ⟨ho, ?_⟩
      exact born (its := []) I (fun _ _ e => e) .nil (Nat.zero_le _) kq
    · have c2 : (decide (k ≤ 0) || its.toArray.isEmpty) = false := by rw [n1, Bool.or_false, decide_eq_false (by omega)]
      have hsz : its.toArray.size = xs.length := List.size_toArray.trans hle
      have c3 : ((its.toArray.size : Nat) : Int) * k ≤ 1000000 := by
        rw [hsz]
        have : ((xs.length : Nat) : Int) * k ≤ 1000 * 1000 := Int.mul_le_mul (by omega) h2 h1 (by omega)
        omega
      have c4 : Builtin.Tuple.tupleTooMany (((its.toArray.size : Nat) : Int) * k) = false := by
        unfold Builtin.Tuple.tupleTooMany
        rw [sizeLine_eq, decide_eq_false (by omega)]
      have many : (List.replicate k.toNat its).flatten.length ≤ sizeLine := by rw [PyProof.Rows.lm_len_rep_flat, hle, sizeLine_eq]; omega
      refine call_meets F.slot_tuple_mul ⟨_, ho, rfl⟩ F.entry_tuple_mul (F.args_tuple_mul_2 _ _) (tuple_mulW l its.toArray n dd sl k t c0 hs2 c2 (by omega) c4 (by rw [size_rep, List.size_toArray]; exact many)) ⟨ho, ?_⟩
      rw [size_rep]
      exact born I (fun _ _ e => e) (r.rep k.toNat) flat kq
end
end WB
set_option Elab.async false
set_option linter.all false
set_option maxRecDepth 100000
set_option maxHeartbeats 2000000
/-! Words: rows of letters. -/
namespace W04
open PySem L2 PySem.Spec PyProof.Rows WR WB
def top (i : Nat) : Stmt := PySem.Challenge.pw_handlerims_k04_words_made_read_put_behin.main.body.getD i (.Pass ⟨0, 0, 0, 0⟩)
abbrev sCon : Stmt := top 17
abbrev sShr : Stmt := top 18
abbrev sRnd : Stmt := top 19

theorem gen_heap {P : Hp → Prop} {H : Hp} (h : ∀ H3, H3 = H → P H3) : P H := h H rfl
theorem yes_te {σ : L2.St} {H : Hp} {A B : Hp → Prop} (h : A H) : tYes σ H (fun b H3 => if b = true then A H3 else B H3) := by
  show (if (true : Bool) = true then A H else B H)
  exact iteT h
/-! ### a def that the module's name x holds, with its promise -/
structure Cal (P : Program) (w : World) (K : PySem.W.Frag) (mg : Str → Option Value) (base : Heap) (x : Str) (k : Nat) (ps : List Str) (sp : Sp) : Prop where
  ex : ∃ (f : Addr) (fd : FuncData), FnOk P w K mg base CX0 k f fd ps sp ∧ mg x = some (.ref f) ∧ PySem.W.keepIn K (.ref f) = true ∧ Binds K fd ps []
section
variable {X : Cx} {x : Str} {k j : Nat} {ps : List Str} {sp : Sp} {p pos : Pos} {e : Expr} {es : List Expr} {t : TA}
theorem pe_cal (C : Cal X.prog X.w X.K X.mg X.base x k ps sp) (hr : Room j X.A) (hkj : k ≤ j) (hg : Gl X x) (ha : PA X (e :: es) t) (hdb : (x == ("__debug__" : Str)) = false := by decide)
    (he : starEach (e :: es) X.env = (false, eval e X.env) :: starEach es X.env := by rfl) (hpl : (backTo pos (starEach es X.env)).any (·.1) = false := by rfl) :
    PE X (.Call (.Name x p) (e :: es) [] pos) (tCall sp [] E0 t) := by
  obtain ⟨f, fd, F, hm, hk, hb⟩ := C.ex
  exact pe_call F (hr.mono hkj) hg hm hk hb .nil pass0 ha hdb he hpl
end
/-! ### comprehensions that change nothing -/
theorem lc_in {wi : TI} {g : TG} {tt : TT} {te : TE} {vs : List Nat} {σ : L2.St} {H : Hp} {Q : VK} (h : wi σ H fun J H1 => tLc (fun _ H R => R J H) g tt te vs σ H1 Q) : tLc wi g tt te vs σ H Q := h
theorem lcp {J : It} {xs : List V} {G : Hp → Prop} (w : Walk J xs.length G (YAt xs)) {g : TG} {tt : TT} {te : TE} {vs : List Nat} {σ : L2.St} {H1 : Hp} {Q : VK} (f : V → Bool) (v : V → V) (hz : xs.length < 40000) (hG : ∀ H, Same H1 H → G H)
    (hs : ∀ x, x ∈ xs → ∀ H, Same H1 H → ∀ (Qy : V → Hp → Prop) (Qn : Hp → Prop), (f x = true → ∀ H', Same H H' → Qy (v x) H') → (f x = false → ∀ H', Same H H' → Qn H') →
      g x (wipe σ vs) H fun σ2 H2 => wipe σ2 vs = wipe σ vs ∧ tt σ2 H2 fun b H3 => if b = true then te σ2 H3 Qy else Qn H3)
    (hd : ∀ (D : Addr) H', H1 D = none → Same H1 H' → H' D = some (.lst ((xs.filter f).map v)) → Q (.ref D) H') : tLc (fun _ H R => R J H) g tt te vs σ H1 Q := by
  intro D hD
  refine lc_it w (fun i H => Same H1 H ∧ H D = some (.lst (((xs.take i).filter f).map v))) ⟨fun b o e => by rw [upd_ne (ne_of_none e hD)]; exact e, upd_same⟩ (fun i H _ q => hG H q.1) ?_ ?_
  · rintro i x H H' hi q ⟨rfl, hx⟩
    have hm : x ∈ xs := List.mem_of_getElem? hx
    have et : xs.take (i + 1) = xs.take i ++ [x] := by
      have hx2 : xs[i] = x := (List.getElem?_eq_some_iff.mp hx).2
      rw [List.take_succ_eq_append_getElem hi, hx2]
    refine hs x hm H' q.1 _ _ (fun hf H2 s2 => ⟨_, s2 _ _ q.2, ?_, ?_, ?_⟩) (fun hf H2 s2 => ⟨fun b o e => s2 b o (q.1 b o e), ?_⟩)
    · refine Evl.sz_lt ?_
      rw [List.length_map]
      have := List.length_filter_le f (xs.take i)
      rw [List.length_take] at this
      omega
    · intro b o e
      rw [upd_ne (ne_of_none e hD)]
      exact s2 b o (q.1 b o e)
    · rw [upd_same, et, List.filter_append, List.map_append, List.filter_cons, if_pos hf]
      rfl
    · rw [et, List.filter_append, List.filter_cons, if_neg (by rw [hf]; decide)]
      show H2 D = some (.lst (((xs.take i).filter f ++ []).map v))
      rw [List.append_nil]
      exact s2 _ _ q.2
  · intro H q
    have q2 := q.2
    rw [List.take_length] at q2
    exact hd D H hD q.1 q2

theorem ret_cb {r : List V → Hp → VK → Prop} {te : TE} {D : Ends} {σ : L2.St} {H : Hp} (h : te σ H fun x H1 => r [x] H1 D.rt) : tRet (tCB r (tCons te tNil)) D σ H := h
theorem ret_e {te : TE} {D : Ends} {σ : L2.St} {H : Hp} (h : te σ H D.rt) : tRet te D σ H := h
theorem iteT' {c : Bool} {A B : Prop} (hc : c = true) (h : A) : if c = true then A else B := by rw [if_pos hc]; exact h
abbrev iv (ns : List Int) : List V := ns.map V.int
def SqE (K : PySem.W.Frag) (H : Hp) (a : Addr) (xs : List V) : Prop := SqL K H a xs ∨ SqT K H a xs
theorem SqE.same {K : PySem.W.Frag} {H H' : Hp} {a : Addr} {xs : List V} (h : SqE K H a xs) (s : Same H H') : SqE K H' a xs := by
  rcases h with h | h
  · exact .inl (s.seq h)
  · exact .inr (WR.Same.seqT s h)
def SqW (K : PySem.W.Frag) (H : Hp) (a : Addr) (xs : List V) : Prop := SqL K H a xs ∨ SqB K H a xs
theorem SqW.same {K : PySem.W.Frag} {H H' : Hp} {a : Addr} {xs : List V} (h : SqW K H a xs) (s : Same H H') : SqW K H' a xs := by
  rcases h with h | h
  · exact .inl (s.seq h)
  · exact .inr (SqB.same s h)
theorem SqW.e {K : PySem.W.Frag} {H : Hp} {a : Addr} {xs : List V} (h : SqW K H a xs) : SqE K H a xs := h.imp id SqB.sq
def spCon (K : PySem.W.Frag) : Sp := fun vs H Q _ => ∃ (a : Addr) (ns : List Int), vs = [.ref a] ∧ SqT K H a (iv ns) ∧ ns.length ≤ 1000 ∧ NewB K H Q (iv (Fr.con ns))
def spShr (K : PySem.W.Frag) : Sp := fun vs H Q _ => ∃ (a : Addr) (ns : List Int), vs = [.ref a] ∧ SqE K H a (iv ns) ∧ ns.length ≤ 1000 ∧ NewB K H Q (iv (Fr.shr ns))
def spRnd (K : PySem.W.Frag) : Sp := fun vs H Q _ => ∃ (a : Addr) (ns : List Int), vs = [.ref a] ∧ SqE K H a (iv ns) ∧ ns.length ≤ 1000 ∧ Fr.NZ ns ∧ NewB K H Q (iv (Fr.rnd ns))
structure TxA (mg : Str → Option Value) : Prop where
  tuple : mg "tuple" = none
  len : mg "len" = none
section
variable {P : Program} {w : World} {K : PySem.W.Frag} {mg : Str → Option Value} {base : Heap}
theorem scCon : FnScope ["letters", "letter"] ["letters"] (defScope sCon) := ⟨rfl, rfl, rfl, by decide +kernel, rfl, by decide +kernel, by decide +kernel⟩
theorem ok_con {f : Addr} {fd : FuncData} (F : Fun K "contrary_letters" "contrary_letters" sCon f fd) (T : TxA mg) : FnOk P w K mg base CX0 1 f fd ["letters"] (spCon K) := by
  refine F.ok scCon (fun vs H Q E h => ?_) (fun cdv A outer s H vs Q E hr h => ?_)
  · obtain ⟨a, ns, rfl, _⟩ := h
    rfl
  · obtain ⟨a, ns, rfl, hS, hlen, k⟩ := h
    refine ⟨_, pss_one (ps_ret (pe_callTy call_tupB (by rfl) T.tuple (by decide +kernel) (pa_cons (pe_lc (own := [("letter", 1)]) (g := gName 1) (tt := tYes) rfl scCon.nd (pi_tup (pe_revT (pv 0)))
      (blkOk_by (N := ["letters", "letter"]) (sc := defScope sCon) (by decide +kernel)) (fun _ _ _ _ _ => pg_name (i := 1) scCon.nd rfl (Or.inl rfl)) (fun _ _ _ _ _ => pts_nil)
      (fun _ _ _ _ _ => pe_un un_neg (pv 1))) pa_nil))), ?_⟩
    refine ret_cb (lc_in ?_)
    refine ⟨_, rfl, a, iv ns, rfl, hS, fun p hp => ?_⟩
    refine ⟨p, rfl, ⟨_, SqT.of upd_same⟩, ?_⟩
    refine lcp (walk_tup (xs := (iv ns).reverse)) (fun _ => true) (fun x => match x with | .int i => .int (-i) | _ => .non) (by simp; omega) (fun H2 s2 => SqT.of (s2 _ _ upd_same)) ?_ ?_
    · intro x hx H2 s2 Qy Qn ky kn
      obtain ⟨i, rfl⟩ : ∃ i, x = V.int i := by
        simp at hx
        obtain ⟨i, _, rfl⟩ := hx
        exact ⟨i, rfl⟩
      refine ⟨rfl, yes_te ?_⟩
      exact ⟨_, rfl, i, rfl, ky rfl H2 (fun _ _ e => e)⟩
    · intro D H2 hD s2 h2
      refine ⟨D, _, rfl, .inl ⟨SqL.of h2, ?_⟩⟩
      have e : (((iv ns).reverse.filter fun _ => true).map fun x => match x with | .int i => V.int (-i) | _ => .non) = iv (Fr.con ns) := by
        rw [List.filter_eq_self.mpr (fun _ _ => rfl)]
        unfold Fr.con
        simp [iv, List.map_reverse, Function.comp_def]
      rw [e]
      exact fun l H3 s3 b3 => k l H3 ((same_upd hp).trans (s2.trans s3)) b3
theorem scShr : FnScope ["letters", "left", "letter"] ["letters"] (defScope sShr) := ⟨rfl, rfl, rfl, by decide +kernel, rfl, by decide +kernel, by decide +kernel⟩
theorem act_take {ns : List Int} {i : Nat} {x : Int} (h : ns[i]? = some x) : Fr.act [] (ns.take (i + 1)) = Fr.push (Fr.act [] (ns.take i)) x := by
  have hi : i < ns.length := (List.getElem?_eq_some_iff.mp h).1
  have hx : ns[i] = x := (List.getElem?_eq_some_iff.mp h).2
  rw [List.take_succ_eq_append_getElem hi, hx, Fr.act_snoc]
theorem act_len : ∀ (ns s : List Int), (Fr.act s ns).length ≤ s.length + ns.length
  | [], s => by simp [Fr.act]
  | a :: t, s => by
    rw [Fr.act_cons]
    have h1 := act_len t (Fr.push s a)
    have h2 : (Fr.push s a).length ≤ s.length + 1 := by
      cases s with
      | nil => simp [Fr.push]
      | cons b u =>
        show (if b = -a then u else a :: b :: u).length ≤ _
        split <;> simp <;> omega
    simp only [List.length_cons]
    omega
theorem shr_len (ns : List Int) : (Fr.shr ns).length ≤ ns.length := by
  unfold Fr.shr
  rw [List.length_reverse]
  simpa using act_len ns []
theorem ok_shr {f : Addr} {fd : FuncData} (F : Fun K "shortened_letters" "shortened_letters" sShr f fd) (T : TxA mg) : FnOk P w K mg base CX0 1 f fd ["letters"] (spShr K) := by
  refine F.ok scShr (fun vs H Q E h => ?_) (fun cdv A outer s H vs Q E hr h => ?_)
  · obtain ⟨a, ns, rfl, _⟩ := h
    rfl
  · obtain ⟨a, ns, rfl, hS, hlen, k⟩ := h
    rcases hS with hS | hS
    · refine ⟨_, pss_cons (ps_set (i := 1) scShr.nd rfl (Or.inl rfl) (pe_lst pa_nil))
        (pss_cons (ps_for PassesOwn.never rfl (pi_list (pv 0)) (pg_name (i := 2) scShr.nd rfl (Or.inl rfl))
          (pss_one (ps_if (PW.pt (pw_and (pt_truth (pv 1) (by intro _; rfl)) (pw_and1 (pt_cmpR op_eq (pe_ix ix_list (pv 1) (pe_un un_neg pe_int) (fun _ _ => rfl)) (pe_un un_neg (pv 2)) (nomark _)))))
            (pss_one (ps_expr (pe_bm0 PySem.F.plainAttrs_list PySem.F.slot_list_pop PySem.F.type_list_pop mt_pop (pv 1))))
            (pss_one (ps_expr (pe_bm PySem.F.plainAttrs_list PySem.F.slot_list_append PySem.F.type_list_append mt_append (pv 1) (pa_cons (pv 2) pa_nil)))))))
        (pss_one (ps_ret (pe_callTy call_tupB (by rfl) T.tuple (by decide +kernel) (pa_cons (pv 1) pa_nil))))), ?_⟩
      refine ⟨Nat.zero_le _, fun l hl => ?_⟩
      refine ⟨_, rfl, a, rfl, ⟨_, (by have s := same_upd (o := HO.lst []) hl; exact (s.seq hS))⟩, for_list (K := K) (a := a) (xs := iv ns) (fun i σ H1 => ∃ v, σ = [some (.ref a), some (.ref l), v] ∧ Same H H1 ∧ H1 l = some (.lst (iv (Fr.act [] (ns.take i)).reverse)))
        ⟨none, rfl, same_upd hl, by rw [upd_same]; rfl⟩ (fun i σ H1 _ ⟨_, _, s, _⟩ => (s.seq hS)) ?_ ?_⟩
      · rintro i y σ H1 hi ⟨v, rfl, sm, hL⟩
        obtain ⟨x, hx, rfl⟩ : ∃ x, ns[i]? = some x ∧ y = V.int x := by
          rw [List.getElem?_map] at hi
          cases e : ns[i]? with
          | none => rw [e] at hi; cases hi
          | some x => rw [e] at hi; exact ⟨x, rfl, (Option.some.inj hi).symm⟩
        have hi2 : i < ns.length := (List.getElem?_eq_some_iff.mp hx).1
        have nx := act_take hx
        have hsz : (Fr.act [] (ns.take i)).length ≤ 1000 := by
          have := act_len (ns.take i) []
          rw [List.length_take] at this
          simp at this
          omega
        have put : ∀ xs, Same H (L2.upd H1 l (.lst xs)) := fun xs b o e => by
          rw [upd_ne (ne_of_none e hl)]
          exact sm b o e
        refine ⟨_, rfl, _, .inl ⟨_, SqL.of hL, rfl⟩, ?_⟩
        cases est : Fr.act [] (ns.take i) with
        | nil =>
          rw [est] at hL nx
          refine iteF ?_
          refine iteF ?_
          refine ⟨_, rfl, .inl ⟨rfl, _, SqL.of hL⟩, _, rfl, l, _, _, rfl, rfl, hL, Evl.sz_lt (by simp), ?_⟩
          refine ⟨_, rfl, put _, ?_⟩
          rw [upd_same, nx]
          rfl
        | cons b t =>
          rw [est] at hL nx hsz
          have eL : iv (b :: t).reverse = iv t.reverse ++ [V.int b] := by simp [iv]
          refine iteT' (by simp [iv]) ?_
          refine ⟨_, rfl, _, rfl, l, _, _, _, rfl, rfl, SqL.of hL, (by rw [eL]; exact atI_last _ _), _, rfl, x, rfl, rfl, _, rfl, ?_⟩
          refine ite2 (fun hb => ?_) (fun hb => ?_)
          · have eb : b = -x := by
              have := of_decide_eq_true hb
              injection this
            refine ⟨_, rfl, .inl ⟨rfl, _, SqL.of hL⟩, l, _, V.int b, rfl, rfl, hL, (by rw [eL]; simp), ?_⟩
            refine ⟨_, rfl, put _, ?_⟩
            rw [upd_same, nx]
            have : Fr.push (b :: t) x = t := by simp [Fr.push, eb]
            rw [this, eL, List.dropLast_concat]
          · have eb : ¬ b = -x := fun e => hb (decide_eq_true (by rw [e]))
            refine ⟨_, rfl, .inl ⟨rfl, _, SqL.of hL⟩, _, rfl, l, _, _, rfl, rfl, hL, Evl.sz_lt (by simp [iv] at hsz ⊢; omega), ?_⟩
            refine ⟨_, rfl, put _, ?_⟩
            rw [upd_same, nx]
            have : Fr.push (b :: t) x = x :: b :: t := by simp [Fr.push, eb]
            rw [this]
            simp [iv]
      · rintro σ H1 ⟨v, rfl, sm, hL⟩
        rw [List.take_of_length_le (by simp)] at hL
        exact ⟨_, rfl, l, _, rfl, .inl ⟨SqL.of hL, fun p H3 s3 b3 => k p H3 (sm.trans s3) b3⟩⟩
    · refine ⟨_, pss_cons (ps_set (i := 1) scShr.nd rfl (Or.inl rfl) (pe_lst pa_nil))
        (pss_cons (ps_for PassesOwn.never rfl (pi_tup (pv 0)) (pg_name (i := 2) scShr.nd rfl (Or.inl rfl))
          (pss_one (ps_if (PW.pt (pw_and (pt_truth (pv 1) (by intro _; rfl)) (pw_and1 (pt_cmpR op_eq (pe_ix ix_list (pv 1) (pe_un un_neg pe_int) (fun _ _ => rfl)) (pe_un un_neg (pv 2)) (nomark _)))))
            (pss_one (ps_expr (pe_bm0 PySem.F.plainAttrs_list PySem.F.slot_list_pop PySem.F.type_list_pop mt_pop (pv 1))))
            (pss_one (ps_expr (pe_bm PySem.F.plainAttrs_list PySem.F.slot_list_append PySem.F.type_list_append mt_append (pv 1) (pa_cons (pv 2) pa_nil)))))))
        (pss_one (ps_ret (pe_callTy call_tupB (by rfl) T.tuple (by decide +kernel) (pa_cons (pv 1) pa_nil))))), ?_⟩
      refine ⟨Nat.zero_le _, fun l hl => ?_⟩
      refine ⟨_, rfl, a, rfl, ⟨_, (by have s := same_upd (o := HO.lst []) hl; exact (WR.Same.seqT s hS))⟩, for_tup (K := K) (a := a) (xs := iv ns) (fun i σ H1 => ∃ v, σ = [some (.ref a), some (.ref l), v] ∧ Same H H1 ∧ H1 l = some (.lst (iv (Fr.act [] (ns.take i)).reverse)))
        ⟨none, rfl, same_upd hl, by rw [upd_same]; rfl⟩ (fun i σ H1 _ ⟨_, _, s, _⟩ => (WR.Same.seqT s hS)) ?_ ?_⟩
      · rintro i y σ H1 hi ⟨v, rfl, sm, hL⟩
        obtain ⟨x, hx, rfl⟩ : ∃ x, ns[i]? = some x ∧ y = V.int x := by
          rw [List.getElem?_map] at hi
          cases e : ns[i]? with
          | none => rw [e] at hi; cases hi
          | some x => rw [e] at hi; exact ⟨x, rfl, (Option.some.inj hi).symm⟩
        have hi2 : i < ns.length := (List.getElem?_eq_some_iff.mp hx).1
        have nx := act_take hx
        have hsz : (Fr.act [] (ns.take i)).length ≤ 1000 := by
          have := act_len (ns.take i) []
          rw [List.length_take] at this
          simp at this
          omega
        have put : ∀ xs, Same H (L2.upd H1 l (.lst xs)) := fun xs b o e => by
          rw [upd_ne (ne_of_none e hl)]
          exact sm b o e
        refine ⟨_, rfl, _, .inl ⟨_, SqL.of hL, rfl⟩, ?_⟩
        cases est : Fr.act [] (ns.take i) with
        | nil =>
          rw [est] at hL nx
          refine iteF ?_
          refine iteF ?_
          refine ⟨_, rfl, .inl ⟨rfl, _, SqL.of hL⟩, _, rfl, l, _, _, rfl, rfl, hL, Evl.sz_lt (by simp), ?_⟩
          refine ⟨_, rfl, put _, ?_⟩
          rw [upd_same, nx]
          rfl
        | cons b t =>
          rw [est] at hL nx hsz
          have eL : iv (b :: t).reverse = iv t.reverse ++ [V.int b] := by simp [iv]
          refine iteT' (by simp [iv]) ?_
          refine ⟨_, rfl, _, rfl, l, _, _, _, rfl, rfl, SqL.of hL, (by rw [eL]; exact atI_last _ _), _, rfl, x, rfl, rfl, _, rfl, ?_⟩
          refine ite2 (fun hb => ?_) (fun hb => ?_)
          · have eb : b = -x := by
              have := of_decide_eq_true hb
              injection this
            refine ⟨_, rfl, .inl ⟨rfl, _, SqL.of hL⟩, l, _, V.int b, rfl, rfl, hL, (by rw [eL]; simp), ?_⟩
            refine ⟨_, rfl, put _, ?_⟩
            rw [upd_same, nx]
            have : Fr.push (b :: t) x = t := by simp [Fr.push, eb]
            rw [this, eL, List.dropLast_concat]
          · have eb : ¬ b = -x := fun e => hb (decide_eq_true (by rw [e]))
            refine ⟨_, rfl, .inl ⟨rfl, _, SqL.of hL⟩, _, rfl, l, _, _, rfl, rfl, hL, Evl.sz_lt (by simp [iv] at hsz ⊢; omega), ?_⟩
            refine ⟨_, rfl, put _, ?_⟩
            rw [upd_same, nx]
            have : Fr.push (b :: t) x = x :: b :: t := by simp [Fr.push, eb]
            rw [this]
            simp [iv]
      · rintro σ H1 ⟨v, rfl, sm, hL⟩
        rw [List.take_of_length_le (by simp)] at hL
        exact ⟨_, rfl, l, _, rfl, .inl ⟨SqL.of hL, fun p H3 s3 b3 => k p H3 (sm.trans s3) b3⟩⟩
end
end W04
set_option Elab.async false
set_option linter.all false
set_option maxRecDepth 100000
set_option maxHeartbeats 2000000
namespace W04
open PySem L2 PySem.Spec PyProof.Rows WR WB
section
variable {P : Program} {w : World} {K : PySem.W.Frag} {mg : Str → Option Value} {base : Heap}
theorem iteF' {c : Bool} {A B : Prop} (hc : c = false) (h : B) : if c = true then A else B := by rw [if_neg (by rw [hc]; exact Bool.false_ne_true)]; exact h
theorem iv_get {ns : List Int} {i : Nat} {x : Int} (h : ns[i]? = some x) : (iv ns)[i]? = some (V.int x) := by
  rw [List.getElem?_map, h]
  rfl
theorem con_get {u : List Int} {j : Nat} (h : j < u.length) : (Fr.con u)[u.length - 1 - j]? = some (-u[j]) := by
  unfold Fr.con
  rw [List.getElem?_map, List.getElem?_reverse (by omega)]
  have e : u.length - 1 - (u.length - 1 - j) = j := by omega
  rw [e, List.getElem?_eq_getElem h]
  rfl
theorem whole_len (u w : List Int) : (u ++ w ++ Fr.con u).length = 2 * u.length + w.length := by
  rw [List.length_append, List.length_append, Fr.con_length]
  omega
theorem whole_lo {u w : List Int} {j : Nat} (h : j < u.length) : (u ++ w ++ Fr.con u)[j]? = some u[j] := by
  rw [List.append_assoc, List.getElem?_append_left h, List.getElem?_eq_getElem h]
theorem whole_hi {u w : List Int} {j : Nat} (h : j < u.length) : (u ++ w ++ Fr.con u)[2 * u.length + w.length - 1 - j]? = some (-u[j]) := by
  rw [List.getElem?_append_right (by rw [List.length_append]; omega), List.length_append]
  have e : 2 * u.length + w.length - 1 - j - (u.length + w.length) = u.length - 1 - j := by omega
  rw [e, con_get h]
theorem mid_lo {u w : List Int} (hw : w ≠ []) : (u ++ w ++ Fr.con u)[u.length]? = w.head? := by
  have : 0 < w.length := List.length_pos_iff.mpr hw
  rw [List.append_assoc, List.getElem?_append_right (Nat.le_refl _), Nat.sub_self, List.getElem?_append_left this, List.head?_eq_getElem?]
theorem mid_hi {u w : List Int} (hw : w ≠ []) : (u ++ w ++ Fr.con u)[2 * u.length + w.length - 1 - u.length]? = w.getLast? := by
  have : 0 < w.length := List.length_pos_iff.mpr hw
  rw [List.append_assoc, List.getElem?_append_right (by omega)]
  have e : 2 * u.length + w.length - 1 - u.length - u.length = w.length - 1 := by omega
  rw [e, List.getElem?_append_left (by omega), List.getLast?_eq_getElem?]
theorem whole_cut (u w : List Int) : ((u ++ w ++ Fr.con u).drop u.length).take w.length = w := by
  rw [List.append_assoc, List.drop_left, List.take_left]
theorem scRnd : FnScope ["letters", "left", "skipped"] ["letters"] (defScope sRnd) := ⟨rfl, rfl, rfl, by decide +kernel, rfl, by decide +kernel, by decide +kernel⟩
theorem cut_nat {xs : List V} {i j : Nat} (hi : i ≤ xs.length) (hj : j ≤ xs.length) : cutV xs (some (i : Int)) (some (j : Int)) = (xs.drop i).take (j - i) := by
  unfold cutV
  rw [HT.sIx_nat, HT.sIx_nat, Nat.min_eq_left hi, Nat.min_eq_left hj]
theorem ok_rnd {f : Addr} {fd : FuncData} (F : Fun K "rounded_letters" "rounded_letters" sRnd f fd) (GS : Cal P w K mg base "shortened_letters" 1 ["letters"] (spShr K)) (T : TxA mg) : FnOk P w K mg base CX0 2 f fd ["letters"] (spRnd K) := by
  refine F.ok scRnd (fun vs H Q E h => ?_) (fun cdv A outer s H vs Q E hr h => ?_)
  · obtain ⟨a, ns, rfl, _⟩ := h
    rfl
  · obtain ⟨a, ns, rfl, hS, hlen, nz, k⟩ := h
    refine ⟨_, pss_cons (ps_set (i := 1) scRnd.nd rfl (Or.inl rfl) (pe_cal GS hr (by decide) (by rfl) (pa_cons (pv 0) pa_nil)))
      (pss_cons (ps_set (i := 2) scRnd.nd rfl (Or.inl rfl) pe_int)
      (pss_cons (ps_while PassesOwn.never (PW.pt (pw_and (pt_cmpR op_lt (pe_op op_mul pe_int (pv 2)) (pe_callB call_len_seq (by rfl) T.len PySem.boot_len (pa_cons (pv 1) pa_nil)) (nomark _))
          (pw_and1 (pt_cmpR op_eq (pe_ix ix_tup (pv 1) (pv 2) (fun _ _ => rfl)) (pe_un un_neg (pe_ix ix_tup (pv 1) (pe_op op_sub (pe_op op_sub (pe_callB call_len_seq (by rfl) T.len PySem.boot_len (pa_cons (pv 1) pa_nil)) pe_int) (pv 2)) (fun _ _ => rfl))) (nomark _)))))
        (pss_one (ps_aug (i := 2) scRnd.nd rfl (Or.inl rfl) pe_int ip_add)))
      (pss_one (ps_ret (pe_slice sl_tupB (pv 1) (po_some (pv 2)) (po_some (pe_op op_sub (pe_callB call_len_seq (by rfl) T.len PySem.boot_len (pa_cons (pv 1) pa_nil)) (pv 2)))))))), ?_⟩
    refine ⟨_, rfl, a, ns, rfl, hS, hlen, fun p H1 sm hPB => ?_⟩
    obtain ⟨u, m, e, c, z⟩ := Fr.parted (Fr.shr ns) nz.shr (Fr.rd_shr ns)
    have er : Fr.rnd ns = m := by
      unfold Fr.rnd
      rw [e, Fr.ends_eq c z]
    rw [er] at k
    have hl := shr_len ns
    rw [e] at hPB hl
    have hP := hPB.sq
    rw [whole_len] at hl
    have L : (iv (u ++ m ++ Fr.con u)).length = 2 * u.length + m.length := by rw [List.length_map, whole_len]
    refine ⟨fun n σ H' => ∃ j, n = u.length - j ∧ j ≤ u.length ∧ σ = [some (.ref a), some (.ref p), some (.int ((j : Nat) : Int))] ∧ H' = H1, ⟨_, 0, rfl, Nat.zero_le _, rfl, rfl⟩, ?_⟩
    rintro n σ H' ⟨j, rfl, hj, rfl, rfl⟩
    refine ⟨_, rfl, _, _, rfl, rfl, .inl ⟨by decide, by decide⟩, _, rfl, p, _, rfl, .inr hP, _, _, rfl, rfl, _, rfl, ?_⟩
    have hback : ((iv (u ++ m ++ Fr.con u)).length : Int) - 1 - (j : Int) = ((2 * u.length + m.length - 1 - j : Nat) : Int) ∨ 2 * u.length + m.length = 0 := by
      rw [L]
      by_cases h0 : 2 * u.length + m.length = 0
      · exact .inr h0
      · left; omega
    by_cases hlt : j < u.length
    · refine iteT' (decide_eq_true (by rw [L]; omega)) ?_
      have hb := hback.resolve_right (by omega)
      refine ⟨_, rfl, _, rfl, p, _, _, _, rfl, rfl, hP, atI_nat (iv_get (whole_lo hlt)), ?_⟩
      refine ⟨_, rfl, _, rfl, p, _, rfl, .inr hP, _, _, rfl, rfl, _, rfl, _, _, rfl, rfl, p, _, _, _, rfl, rfl, hP, (by rw [hb]; exact atI_nat (iv_get (whole_hi hlt))), _, rfl, rfl, _, rfl, ?_⟩
      refine iteT' (decide_eq_true (by show V.int _ = V.int (- -_); rw [Int.neg_neg])) ?_
      refine ⟨fun σ' H'' => ∃ j', u.length - (j + 1) = u.length - j' ∧ j' ≤ u.length ∧ σ' = [some (.ref a), some (.ref p), some (.int ((j' : Nat) : Int))] ∧ H'' = H', fun σ' H'' ⟨j', q1, q2, q3, q4⟩ => ⟨_, by omega, j', q1, q2, q3, q4⟩, ?_⟩
      refine ⟨_, rfl, _, _, rfl, rfl, ?_⟩
      exact ⟨j + 1, rfl, hlt, by rfl, rfl⟩
    · have hj2 : j = u.length := by omega
      subst hj2
      have fin : NewB K H' Q (cutV (iv (u ++ m ++ Fr.con u)) (some ((u.length : Nat) : Int)) (some (((iv (u ++ m ++ Fr.con u)).length : Int) - ((u.length : Nat) : Int)))) := by
        have e1 : ((iv (u ++ m ++ Fr.con u)).length : Int) - ((u.length : Nat) : Int) = ((u.length + m.length : Nat) : Int) := by rw [L]; omega
        rw [e1, cut_nat (by rw [L]; omega) (by rw [L]; omega)]
        have e2 : u.length + m.length - u.length = m.length := by omega
        rw [e2]
        have e3 : ((iv (u ++ m ++ Fr.con u)).drop u.length).take m.length = iv m := by
          rw [← List.map_drop, ← List.map_take, whole_cut]
        rw [e3]
        exact fun q H2 s2 h2 => k q H2 (sm.trans s2) h2
      by_cases hm : m = []
      · have hu := z hm
        refine iteF' (decide_eq_false (by rw [L, hm, hu]; simp)) ?_
        refine iteF ?_
        exact ⟨_, rfl, _, rfl, _, rfl, _, rfl, p, _, rfl, .inr hP, _, rfl, _, _, rfl, rfl, _, rfl, p, _, rfl, hPB, fin⟩
      · refine iteT' (decide_eq_true (by have := List.length_pos_iff.mpr hm; rw [L]; omega)) ?_
        have hb := hback.resolve_right (by have := List.length_pos_iff.mpr hm; omega)
        obtain ⟨x, hx⟩ : ∃ x, m.head? = some x := by
          cases m with
          | nil => exact absurd rfl hm
          | cons x t => exact ⟨x, rfl⟩
        obtain ⟨y, hy⟩ : ∃ y, m.getLast? = some y := ⟨_, List.getLast?_eq_some_getLast hm⟩
        have lo := (mid_lo (u := u) hm).trans hx
        have hi := (mid_hi (u := u) hm).trans hy
        refine ⟨_, rfl, _, rfl, p, _, _, _, rfl, rfl, hP, atI_nat (iv_get lo), ?_⟩
        refine ⟨_, rfl, _, rfl, p, _, rfl, .inr hP, _, _, rfl, rfl, _, rfl, _, _, rfl, rfl, p, _, _, _, rfl, rfl, hP, (by rw [hb]; exact atI_nat (iv_get hi)), _, rfl, rfl, _, rfl, ?_⟩
        refine iteF' (decide_eq_false fun q => ?_) ?_
        · have q2 : V.int x = V.int (-y) := q
          injection q2 with q3
          exact c.2 x y hx hy q3
        exact ⟨_, rfl, _, rfl, _, rfl, _, rfl, p, _, rfl, .inr hP, _, rfl, _, _, rfl, rfl, _, rfl, p, _, rfl, hPB, fin⟩
end
end W04
set_option Elab.async false
set_option linter.all false
set_option maxRecDepth 100000
set_option maxHeartbeats 2000000
namespace W04
open PySem L2 PySem.Spec PyProof.Rows WR WS WR WB
abbrev sKinds : Stmt := top 22
theorem pigeon : ∀ (m : Nat) (L : List Int), L.Nodup → (∀ k ∈ L, 1 ≤ k ∧ k ≤ (m : Int)) → L.length ≤ m
  | 0, L, _, h => by
    cases L with
    | nil => simp
    | cons a t =>
      have := h a (by simp)
      omega
  | m + 1, L, nd, h => by
    by_cases hm : ((m + 1 : Nat) : Int) ∈ L
    · have ih := pigeon m (L.erase ((m + 1 : Nat) : Int)) (nd.erase _) fun k hk => by
        have h1 := (nd.mem_erase_iff).mp hk
        have h2 := h k h1.2
        have h3 := h1.1
        omega
      rw [List.length_erase_of_mem hm] at ih
      omega
    · have ih := pigeon m L nd fun k hk => by
        have h2 := h k hk
        have : k ≠ ((m + 1 : Nat) : Int) := fun e => hm (e ▸ hk)
        omega
      omega
theorem sci {w : World} {J : It} {xs : List V} {G : Hp → Prop} (wk : Walk J xs.length G (YAt xs)) {g : TG} {tt : TT} {te : TE} {vs : List Nat} {σ : L2.St} {H1 : Hp} {Q : VK} (v : V → Int)
    (hv : ∀ x ∈ xs, 1 ≤ v x ∧ v x ≤ 26) (hG : ∀ H, Same H1 H → G H)
    (hs : ∀ x, x ∈ xs → ∀ H, Same H1 H → ∀ (Qy : V → Hp → Prop) (Qn : Hp → Prop), Qy (.int (v x)) H →
      g x (wipe σ vs) H fun σ2 H2 => wipe σ2 vs = wipe σ vs ∧ tt σ2 H2 fun b H3 => if b = true then te σ2 H3 Qy else Qn H3)
    (hd : ∀ (D : Addr) (S : Int → Bool) (n : Nat) H', H1 D = none → Same H1 H' → H' D = some (SetO w D S n) → n ≤ 26 → (∀ k, S k = true ↔ ∃ x ∈ xs, k = v x) → Q (.ref D) H') : tSetI w (fun _ H R => R J H) g tt te vs σ H1 Q := by
  intro D hD
  refine ⟨fun i m H => m = xs.length - i ∧ i ≤ xs.length ∧ Same H1 H ∧ ∃ (S : Int → Bool) (L : List Int), H D = some (SetO w D S L.length) ∧ L.Nodup ∧ (∀ k, S k = true ↔ k ∈ L) ∧ ∀ k, k ∈ L ↔ ∃ x ∈ xs.take i, k = v x, ?_, ?_⟩
  · refine ⟨_, rfl, Nat.zero_le _, same_upd hD, fun _ => false, [], by rw [upd_same]; rfl, List.nodup_nil, fun k => by simp, fun k => by simp⟩
  · rintro i m H ⟨rfl, hi, sm, S, L, hS, nd, hL, hm⟩
    have bound : L.length ≤ 26 := pigeon 26 L nd fun k hk => by
      obtain ⟨x, hx, e⟩ := (hm k).mp hk
      have := hv x (List.mem_of_mem_take hx)
      omega
    by_cases hlt : i < xs.length
    · right
      refine ⟨wk.goes i H hlt (hG H sm), fun H' => Same H1 H' ∧ ∃ (S : Int → Bool) (L : List Int), H' D = some (SetO w D S L.length) ∧ L.Nodup ∧ (∀ k, S k = true ↔ k ∈ L) ∧ ∀ k, k ∈ L ↔ ∃ x ∈ xs.take (i + 1), k = v x, ?_, ?_⟩
      · rintro H' ⟨s2, q⟩
        exact ⟨xs.length - (i + 1), by omega, rfl, hlt, s2, q⟩
      · intro x H' hy
        obtain ⟨rfl, hx⟩ := wk.yields i H x H' hlt (hG H sm) hy
        have hmem : x ∈ xs := List.mem_of_getElem? hx
        have et : xs.take (i + 1) = xs.take i ++ [x] := by
          have hx2 : xs[i] = x := (List.getElem?_eq_some_iff.mp hx).2
          rw [List.take_succ_eq_append_getElem hlt, hx2]
        refine hs x hmem H' sm _ _ ?_
        refine ⟨D, v x, S, L.length, rfl, rfl, hS, ?_, ?_⟩
        · have : scanBound = 40000 ∨ 64 < scanBound := by right; decide
          have h64 : 64 < scanBound := by decide
          omega
        refine ⟨fun b o e => by rw [upd_ne (ne_of_none e hD)]; exact sm b o e, fun j => S j || decide (j = v x), if S (v x) = true then L else v x :: L, ?_, ?_, ?_, ?_⟩
        · rw [upd_same]
          by_cases c : S (v x) = true
          · rw [if_pos c, if_pos c]
          · rw [if_neg c, if_neg c]; rfl
        · by_cases c : S (v x) = true
          · rw [if_pos c]; exact nd
          · rw [if_neg c]
            exact List.nodup_cons.mpr ⟨fun h => c ((hL _).mpr h), nd⟩
        · intro k
          rw [Bool.or_eq_true, decide_eq_true_eq]
          by_cases c : S (v x) = true
          · rw [if_pos c, ← hL]
            constructor
            · rintro (h | rfl)
              · exact h
              · exact c
            · exact .inl
          · rw [if_neg c, List.mem_cons, ← hL]
            exact or_comm
        · intro k
          have e : (k ∈ if S (v x) = true then L else v x :: L) ↔ (k = v x ∨ k ∈ L) := by
            by_cases c : S (v x) = true
            · rw [if_pos c]
              constructor
              · exact .inr
              · rintro (rfl | h)
                · exact (hL _).mp c
                · exact h
            · rw [if_neg c, List.mem_cons]
          rw [e, hm, et]
          constructor
          · rintro (rfl | ⟨y, hy, rfl⟩)
            · exact ⟨x, by simp, rfl⟩
            · exact ⟨y, by simp [hy], rfl⟩
          · rintro ⟨y, hy, rfl⟩
            rw [List.mem_append, List.mem_singleton] at hy
            rcases hy with hy | rfl
            · exact .inr ⟨y, hy, rfl⟩
            · exact .inl rfl
    · left
      have hi2 : i = xs.length := by omega
      subst hi2
      rw [List.take_length] at hm
      exact ⟨wk.stops H (hG H sm), hd D S L.length H hD sm hS bound fun k => (hL k).trans (hm k)⟩
def kindsOk (ns ks : List Int) : Prop := ks.Pairwise (· < ·) ∧ ∀ k : Int, k ∈ ks ↔ ∃ x ∈ ns, k = (x.natAbs : Int)
/-- every letter of a kind from 1 to 26 -/
def Lts (ns : List Int) : Prop := ∀ x ∈ ns, 1 ≤ x.natAbs ∧ x.natAbs ≤ 26
def spKinds (K : PySem.W.Frag) : Sp := fun vs H Q _ => ∃ (a : Addr) (ns : List Int), vs = [.ref a] ∧ SqE K H a (iv ns) ∧ ns.length ≤ 1000 ∧ Lts ns ∧ ∀ ks, kindsOk ns ks → NewT K H Q (iv ks)
structure TxB (mg : Str → Option Value) : Prop where
  sorted : mg "sorted" = none
  abs : mg "abs" = none
section
variable {P : Program} {w : World} {K : PySem.W.Frag} {mg : Str → Option Value} {base : Heap}
theorem scKinds : FnScope ["letters", "letter"] ["letters"] (defScope sKinds) := ⟨rfl, rfl, rfl, by decide +kernel, rfl, by decide +kernel, by decide +kernel⟩
theorem ok_kinds {f : Addr} {fd : FuncData} (F : Fun K "kinds_of" "kinds_of" sKinds f fd) (T : TxA mg) (T2 : TxB mg) : FnOk P w K mg base CX0 1 f fd ["letters"] (spKinds K) := by
  refine F.ok scKinds (fun vs H Q E h => ?_) (fun cdv A outer s H vs Q E hr h => ?_)
  · obtain ⟨a, ns, rfl, _⟩ := h
    rfl
  · obtain ⟨a, ns, rfl, hS, hlen, hk, k⟩ := h
    have fin : ∀ (D : Addr) (S : Int → Bool) (n : Nat) H', H D = none → Same H H' → H' D = some (SetO w D S n) → n ≤ 26 → (∀ k, S k = true ↔ ∃ x ∈ iv ns, k = (match x with | .int i => (i.natAbs : Int) | _ => 0)) →
        rSortedSet w [.ref D] H' fun x H2 => ∃ p ys, [x] = [V.ref p] ∧ ((SqL K H2 p ys ∧ ∀ l, H2 l = none → Q (.ref l) (L2.upd H2 l (.tup ys))) ∨ (SqT K H2 p ys ∧ Q (.ref p) H2)) := by
      intro D S n H' hD sm hS hn hm
      refine ⟨D, S, n, rfl, hS, by omega, fun ks p up mem _ hp => ?_⟩
      refine ⟨p, _, rfl, .inl ⟨SqL.of upd_same, fun l hl => ?_⟩⟩
      refine k ks ⟨up, fun j => ?_⟩ l _ ((sm.trans (same_upd hp)).trans (same_upd hl)) (SqT.of upd_same)
      rw [mem, hm]
      constructor
      · rintro ⟨x, hx, e⟩
        obtain ⟨i, hi, rfl⟩ := List.mem_map.mp hx
        exact ⟨i, hi, e⟩
      · rintro ⟨i, hi, e⟩
        exact ⟨_, List.mem_map_of_mem hi, e⟩
    have turn : ∀ x, x ∈ iv ns → ∀ H2, Same H H2 → ∀ (Qy : V → Hp → Prop) (Qn : Hp → Prop), Qy (.int (match x with | .int i => (i.natAbs : Int) | _ => 0)) H2 →
        gName 1 x (wipe [some (.ref a), none] [1]) H2 fun σ2 H2 => wipe σ2 [1] = wipe [some (.ref a), none] [1] ∧ tYes σ2 H2 fun b H3 => if b = true then tCB (fun xs H Q => ∃ i, xs = [.int i] ∧ Q (.int (if i < 0 then -i else i)) H) (tCons (tVar 1) tNil) σ2 H3 Qy else Qn H3 := by
      intro x hx H2 s2 Qy Qn ky
      obtain ⟨i, hi, rfl⟩ := List.mem_map.mp hx
      refine ⟨rfl, yes_te ⟨_, rfl, i, rfl, ?_⟩⟩
      have e : (if i < 0 then -i else i) = (i.natAbs : Int) := by split <;> omega
      rw [e]
      exact ky
    have bd : ∀ x ∈ iv ns, 1 ≤ (match x with | .int i => (i.natAbs : Int) | _ => 0) ∧ (match x with | .int i => (i.natAbs : Int) | _ => 0) ≤ 26 := by
      intro x hx
      obtain ⟨i, hi, rfl⟩ := List.mem_map.mp hx
      have := hk i hi
      show 1 ≤ (i.natAbs : Int) ∧ (i.natAbs : Int) ≤ 26
      omega
    rcases hS with hS | hS
    · refine ⟨_, pss_one (ps_ret (pe_callTy call_tuple_of (by rfl) T.tuple (by decide +kernel) (pa_cons (pe_callB (cr_sortedSet rfl) (by rfl) T2.sorted (by decide +kernel) (pa_cons (pe_setI (own := [("letter", 1)]) (g := gName 1) (tt := tYes) rfl scKinds.nd (pi_list (pv 0))
        (blkOk_by (N := ["letters", "letter"]) (sc := defScope sKinds) (by decide +kernel)) (fun _ _ _ _ _ => pg_name (i := 1) scKinds.nd rfl (Or.inl rfl)) (fun _ _ _ _ _ => pts_nil)
        (fun _ _ _ _ _ => pe_callB call_abs (by rfl) T2.abs (by decide +kernel) (pa_cons (pv 1) pa_nil))) pa_nil)) pa_nil))), ?_⟩
      refine ⟨_, rfl, a, rfl, ⟨_, hS⟩, ?_⟩
      exact sci (walk_list (xs := iv ns)) _ bd (fun H2 s2 => s2.seq hS) turn fin
    · refine ⟨_, pss_one (ps_ret (pe_callTy call_tuple_of (by rfl) T.tuple (by decide +kernel) (pa_cons (pe_callB (cr_sortedSet rfl) (by rfl) T2.sorted (by decide +kernel) (pa_cons (pe_setI (own := [("letter", 1)]) (g := gName 1) (tt := tYes) rfl scKinds.nd (pi_tup (pv 0))
        (blkOk_by (N := ["letters", "letter"]) (sc := defScope sKinds) (by decide +kernel)) (fun _ _ _ _ _ => pg_name (i := 1) scKinds.nd rfl (Or.inl rfl)) (fun _ _ _ _ _ => pts_nil)
        (fun _ _ _ _ _ => pe_callB call_abs (by rfl) T2.abs (by decide +kernel) (pa_cons (pv 1) pa_nil))) pa_nil)) pa_nil))), ?_⟩
      refine ⟨_, rfl, a, rfl, ⟨_, hS⟩, ?_⟩
      exact sci (walk_tup (xs := iv ns)) _ bd (fun H2 s2 => WR.Same.seqT s2 hS) turn fin
end
end W04
set_option Elab.async false
set_option linter.all false
set_option maxRecDepth 100000
set_option maxHeartbeats 2000000
namespace W04
open PySem L2 PySem.Spec PyProof.Rows WR WB
abbrev sIsInt : Stmt := top 12
abbrev sWithin : Stmt := top 13
abbrev sLetter : Stmt := top 14
abbrev sListed : Stmt := top 15
abbrev sNeedW : Stmt := top 33
abbrev sFew : Stmt := top 34
/-! ### values and their classes -/
inductive Typ (H : Hp) : V → String → Prop
  | int (i : Int) : Typ H (.int i) "int"
  | bl (b : Bool) : Typ H (.bl b) "bool"
  | str (z : Str) : Typ H (.str z) "str"
  | non : Typ H .non "NoneType"
  | lst {p : Addr} {xs : List V} (e : H p = some (.lst xs)) : Typ H (.ref p) "list"
  | tup {p : Addr} {xs : List V} (e : H p = some (.tup xs)) : Typ H (.ref p) "tuple"
  | dct {p : Addr} {kvs : List (Key × V)} (e : H p = some (.dK kvs)) : Typ H (.ref p) "dict"
def isI : V → Bool
  | .int _ => true
  | _ => false
def isB : V → Bool
  | .bl _ => true
  | _ => false
def isS : V → Bool
  | .str _ => true
  | _ => false
theorem Typ.same {H H' : Hp} {x : V} {t : String} (h : Typ H x t) (s : Same H H') : Typ H' x t := by
  cases h with
  | int i => exact .int i
  | bl b => exact .bl b
  | str z => exact .str z
  | non => exact .non
  | lst e => exact .lst (s _ _ e)
  | tup e => exact .tup (s _ _ e)
  | dct e => exact .dct (s _ _ e)
theorem Typ.ty {K : PySem.W.Frag} {H : Hp} {x : V} {t : String} (h : Typ H x t) : TyX K H x (.type t) := by
  cases h with
  | int i => exact .base (.int i)
  | bl b => exact .base (.bl b)
  | str z => exact .base (.str z)
  | non => exact .base .non
  | lst e => exact .base (.lst e)
  | tup e => exact .base (.tup e)
  | dct e => exact .base (.dK e)
theorem Typ.kInt {K : PySem.W.Frag} {H : Hp} {x : V} {t : String} (h : Typ H x t) : PySem.W.kitOne K (.type t) (.type "int") = some (isI x || isB x) := by
  cases h <;> first | exact kit_ty (show kitB _ _ = some true by decide +kernel) | exact kit_ty (show kitB _ _ = some false by decide +kernel)
theorem Typ.kBool {K : PySem.W.Frag} {H : Hp} {x : V} {t : String} (h : Typ H x t) : PySem.W.kitOne K (.type t) (.type "bool") = some (isB x) := by
  cases h <;> first | exact kit_ty (show kitB _ _ = some true by decide +kernel) | exact kit_ty (show kitB _ _ = some false by decide +kernel)
theorem Typ.kStr {K : PySem.W.Frag} {H : Hp} {x : V} {t : String} (h : Typ H x t) : PySem.W.kitOne K (.type t) (.type "str") = some (isS x) := by
  cases h <;> first | exact kit_ty (show kitB _ _ = some true by decide +kernel) | exact kit_ty (show kitB _ _ = some false by decide +kernel)
theorem Typ.kTup {K : PySem.W.Frag} {H : Hp} {x : V} {t : String} (h : Typ H x t) : PySem.W.kitOne K (.type t) (.type "tuple") = some (t == "tuple") := by
  cases h <;> first | exact kit_ty (show kitB _ _ = some true by decide +kernel) | exact kit_ty (show kitB _ _ = some false by decide +kernel)
theorem Typ.kList {K : PySem.W.Frag} {H : Hp} {x : V} {t : String} (h : Typ H x t) : PySem.W.kitOne K (.type t) (.type "list") = some (t == "list") := by
  cases h <;> first | exact kit_ty (show kitB _ _ = some true by decide +kernel) | exact kit_ty (show kitB _ _ = some false by decide +kernel)
theorem Typ.kSeq {K : PySem.W.Frag} {H : Hp} {x : V} {t : String} (h : Typ H x t) : PySem.W.kitAny K (.type t) [.type "list", .type "tuple"] = some (t == "list" || t == "tuple") := by
  refine kitAny_cons h.kList (fun e => ?_) (fun e => by rw [e]; rfl)
  refine kitAny_cons h.kTup (fun e2 => ?_) (fun e2 => by rw [e2]; simp)
  rw [kitAny_nil, e, e2]
  rfl

def spIsInt : Sp := fun vs H Q _ => ∃ (x : V) (t : String), vs = [x] ∧ Typ H x t ∧ Q (.bl (isI x)) H
structure TxI (mg : Str → Option Value) : Prop where
  isin : mg "isinstance" = none
  int : mg "int" = none
  bool : mg "bool" = none
  str : mg "str" = none
  list : mg "list" = none
  tuple : mg "tuple" = none
section
variable {P : Program} {w : World} {K : PySem.W.Frag} {mg : Str → Option Value} {base : Heap}
theorem scIsInt : FnScope ["value"] ["value"] (defScope sIsInt) := ⟨rfl, rfl, rfl, by decide +kernel, rfl, by decide +kernel, by decide +kernel⟩
theorem ok_isInt {f : Addr} {fd : FuncData} (F : Fun K "is_integer" "is_integer" sIsInt f fd) (T : TxI mg) : FnOk P w K mg base CX0 1 f fd ["value"] spIsInt := by
  refine F.ok scIsInt (fun vs H Q E h => ?_) (fun cdv A outer s H vs Q E hr h => ?_)
  · obtain ⟨x, t, rfl, _⟩ := h
    rfl
  · obtain ⟨x, t, rfl, ht, k⟩ := h
    refine ⟨_, pss_one (ps_ret (pe_and (pe_callB call_isi (by rfl) T.isin (by decide +kernel) (pa_cons (pv 0) (pa_cons (pe_bltn (v := .ty "int") (by rfl) T.int (by decide +kernel) rfl) pa_nil)))
      (pe_one (pe_not (pe_callB call_isi (by rfl) T.isin (by decide +kernel) (pa_cons (pv 0) (pa_cons (pe_bltn (v := .ty "bool") (by rfl) T.bool (by decide +kernel) rfl) pa_nil))))))), ?_⟩
    refine ⟨_, rfl, x, _, _, _, _, rfl, .ty _, ht.ty, ht.kInt, _, rfl, ?_⟩
    refine ite2 (fun hi => ?_) (fun hn => ?_)
    · refine ⟨_, rfl, x, _, _, _, _, rfl, .ty _, ht.ty, ht.kBool, _, rfl, ?_⟩
      have e : (!isB x) = isI x := by cases ht <;> first | rfl | exact absurd hi Bool.false_ne_true
      show Q (.bl (!isB x)) H
      rw [e]
      exact k
    · have e : isI x = false := by cases ht <;> first | rfl | exact absurd rfl hn
      show Q (.bl false) H
      rw [← e]
      exact k
end
def Bnd (v : V) : Prop := v = .non ∨ ∃ i, v = .int i
def geB (i : Int) : V → Bool
  | .int a => decide (a ≤ i)
  | _ => true
def leB (i : Int) : V → Bool
  | .int b => decide (i ≤ b)
  | _ => true
def within : V → V → V → Bool
  | .int i, l, m => geB i l && leB i m
  | _, _, _ => false
def spWithin : Sp := fun vs H Q _ => ∃ (x l m : V) (t : String), vs = [x, l, m] ∧ Typ H x t ∧ Bnd l ∧ Bnd m ∧ Q (.bl (within x l m)) H
def letterB : V → Bool
  | .int i => (decide (-26 ≤ i) && decide (i ≤ 26)) && !decide (i = 0)
  | _ => false
def spLetter : Sp := fun vs H Q _ => ∃ (x : V) (t : String), vs = [x] ∧ Typ H x t ∧ Q (.bl (letterB x)) H
def spListed : Sp := fun vs H Q _ => ∃ (x : V) (t : String), vs = [x] ∧ Typ H x t ∧ ∀ H', Same H H' → Q (.bl (t == "list" || t == "tuple")) H'
structure TxC (mg : Str → Option Value) : Prop where
  kind : ∃ t, mg "MOST_KIND" = some (.int 26 t)
  all : mg "all" = none
section
variable {P : Program} {w : World} {K : PySem.W.Frag} {mg : Str → Option Value} {base : Heap}
theorem scWithin : FnScope ["value", "least", "most"] ["value", "least", "most"] (defScope sWithin) := ⟨rfl, rfl, rfl, by decide +kernel, rfl, by decide +kernel, by decide +kernel⟩
theorem ok_within {f : Addr} {fd : FuncData} (F : Fun K "is_within" "is_within" sWithin f fd) (GI : Cal P w K mg base "is_integer" 1 ["value"] spIsInt) : FnOk P w K mg base CX0 2 f fd ["value", "least", "most"] spWithin := by
  refine F.ok scWithin (fun vs H Q E h => ?_) (fun cdv A outer s H vs Q E hr h => ?_)
  · obtain ⟨x, l, m, t, rfl, _⟩ := h
    rfl
  · obtain ⟨x, l, m, t, rfl, ht, hl, hm, k⟩ := h
    refine ⟨_, pss_cons (ps_if (pt_not (pt_val (pe_cal GI hr (by decide) (by rfl) (pa_cons (pv 0) pa_nil)))) (pss_one (ps_ret pe_bl)) pss_nil)
      (pss_one (ps_ret (pe_and (pe_or (pe_cmpR op_isN (pv 1) pe_non (nomark _)) (pe_one (pe_cmpR op_ge (pv 0) (pv 1) (nomark _)))) (pe_one (pe_or (pe_cmpR op_isN (pv 2) pe_non (nomark _)) (pe_one (pe_cmpR op_le (pv 0) (pv 2) (nomark _)))))))), ?_⟩
    refine ⟨_, rfl, x, t, rfl, ht, _, rfl, ?_⟩
    refine ite2 (fun hn => ?_) (fun hi => ?_)
    · have e : within x l m = false := by cases ht <;> first | rfl | exact absurd hn Bool.false_ne_true
      rw [e] at k
      exact k
    · obtain ⟨i, rfl⟩ : ∃ i, x = .int i := by cases ht <;> first | exact ⟨_, rfl⟩ | exact absurd rfl hi
      -- the second half, whatever the first one says
      have half : ∀ H1 : Hp, H1 = H → ∀ Q1 : VK, Q1 (.bl (leB i m)) H1 → tOrV (tOp (fun x y H Q => y = .non ∧ Q (.bl (decide (x = .non))) H) (tVar 2) (tC .non)) (tOp (rI0 fun i j => .bl (decide (i ≤ j))) (tVar 0) (tVar 2)) [some (.int i), some l, some m] H1 Q1 := by
        intro H1 _ Q1 q
        rcases hm with rfl | ⟨b, rfl⟩
        · exact ⟨_, rfl, rfl, _, rfl, iteT q⟩
        · exact ⟨_, rfl, rfl, _, rfl, iteF ⟨_, rfl, _, rfl, _, _, rfl, rfl, q⟩⟩
      rcases hl with rfl | ⟨a, rfl⟩
      · refine ⟨_, rfl, rfl, _, rfl, iteT ⟨_, rfl, iteT (half H rfl _ ?_)⟩⟩
        exact k
      · refine ⟨_, rfl, rfl, _, rfl, iteF ⟨_, rfl, _, rfl, _, _, rfl, rfl, _, rfl, ?_⟩⟩
        refine ite2 (fun hg => half H rfl _ ?_) (fun hg => ?_)
        · have e : within (.int i) (.int a) m = leB i m := by
            show (decide (a ≤ i) && leB i m) = leB i m
            rw [hg]
            rfl
          rw [e] at k
          exact k
        · have e : within (.int i) (.int a) m = false := by
            show (decide (a ≤ i) && leB i m) = false
            rw [Bool.eq_false_iff.mpr hg]
            rfl
          rw [e] at k
          exact k
theorem scLetter : FnScope ["value"] ["value"] (defScope sLetter) := ⟨rfl, rfl, rfl, by decide +kernel, rfl, by decide +kernel, by decide +kernel⟩
theorem ok_letter {f : Addr} {fd : FuncData} (F : Fun K "is_letter" "is_letter" sLetter f fd) (GW : Cal P w K mg base "is_within" 2 ["value", "least", "most"] spWithin) (T : TxC mg) : FnOk P w K mg base CX0 3 f fd ["value"] spLetter := by
  refine F.ok scLetter (fun vs H Q E h => ?_) (fun cdv A outer s H vs Q E hr h => ?_)
  · obtain ⟨x, t, rfl, _⟩ := h
    rfl
  · obtain ⟨x, t, rfl, ht, k⟩ := h
    obtain ⟨tk, mK⟩ := T.kind
    refine ⟨_, pss_one (ps_ret (pe_and (pe_cal GW hr (by decide) (by rfl) (pa_cons (pv 0) (pa_cons (pe_un un_neg (pe_glob (v := .int 26) (by rfl) mK ⟨_, rfl⟩)) (pa_cons (pe_glob (v := .int 26) (by rfl) mK ⟨_, rfl⟩) pa_nil)))) (pe_one (pe_cmpR op_ne (pv 0) pe_int (nomark _))))), ?_⟩
    refine ⟨_, rfl, _, rfl, x, _, _, t, rfl, ht, .inr ⟨_, rfl⟩, .inr ⟨_, rfl⟩, _, rfl, ?_⟩
    refine ite2 (fun hi => ?_) (fun hn => ?_)
    · obtain ⟨i, rfl⟩ : ∃ i, x = .int i := by cases ht <;> first | exact ⟨_, rfl⟩ | exact absurd hi Bool.false_ne_true
      refine ⟨_, rfl, rfl, ?_⟩
      have e : letterB (.int i) = !decide (V.int i = V.int 0) := by
        have h2 : (decide (-26 ≤ i) && decide (i ≤ 26)) = true := hi
        show ((decide (-26 ≤ i) && decide (i ≤ 26)) && !decide (i = 0)) = _
        rw [h2, Bool.true_and]
        congr 1
        by_cases h0 : i = 0
        · subst h0; rfl
        · rw [decide_eq_false h0, decide_eq_false (fun q => h0 (by injection q))]
      rw [e] at k
      exact k
    · have e : letterB x = false := by
        cases ht with
        | int i =>
          have h2 : (decide (-26 ≤ i) && decide (i ≤ 26)) = false := Bool.eq_false_iff.mpr hn
          show ((decide (-26 ≤ i) && decide (i ≤ 26)) && !decide (i = 0)) = false
          rw [h2]
          rfl
        | _ => rfl
      rw [e] at k
      exact k
theorem scListed : FnScope ["value"] ["value"] (defScope sListed) := ⟨rfl, rfl, rfl, by decide +kernel, rfl, by decide +kernel, by decide +kernel⟩
theorem ok_listed {f : Addr} {fd : FuncData} (F : Fun K "is_listed" "is_listed" sListed f fd) (T : TxI mg) : FnOk P w K mg base CX0 1 f fd ["value"] spListed := by
  refine F.ok scListed (fun vs H Q E h => ?_) (fun cdv A outer s H vs Q E hr h => ?_)
  · obtain ⟨x, t, rfl, _⟩ := h
    rfl
  · obtain ⟨x, t, rfl, ht, k⟩ := h
    refine ⟨_, pss_one (ps_ret (pe_callB call_isiT (by rfl) T.isin (by decide +kernel) (pa_cons (pv 0) (pa_cons (pe_tup (pa_cons (pe_bltn (v := .ty "list") (by rfl) T.list (by decide +kernel) rfl) (pa_cons (pe_bltn (v := .ty "tuple") (by rfl) T.tuple (by decide +kernel) rfl) pa_nil))) pa_nil)))), ?_⟩
    refine ⟨_, rfl, (by show 2 ≤ sizeLine; decide), fun p hp => ?_⟩
    have sm : Same H (upd H p (.tup [.ty "list", .ty "tuple"])) := fun b o e => by rw [upd_ne (ne_of_none e hp)]; exact e
    exact ⟨x, p, _, _, _, _, rfl, upd_same, .cons (.ty _) (.cons (.ty _) .nil), (ht.same sm).ty, (ht.same sm).kSeq, k _ sm⟩
end
end W04
set_option Elab.async false
set_option linter.all false
set_option maxRecDepth 100000
set_option maxHeartbeats 2000000
namespace W04
open PySem L2 PySem.Spec PyProof.Rows WR WB
abbrev sInit : Stmt := inClass (top 35) 0
theorem SqL.tyx {K : PySem.W.Frag} {H : Hp} {a : Addr} {xs : List V} (h : SqL K H a xs) : TyX K H (.ref a) (.type "list") := by
  rcases h with h | ⟨o, its, n, e, c, _⟩
  · rcases h with h | ⟨o, h⟩
    · exact .base (.lst h)
    · exact .base (.frz h)
  · exact .kList e c
theorem SqT.tyx {K : PySem.W.Frag} {H : Hp} {a : Addr} {xs : List V} (h : SqT K H a xs) : TyX K H (.ref a) (.type "tuple") := by
  rcases h with h | ⟨o, its, n, e, c, _⟩
  · rcases h with h | ⟨o, h⟩
    · exact .base (.tup h)
    · exact .fTuple h
  · exact .kTuple e c
def spListE (K : PySem.W.Frag) : Sp := fun vs H Q _ => ∃ (a : Addr) (xs : List V), vs = [.ref a] ∧ SqE K H a xs ∧ ∀ H', Same H H' → Q (.bl true) H'
def spFew : Sp := fun vs H Q _ => ∃ n : Int, vs = [.int n] ∧ n ≤ 500 ∧ Q .non H
structure TxW (K : PySem.W.Frag) (mg : Str → Option Value) (C : Addr) : Prop where
  cl : Cls K C
  nL : NoAttr K C "letters"
  nN : NoAttr K C "length"
  nK : NoAttr K C "kinds"
  nS : NoAttr K C "is_short"
  nR : NoAttr K C "is_short_round"
  ca : PySem.W.findIn K (.ref C) "__class__" = some (some (.builtin "object.__class__"))
  cn : PySem.W.specialIn K (.builtin "object.__class__") "__get__" = some (some (.builtin "getset_descriptor.__get__"))
  ct : PySem.W.takesIn K (.builtin "object.__class__") = some true
  cm : PySem.W.mroIn K C (.type "object") = some true
  mgW : mg "Word" = some (.ref C)
  most : ∃ t, mg "MOST_LETTERS" = some (.int 500 t)
  isin : mg "isinstance" = none
  all : mg "all" = none
/-! ### a word -/
def wf (tl : Addr) (n : Nat) (tk : Addr) (b1 b2 : Bool) : List (Str × V) := [("letters", .ref tl), ("length", .int (n : Int)), ("kinds", .ref tk), ("is_short", .bl b1), ("is_short_round", .bl b2)]
theorem ne1 : ¬ (("letters" : Str) = "length") := by decide +kernel
theorem ne2 : ¬ (("letters" : Str) = "kinds") := by decide +kernel
theorem ne3 : ¬ (("letters" : Str) = "is_short") := by decide +kernel
theorem ne4 : ¬ (("letters" : Str) = "is_short_round") := by decide +kernel
theorem ne5 : ¬ (("length" : Str) = "kinds") := by decide +kernel
theorem ne6 : ¬ (("length" : Str) = "is_short") := by decide +kernel
theorem ne7 : ¬ (("length" : Str) = "is_short_round") := by decide +kernel
theorem ne8 : ¬ (("kinds" : Str) = "is_short") := by decide +kernel
theorem ne9 : ¬ (("kinds" : Str) = "is_short_round") := by decide +kernel
theorem ne10 : ¬ (("is_short" : Str) = "is_short_round") := by decide +kernel
theorem lk_eq {k : Str} {v : V} {t : List (Str × V)} : List.lookup k ((k, v) :: t) = some v := by
  rw [List.lookup_cons, beq_self_eq_true k]
theorem lk_ne {k g : Str} {v : V} {t : List (Str × V)} (h : ¬ k = g) : List.lookup k ((g, v) :: t) = List.lookup k t := by
  rw [List.lookup_cons, show (k == g) = false from beq_eq_false_iff_ne.mpr h]
theorem pf_ne {k g : Str} {v x : V} {t : List (Str × V)} (h : ¬ g = k) : putF k v ((g, x) :: t) = (g, x) :: putF k v t := by
  show (if g = k then _ else _) = _
  rw [if_neg h]
theorem wf_letters {tl tk n b1 b2} : (wf tl n tk b1 b2).lookup ("letters" : Str) = some (.ref tl) := lk_eq
theorem wf_length {tl tk n b1 b2} : (wf tl n tk b1 b2).lookup ("length" : Str) = some (.int (n : Int)) := by
  unfold wf
  rw [lk_ne fun e => ne1 e.symm, lk_eq]
theorem wf_kinds {tl tk n b1 b2} : (wf tl n tk b1 b2).lookup ("kinds" : Str) = some (.ref tk) := by
  unfold wf
  rw [lk_ne fun e => ne2 e.symm, lk_ne fun e => ne5 e.symm, lk_eq]
theorem wf_short {tl tk n b1 b2} : (wf tl n tk b1 b2).lookup ("is_short" : Str) = some (.bl b1) := by
  unfold wf
  rw [lk_ne fun e => ne3 e.symm, lk_ne fun e => ne6 e.symm, lk_ne fun e => ne8 e.symm, lk_eq]
theorem wf_round {tl tk n b1 b2} : (wf tl n tk b1 b2).lookup ("is_short_round" : Str) = some (.bl b2) := by
  unfold wf
  rw [lk_ne fun e => ne4 e.symm, lk_ne fun e => ne7 e.symm, lk_ne fun e => ne9 e.symm, lk_ne fun e => ne10 e.symm, lk_eq]
theorem wf_no {tl tk n b1 b2} {m : Str} (h1 : ¬ m = "letters") (h2 : ¬ m = "length") (h3 : ¬ m = "kinds") (h4 : ¬ m = "is_short") (h5 : ¬ m = "is_short_round") : (wf tl n tk b1 b2).lookup m = none := by
  unfold wf
  rw [lk_ne h1, lk_ne h2, lk_ne h3, lk_ne h4, lk_ne h5]
  rfl
def WordAt (K : PySem.W.Frag) (C : Addr) (H : Hp) (p : Addr) (ns : List Int) : Prop :=
  ∃ (dx tl tk : Addr) (ks : List Int), H p = some (.ins C dx (wf tl ns.length tk (decide (Fr.shr ns = ns)) (decide (Fr.rnd ns = ns)))) ∧ SqB K H tl (iv ns) ∧ SqT K H tk (iv ks) ∧ kindsOk ns ks
theorem WordAt.same {K : PySem.W.Frag} {C : Addr} {H H' : Hp} {p : Addr} {ns : List Int} (h : WordAt K C H p ns) (s : Same H H') : WordAt K C H' p ns := by
  obtain ⟨dx, tl, tk, ks, h1, h2, h3, h4⟩ := h
  exact ⟨dx, tl, tk, ks, s _ _ h1, SqB.same s h2, WR.Same.seqT s h3, h4⟩
theorem Lts.nz {ns : List Int} (h : Lts ns) : Fr.NZ ns := fun a ha => by
  have := h a ha
  omega
def spInit (K : PySem.W.Frag) (C : Addr) : Sp := fun vs H Q _ => ∃ (H0 : Hp) (p dx a : Addr) (ns : List Int), vs = [.ref p, .ref a] ∧ Same H0 H ∧ H0 p = none ∧ H p = some (.ins C dx []) ∧ SqW K H0 a (iv ns) ∧ ns.length ≤ 500 ∧ Lts ns ∧
  ∀ H', Same H0 H' → WordAt K C H' p ns → Q .non H'
/-! ### tuples of ints held against one another -/
theorem dp_iv {K : PySem.W.Frag} {H : Hp} : ∀ ns : List Int, DpAll K H (iv ns) (ns.map PyData.int)
  | [] => .nil
  | n :: r => .cons (.int n) (dp_iv r)
theorem eqvAll_ints : ∀ ns ms : List Int, PyData.eqvAll (ns.map PyData.int) (ms.map PyData.int) = decide (ns = ms)
  | [], [] => rfl
  | [], b :: r => rfl
  | a :: r, [] => rfl
  | a :: r, b :: q => by
    have ih := eqvAll_ints r q
    show (PyData.eqv (.int a) (.int b) && PyData.eqvAll (r.map PyData.int) (q.map PyData.int)) = _
    rw [ih]
    have : PyData.eqv (.int a) (.int b) = decide (a = b) := by
      simp only [PyData.eqv]
      exact Bool.eq_iff_iff.mpr (by simp)
    rw [this]
    by_cases e1 : a = b <;> by_cases e2 : r = q <;> simp [e1, e2]
theorem eqv_ints (ns ms : List Int) : PyData.eqv (.tuple (ns.map .int)) (.tuple (ms.map .int)) = decide (ns = ms) := by
  show PyData.eqvAll _ _ = _
  exact eqvAll_ints ns ms
theorem lay_ints : ∀ ns : List Int, PyData.canLayAll0 (ns.map PyData.int) = true ∧ PyData.depthAll (ns.map PyData.int) = 0
  | [] => ⟨rfl, rfl⟩
  | n :: r => by
    obtain ⟨h1, h2⟩ := lay_ints r
    exact ⟨by simp [PyData.canLayAll0, PyData.canLay0, h1], by simp [PyData.depthAll, PyData.depth, h2]⟩
theorem shaped_ints (ns : List Int) : SeqAt.shaped (.tuple (ns.map .int)) = true := by
  obtain ⟨h1, h2⟩ := lay_ints ns
  simp [SeqAt.shaped, PyData.canLay0, PyData.depth, h1, h2]
section
variable {P : Program} {w : World} {K : PySem.W.Frag} {mg : Str → Option Value} {base : Heap}
theorem ok_listE {f : Addr} {fd : FuncData} (F : Fun K "is_listed" "is_listed" sListed f fd) (T : TxI mg) : FnOk P w K mg base CX0 1 f fd ["value"] (spListE K) := by
  refine F.ok scListed (fun vs H Q E h => ?_) (fun cdv A outer s H vs Q E hr h => ?_)
  · obtain ⟨a, xs, rfl, _⟩ := h
    rfl
  · obtain ⟨a, xs, rfl, hS, k⟩ := h
    refine ⟨_, pss_one (ps_ret (pe_callB call_isiT (by rfl) T.isin (by decide +kernel) (pa_cons (pv 0) (pa_cons (pe_tup (pa_cons (pe_bltn (v := .ty "list") (by rfl) T.list (by decide +kernel) rfl) (pa_cons (pe_bltn (v := .ty "tuple") (by rfl) T.tuple (by decide +kernel) rfl) pa_nil))) pa_nil)))), ?_⟩
    refine ⟨_, rfl, (by show 2 ≤ sizeLine; decide), fun p hp => ?_⟩
    have sm : Same H (upd H p (.tup [.ty "list", .ty "tuple"])) := same_upd hp
    rcases hS.same sm with hS | hS
    · exact ⟨_, p, _, _, _, _, rfl, upd_same, .cons (.ty _) (.cons (.ty _) .nil), SqL.tyx hS, (by rfl), k _ sm⟩
    · exact ⟨_, p, _, _, _, _, rfl, upd_same, .cons (.ty _) (.cons (.ty _) .nil), SqT.tyx hS, (Typ.tup (H := fun _ => some (.tup [])) (p := a) (xs := []) rfl).kSeq, k _ sm⟩
theorem scFew : FnScope ["many"] ["many"] (defScope sFew) := ⟨rfl, rfl, rfl, by decide +kernel, rfl, by decide +kernel, by decide +kernel⟩
theorem ok_few {C : Addr} {f : Addr} {fd : FuncData} (F : Fun K "need_few_letters" "need_few_letters" sFew f fd) (T : TxW K mg C) : FnOk P w K mg base CX0 1 f fd ["many"] spFew := by
  refine F.ok scFew (fun vs H Q E h => ?_) (fun cdv A outer s H vs Q E hr h => ?_)
  · obtain ⟨n, rfl, _⟩ := h
    rfl
  · obtain ⟨n, rfl, hn, k⟩ := h
    obtain ⟨tk, mM⟩ := T.most
    refine ⟨_, pss_one (ps_if (pt_cmpR op_gt (pv 0) (pe_glob (v := .int 500) (by rfl) mM ⟨_, rfl⟩) (nomark _)) (pss_one ps_never) pss_nil), ?_⟩
    refine ⟨_, rfl, _, _, rfl, rfl, _, rfl, ?_⟩
    exact iteF' (decide_eq_false (by omega)) k
end
end W04
set_option Elab.async false
set_option linter.all false
set_option maxRecDepth 100000
set_option maxHeartbeats 2000000
namespace W04
open PySem L2 PySem.Spec PyProof.Rows WR WB
theorem SqT.put {K : PySem.W.Frag} {H : Hp} {a p C dx : Addr} {fs : List (Str × V)} {o : HO} {xs : List V} (h : SqT K H a xs) (hp : H p = some (.ins C dx fs)) : SqT K (L2.upd H p o) a xs := by
  rcases h with h | h
  · left
    have ne : ∀ u, H a = some u → (∀ C dx fs, u ≠ .ins C dx fs) → a ≠ p := fun u e q z => by
      rw [z, hp] at e
      exact q _ _ _ (Option.some.inj e).symm
    rcases h with h | ⟨o', h⟩
    · exact .inl (by rw [upd_ne (ne _ h fun _ _ _ => by intro z; cases z)]; exact h)
    · exact .inr ⟨o', by rw [upd_ne (ne _ h fun _ _ _ => by intro z; cases z)]; exact h⟩
  · exact .inr h
theorem SqB.put {K : PySem.W.Frag} {H : Hp} {a p C dx : Addr} {fs : List (Str × V)} {o : HO} {xs : List V} (h : SqB K H a xs) (hp : H p = some (.ins C dx fs)) : SqB K (L2.upd H p o) a xs := by
  obtain ⟨h1, h2⟩ := h
  refine ⟨SqT.put h1 hp, ?_⟩
  obtain ⟨o', u, e, d⟩ := h2
  exact ⟨o', u, by rw [upd_ne (fun z => by rw [z, hp] at e; cases e)]; exact e, d⟩
theorem same_put {H0 H : Hp} {p : Addr} {o : HO} (s : Same H0 H) (hp : H0 p = none) : Same H0 (L2.upd H p o) := fun b u e => by
  have : b ≠ p := fun z => by rw [z, hp] at e; cases e
  rw [upd_ne this]
  exact s _ _ e
theorem letter_ok {i : Int} (h : 1 ≤ i.natAbs ∧ i.natAbs ≤ 26) : letterB (.int i) = true := by
  show ((decide (-26 ≤ i) && decide (i ≤ 26)) && !decide (i = 0)) = true
  rw [decide_eq_true (by omega), decide_eq_true (by omega), decide_eq_false (by omega)]
  rfl
theorem all_ok {ns : List Int} (h : Lts ns) : ((ns.map fun i => letterB (.int i)).all id) = true := by
  rw [List.all_eq_true]
  intro b hb
  obtain ⟨i, hi, rfl⟩ := List.mem_map.mp hb
  exact letter_ok (h i hi)
theorem bl_of {b c : Bool} (h : b = c) : V.bl b = V.bl c := by rw [h]
theorem kindsOk_ex (ns : List Int) : True := trivial
theorem not_lc {r : List V → Hp → VK → Prop} {wi : TI} {g : TG} {tt : TT} {te : TE} {vs : List Nat} {σ : L2.St} {H : Hp} {Q : Bool → Hp → Prop}
    (h : wi σ H fun J H1 => tLc (fun _ H R => R J H) g tt te vs σ H1 fun x H2 => r [x] H2 fun v H3 => ∃ c, v = .bl c ∧ Q (!c) H3) :
    tNot (fun σ H Q => tCB r (tCons (tLc wi g tt te vs) tNil) σ H fun x H1 => ∃ c, x = .bl c ∧ Q c H1) σ H Q := h
abbrev nInit : List Str := ["self", "letters", "letter"]
section
variable {P : Program} {w : World} {K : PySem.W.Frag} {mg : Str → Option Value} {base : Heap}
theorem scInit : FnScope nInit ["self", "letters"] (defScope sInit) := ⟨rfl, rfl, rfl, by decide +kernel, rfl, by decide +kernel, by decide +kernel⟩
theorem ok_init {C f : Addr} {fd : FuncData} (F : Fun K "__init__" "Word.__init__" sInit f fd) (T : TxW K mg C) (TA : TxA mg) (GL : Cal P w K mg base "is_listed" 1 ["value"] (spListE K)) (GX : Cal P w K mg base "is_letter" 3 ["value"] spLetter)
    (GF : Cal P w K mg base "need_few_letters" 1 ["many"] spFew) (GK : Cal P w K mg base "kinds_of" 1 ["letters"] (spKinds K)) (GS : Cal P w K mg base "shortened_letters" 1 ["letters"] (spShr K)) (GR : Cal P w K mg base "rounded_letters" 2 ["letters"] (spRnd K)) :
    FnOk P w K mg base CX0 4 f fd ["self", "letters"] (spInit K C) := by
  refine F.ok scInit (fun vs H Q E h => ?_) (fun cdv A outer s H vs Q E hr h => ?_)
  · obtain ⟨H0, p, dx, a, ns, rfl, _⟩ := h
    rfl
  · obtain ⟨H0, p, dx, a, ns, rfl, s0, p0, hp, hS, hlen, hl, k⟩ := h
    rcases hS with hS | hS
    · refine ⟨_, pss_cons (ps_if (PW.pt (pw_or (pt_not (pt_val (pe_cal GL hr (by decide) (by rfl) (pa_cons (pv 1) pa_nil)))) (pw_or1 (pt_not (pt_val (pe_callB (cr_all rfl) (by rfl) T.all (by decide +kernel) (pa_cons (pe_lc (own := [("letter", 2)]) (g := gName 2) (tt := tYes) rfl scInit.nd (pi_list (pv 1))
          (blkOk_by (N := nInit) (sc := defScope sInit) (by decide +kernel)) (fun _ _ _ _ _ => pg_name (i := 2) scInit.nd rfl (Or.inl rfl)) (fun _ _ _ _ _ => pts_nil)
          (fun _ _ _ _ _ => pe_cal GX hr (by decide) (by rfl) (pa_cons (pv 2) pa_nil))) pa_nil))))))) (pss_one ps_never) pss_nil)
        (pss_cons (ps_expr (pe_cal GF hr (by decide) (by rfl) (pa_cons (pe_callB call_len_seq (by rfl) TA.len PySem.boot_len (pa_cons (pv 1) pa_nil)) pa_nil)))
        (pss_cons (ps_fld (pv 0) (pe_callTy call_tupB (by rfl) TA.tuple (by decide +kernel) (pa_cons (pv 1) pa_nil)) rfl)
        (pss_cons (ps_fld (pv 0) (pe_callB call_len_seq (by rfl) TA.len PySem.boot_len (pa_cons (pv 1) pa_nil)) rfl)
        (pss_cons (ps_fld (pv 0) (pe_cal GK hr (by decide) (by rfl) (pa_cons (pv 1) pa_nil)) rfl)
        (pss_cons (ps_fld (pv 0) (pe_cmpR (op_eqD hr.units) (pe_cal GS hr (by decide) (by rfl) (pa_cons (pv 1) pa_nil)) (pe_fld (pv 0) rfl) (nomark _)) rfl)
        (pss_one (ps_fld (pv 0) (pe_cmpR (op_eqD hr.units) (pe_cal GR hr (by decide) (by rfl) (pa_cons (pv 1) pa_nil)) (pe_fld (pv 0) rfl) (nomark _)) rfl))))))), ?_⟩
      have E0 : SqE K H0 a (iv ns) := .inl hS
      refine ⟨_, rfl, a, _, rfl, E0.same s0, fun H1 s1 => ⟨_, rfl, ?_⟩⟩
      have s01 := s0.trans s1
      refine iteF ?_
      refine not_lc ?_
      refine ⟨_, rfl, a, rfl, ⟨_, (s01.seq hS)⟩, ?_⟩
      refine lcp (walk_list (xs := iv ns)) (fun _ => true) (fun x => .bl (letterB x)) (by simp; omega) (fun H2 s2 => (s01.trans s2).seq hS) ?_ ?_
      · intro x hx H2 s2 Qy Qn ky kn
        obtain ⟨i, hi, rfl⟩ := List.mem_map.mp hx
        exact ⟨rfl, yes_te ⟨_, rfl, .int i, _, rfl, .int i, ky rfl H2 (fun _ _ e => e)⟩⟩
      intro D H2 hD s2 h2
      have s02 := s01.trans s2
      refine ⟨D, ns.map fun i => letterB (.int i), rfl, SqL.of (by
        rw [h2, List.filter_eq_self.mpr (fun _ _ => rfl), List.map_map, List.map_map]
        rfl), ?_⟩
      rw [all_ok hl]
      refine ⟨_, rfl, iteF ?_⟩
      -- not too many
      refine ⟨_, rfl, a, _, rfl, E0.same s02, ((iv ns).length : Int), rfl, by rw [List.length_map]; omega, ?_⟩
      have hp2 : H2 p = some (.ins C dx []) := s2 _ _ (s1 _ _ hp)
      -- its letters
      refine ⟨_, rfl, a, _, rfl, .inl ⟨s02.seq hS, fun tl H3 s23 t3 => ?_⟩⟩
      have s3 := s02.trans s23
      have hp3 := s23 _ _ hp2
      refine ⟨_, rfl, p, C, dx, _, rfl, hp3, T.cl, T.nL, (by show 0 < 1000; decide), ?_⟩
      have hp4 : L2.upd H3 p (.ins C dx (putF "letters" (.ref tl) [])) p = some (.ins C dx [("letters", .ref tl)]) := by rw [upd_same]; rfl
      have s4 := same_put (o := .ins C dx (putF "letters" (.ref tl) [])) s3 p0
      have t4 := SqB.put (o := .ins C dx (putF "letters" (.ref tl) [])) t3 hp3
      refine gen_heap fun H4 e4 => ?_
      rw [← e4] at hp4 s4 t4
      -- how many
      refine ⟨_, rfl, a, _, rfl, E0.same s4, _, rfl, p, C, dx, _, rfl, hp4, T.cl, T.nN, (by show 1 < 1000; decide), ?_⟩
      have hp5 : L2.upd H4 p (.ins C dx (putF "length" (.int ((iv ns).length : Nat)) [("letters", .ref tl)])) p = some (.ins C dx [("letters", .ref tl), ("length", .int (ns.length : Nat))]) := by
        rw [upd_same, pf_ne ne1, List.length_map]
        rfl
      have s5 := same_put (o := .ins C dx (putF "length" (.int ((iv ns).length : Nat)) [("letters", .ref tl)])) s4 p0
      have t5 := SqB.put (o := .ins C dx (putF "length" (.int ((iv ns).length : Nat)) [("letters", .ref tl)])) t4 hp4
      refine gen_heap fun H5 e5 => ?_
      rw [← e5] at hp5 s5 t5
      -- its kinds
      refine ⟨_, rfl, a, ns, rfl, E0.same s5, by omega, hl, fun ks hk tk H6 s6 tk6 => ?_⟩
      have hp6 := s6 _ _ hp5
      have s06 := s5.trans s6
      have t6 := SqB.same s6 t5
      refine ⟨_, rfl, p, C, dx, _, rfl, hp6, T.cl, T.nK, (by show 2 < 1000; decide), ?_⟩
      have hp7 : L2.upd H6 p (.ins C dx (putF "kinds" (.ref tk) [("letters", .ref tl), ("length", .int (ns.length : Nat))])) p = some (.ins C dx [("letters", .ref tl), ("length", .int (ns.length : Nat)), ("kinds", .ref tk)]) := by
        rw [upd_same, pf_ne ne2, pf_ne ne5]
        rfl
      have s7 := same_put (o := .ins C dx (putF "kinds" (.ref tk) [("letters", .ref tl), ("length", .int (ns.length : Nat))])) s06 p0
      have t7 := SqB.put (o := .ins C dx (putF "kinds" (.ref tk) [("letters", .ref tl), ("length", .int (ns.length : Nat))])) t6 hp6
      have k7 := SqT.put (o := .ins C dx (putF "kinds" (.ref tk) [("letters", .ref tl), ("length", .int (ns.length : Nat))])) tk6 hp6
      refine gen_heap fun H7 e7 => ?_
      rw [← e7] at hp7 s7 t7 k7
      -- short
      refine ⟨_, rfl, a, ns, rfl, E0.same s7, by omega, fun q H8 s8 q8 => ?_⟩
      have hp8 := s8 _ _ hp7
      have s08 := s7.trans s8
      have t8 := SqB.same s8 t7
      have k8 := WR.Same.seqT s8 k7
      refine ⟨_, rfl, p, C, dx, _, _, rfl, hp8, T.cl, T.nL, lk_eq, ?_⟩
      refine ⟨_, _, .tup q8.sq (dp_iv _), .tup t8.sq (dp_iv _), shaped_ints _, shaped_ints _, ?_⟩
      rw [eqv_ints]
      refine ⟨_, rfl, p, C, dx, _, rfl, hp8, T.cl, T.nS, (by show 3 < 1000; decide), ?_⟩
      have hp9 : L2.upd H8 p (.ins C dx (putF "is_short" (.bl (decide (Fr.shr ns = ns))) [("letters", .ref tl), ("length", .int (ns.length : Nat)), ("kinds", .ref tk)])) p = some (.ins C dx [("letters", .ref tl), ("length", .int (ns.length : Nat)), ("kinds", .ref tk), ("is_short", .bl (decide (Fr.shr ns = ns)))]) := by
        rw [upd_same, pf_ne ne3, pf_ne ne6, pf_ne ne8]
        rfl
      have s9 := same_put (o := .ins C dx (putF "is_short" (.bl (decide (Fr.shr ns = ns))) [("letters", .ref tl), ("length", .int (ns.length : Nat)), ("kinds", .ref tk)])) s08 p0
      have t9 := SqB.put (o := .ins C dx (putF "is_short" (.bl (decide (Fr.shr ns = ns))) [("letters", .ref tl), ("length", .int (ns.length : Nat)), ("kinds", .ref tk)])) t8 hp8
      have k9 := SqT.put (o := .ins C dx (putF "is_short" (.bl (decide (Fr.shr ns = ns))) [("letters", .ref tl), ("length", .int (ns.length : Nat)), ("kinds", .ref tk)])) k8 hp8
      refine gen_heap fun H9 e9 => ?_
      rw [← e9] at hp9 s9 t9 k9
      -- short round
      refine ⟨_, rfl, a, ns, rfl, E0.same s9, by omega, hl.nz, fun q2 Ha sa qa => ?_⟩
      have hpa := sa _ _ hp9
      have s0a := s9.trans sa
      have ta := SqB.same sa t9
      have ka := WR.Same.seqT sa k9
      refine ⟨_, rfl, p, C, dx, _, _, rfl, hpa, T.cl, T.nL, lk_eq, ?_⟩
      refine ⟨_, _, .tup qa.sq (dp_iv _), .tup ta.sq (dp_iv _), shaped_ints _, shaped_ints _, ?_⟩
      rw [eqv_ints]
      refine ⟨_, rfl, p, C, dx, _, rfl, hpa, T.cl, T.nR, (by show 4 < 1000; decide), ?_⟩
      refine k _ (same_put s0a p0) ⟨dx, tl, tk, ks, ?_, SqB.put ta hpa, SqT.put ka hpa, hk⟩
      rw [upd_same, pf_ne ne4, pf_ne ne7, pf_ne ne9, pf_ne ne10]
      rfl
    · refine ⟨_, pss_cons (ps_if (PW.pt (pw_or (pt_not (pt_val (pe_cal GL hr (by decide) (by rfl) (pa_cons (pv 1) pa_nil)))) (pw_or1 (pt_not (pt_val (pe_callB (cr_all rfl) (by rfl) T.all (by decide +kernel) (pa_cons (pe_lc (own := [("letter", 2)]) (g := gName 2) (tt := tYes) rfl scInit.nd (pi_tup (pv 1))
          (blkOk_by (N := nInit) (sc := defScope sInit) (by decide +kernel)) (fun _ _ _ _ _ => pg_name (i := 2) scInit.nd rfl (Or.inl rfl)) (fun _ _ _ _ _ => pts_nil)
          (fun _ _ _ _ _ => pe_cal GX hr (by decide) (by rfl) (pa_cons (pv 2) pa_nil))) pa_nil))))))) (pss_one ps_never) pss_nil)
        (pss_cons (ps_expr (pe_cal GF hr (by decide) (by rfl) (pa_cons (pe_callB call_len_seq (by rfl) TA.len PySem.boot_len (pa_cons (pv 1) pa_nil)) pa_nil)))
        (pss_cons (ps_fld (pv 0) (pe_callTy call_tupB (by rfl) TA.tuple (by decide +kernel) (pa_cons (pv 1) pa_nil)) rfl)
        (pss_cons (ps_fld (pv 0) (pe_callB call_len_seq (by rfl) TA.len PySem.boot_len (pa_cons (pv 1) pa_nil)) rfl)
        (pss_cons (ps_fld (pv 0) (pe_cal GK hr (by decide) (by rfl) (pa_cons (pv 1) pa_nil)) rfl)
        (pss_cons (ps_fld (pv 0) (pe_cmpR (op_eqD hr.units) (pe_cal GS hr (by decide) (by rfl) (pa_cons (pv 1) pa_nil)) (pe_fld (pv 0) rfl) (nomark _)) rfl)
        (pss_one (ps_fld (pv 0) (pe_cmpR (op_eqD hr.units) (pe_cal GR hr (by decide) (by rfl) (pa_cons (pv 1) pa_nil)) (pe_fld (pv 0) rfl) (nomark _)) rfl))))))), ?_⟩
      have E0 : SqE K H0 a (iv ns) := .inr hS
      refine ⟨_, rfl, a, _, rfl, E0.same s0, fun H1 s1 => ⟨_, rfl, ?_⟩⟩
      have s01 := s0.trans s1
      refine iteF ?_
      refine not_lc ?_
      refine ⟨_, rfl, a, rfl, ⟨_, (WR.Same.seqT s01 hS.sq)⟩, ?_⟩
      refine lcp (walk_tup (xs := iv ns)) (fun _ => true) (fun x => .bl (letterB x)) (by simp; omega) (fun H2 s2 => WR.Same.seqT (s01.trans s2) hS.sq) ?_ ?_
      · intro x hx H2 s2 Qy Qn ky kn
        obtain ⟨i, hi, rfl⟩ := List.mem_map.mp hx
        exact ⟨rfl, yes_te ⟨_, rfl, .int i, _, rfl, .int i, ky rfl H2 (fun _ _ e => e)⟩⟩
      intro D H2 hD s2 h2
      have s02 := s01.trans s2
      refine ⟨D, ns.map fun i => letterB (.int i), rfl, SqL.of (by
        rw [h2, List.filter_eq_self.mpr (fun _ _ => rfl), List.map_map, List.map_map]
        rfl), ?_⟩
      rw [all_ok hl]
      refine ⟨_, rfl, iteF ?_⟩
      -- not too many
      refine ⟨_, rfl, a, _, rfl, E0.same s02, ((iv ns).length : Int), rfl, by rw [List.length_map]; omega, ?_⟩
      have hp2 : H2 p = some (.ins C dx []) := s2 _ _ (s1 _ _ hp)
      -- its letters
      refine ⟨_, rfl, a, _, rfl, .inr ⟨SqB.same s02 hS, ?_⟩⟩
      have s3 := s02
      have hp3 := hp2
      have t3 : SqB K H2 a (iv ns) := SqB.same s02 hS
      refine gen_heap fun H3 e3 => ?_
      rw [← e3] at s3 hp3 t3
      refine ⟨_, rfl, p, C, dx, _, rfl, hp3, T.cl, T.nL, (by show 0 < 1000; decide), ?_⟩
      have hp4 : L2.upd H3 p (.ins C dx (putF "letters" (.ref a) [])) p = some (.ins C dx [("letters", .ref a)]) := by rw [upd_same]; rfl
      have s4 := same_put (o := .ins C dx (putF "letters" (.ref a) [])) s3 p0
      have t4 := SqB.put (o := .ins C dx (putF "letters" (.ref a) [])) t3 hp3
      refine gen_heap fun H4 e4 => ?_
      rw [← e4] at hp4 s4 t4
      -- how many
      refine ⟨_, rfl, a, _, rfl, E0.same s4, _, rfl, p, C, dx, _, rfl, hp4, T.cl, T.nN, (by show 1 < 1000; decide), ?_⟩
      have hp5 : L2.upd H4 p (.ins C dx (putF "length" (.int ((iv ns).length : Nat)) [("letters", .ref a)])) p = some (.ins C dx [("letters", .ref a), ("length", .int (ns.length : Nat))]) := by
        rw [upd_same, pf_ne ne1, List.length_map]
        rfl
      have s5 := same_put (o := .ins C dx (putF "length" (.int ((iv ns).length : Nat)) [("letters", .ref a)])) s4 p0
      have t5 := SqB.put (o := .ins C dx (putF "length" (.int ((iv ns).length : Nat)) [("letters", .ref a)])) t4 hp4
      refine gen_heap fun H5 e5 => ?_
      rw [← e5] at hp5 s5 t5
      -- its kinds
      refine ⟨_, rfl, a, ns, rfl, E0.same s5, by omega, hl, fun ks hk tk H6 s6 tk6 => ?_⟩
      have hp6 := s6 _ _ hp5
      have s06 := s5.trans s6
      have t6 := SqB.same s6 t5
      refine ⟨_, rfl, p, C, dx, _, rfl, hp6, T.cl, T.nK, (by show 2 < 1000; decide), ?_⟩
      have hp7 : L2.upd H6 p (.ins C dx (putF "kinds" (.ref tk) [("letters", .ref a), ("length", .int (ns.length : Nat))])) p = some (.ins C dx [("letters", .ref a), ("length", .int (ns.length : Nat)), ("kinds", .ref tk)]) := by
        rw [upd_same, pf_ne ne2, pf_ne ne5]
        rfl
      have s7 := same_put (o := .ins C dx (putF "kinds" (.ref tk) [("letters", .ref a), ("length", .int (ns.length : Nat))])) s06 p0
      have t7 := SqB.put (o := .ins C dx (putF "kinds" (.ref tk) [("letters", .ref a), ("length", .int (ns.length : Nat))])) t6 hp6
      have k7 := SqT.put (o := .ins C dx (putF "kinds" (.ref tk) [("letters", .ref a), ("length", .int (ns.length : Nat))])) tk6 hp6
      refine gen_heap fun H7 e7 => ?_
      rw [← e7] at hp7 s7 t7 k7
      -- short
      refine ⟨_, rfl, a, ns, rfl, E0.same s7, by omega, fun q H8 s8 q8 => ?_⟩
      have hp8 := s8 _ _ hp7
      have s08 := s7.trans s8
      have t8 := SqB.same s8 t7
      have k8 := WR.Same.seqT s8 k7
      refine ⟨_, rfl, p, C, dx, _, _, rfl, hp8, T.cl, T.nL, lk_eq, ?_⟩
      refine ⟨_, _, .tup q8.sq (dp_iv _), .tup t8.sq (dp_iv _), shaped_ints _, shaped_ints _, ?_⟩
      rw [eqv_ints]
      refine ⟨_, rfl, p, C, dx, _, rfl, hp8, T.cl, T.nS, (by show 3 < 1000; decide), ?_⟩
      have hp9 : L2.upd H8 p (.ins C dx (putF "is_short" (.bl (decide (Fr.shr ns = ns))) [("letters", .ref a), ("length", .int (ns.length : Nat)), ("kinds", .ref tk)])) p = some (.ins C dx [("letters", .ref a), ("length", .int (ns.length : Nat)), ("kinds", .ref tk), ("is_short", .bl (decide (Fr.shr ns = ns)))]) := by
        rw [upd_same, pf_ne ne3, pf_ne ne6, pf_ne ne8]
        rfl
      have s9 := same_put (o := .ins C dx (putF "is_short" (.bl (decide (Fr.shr ns = ns))) [("letters", .ref a), ("length", .int (ns.length : Nat)), ("kinds", .ref tk)])) s08 p0
      have t9 := SqB.put (o := .ins C dx (putF "is_short" (.bl (decide (Fr.shr ns = ns))) [("letters", .ref a), ("length", .int (ns.length : Nat)), ("kinds", .ref tk)])) t8 hp8
      have k9 := SqT.put (o := .ins C dx (putF "is_short" (.bl (decide (Fr.shr ns = ns))) [("letters", .ref a), ("length", .int (ns.length : Nat)), ("kinds", .ref tk)])) k8 hp8
      refine gen_heap fun H9 e9 => ?_
      rw [← e9] at hp9 s9 t9 k9
      -- short round
      refine ⟨_, rfl, a, ns, rfl, E0.same s9, by omega, hl.nz, fun q2 Ha sa qa => ?_⟩
      have hpa := sa _ _ hp9
      have s0a := s9.trans sa
      have ta := SqB.same sa t9
      have ka := WR.Same.seqT sa k9
      refine ⟨_, rfl, p, C, dx, _, _, rfl, hpa, T.cl, T.nL, lk_eq, ?_⟩
      refine ⟨_, _, .tup qa.sq (dp_iv _), .tup ta.sq (dp_iv _), shaped_ints _, shaped_ints _, ?_⟩
      rw [eqv_ints]
      refine ⟨_, rfl, p, C, dx, _, rfl, hpa, T.cl, T.nR, (by show 4 < 1000; decide), ?_⟩
      refine k _ (same_put s0a p0) ⟨dx, a, tk, ks, ?_, SqB.put ta hpa, SqT.put ka hpa, hk⟩
      rw [upd_same, pf_ne ne4, pf_ne ne7, pf_ne ne9, pf_ne ne10]
      rfl
end
end W04
set_option Elab.async false
set_option linter.all false
set_option maxRecDepth 100000
set_option maxHeartbeats 2000000
namespace W04
open PySem L2 PySem.Spec PyProof.Rows WR WB
abbrev sEq : Stmt := inClass (top 35) 1
abbrev sContrary : Stmt := inClass (top 35) 4
abbrev sShort : Stmt := inClass (top 35) 5
abbrev sThen : Stmt := inClass (top 35) 8
abbrev sTimes : Stmt := inClass (top 35) 9
abbrev sNeedI : Stmt := top 24
/-- some word of these letters, all else as it stood -/
def NewW (K : PySem.W.Frag) (C : Addr) (H : Hp) (Q : VK) (ns : List Int) : Prop := ∀ p H', Same H H' → WordAt K C H' p ns → Q (.ref p) H'
theorem make_word {K : PySem.W.Frag} {C : Addr} {H1 : Hp} {q : Addr} {ms : List Int} {Q : VK} {E : XK} (hq : SqW K H1 q (iv ms)) (hlen : ms.length ≤ 500) (hl : Lts ms) (k : NewW K C H1 Q ms) :
    ∀ x dx, H1 x = none → H1 dx = none → dx ≠ x → spInit K C [.ref x, .ref q] (L2.upd (L2.upd H1 dx (.own x)) x (.ins C dx [])) (fun v H2 => v = .non ∧ Q (.ref x) H2) E := by
  intro x dx nx ndx nex
  have s0 : Same H1 (L2.upd (L2.upd H1 dx (.own x)) x (.ins C dx [])) := fun b o e => by
    rw [upd_ne (ne_of_none e nx), upd_ne (ne_of_none e ndx)]
    exact e
  exact ⟨H1, x, dx, q, ms, rfl, s0, nx, upd_same, hq, hlen, hl, fun H' s' W' => ⟨rfl, k x H' s' W'⟩⟩
def spOne (K : PySem.W.Frag) (C : Addr) (fn : List Int → List Int) : Sp := fun vs H Q _ => ∃ (p : Addr) (ns : List Int), vs = [.ref p] ∧ WordAt K C H p ns ∧ ns.length ≤ 500 ∧ Lts ns ∧ NewW K C H Q (fn ns)
def spEq (K : PySem.W.Frag) (C : Addr) : Sp := fun vs H Q _ => ∃ (p q : Addr) (ns ms : List Int), vs = [.ref p, .ref q] ∧ WordAt K C H p ns ∧ WordAt K C H q ms ∧ Q (.bl (decide (ns = ms))) H
def spThen (K : PySem.W.Frag) (C : Addr) : Sp := fun vs H Q _ => ∃ (p q : Addr) (ns ms : List Int), vs = [.ref p, .ref q] ∧ WordAt K C H p ns ∧ WordAt K C H q ms ∧ ns.length + ms.length ≤ 500 ∧ Lts ns ∧ Lts ms ∧ NewW K C H Q (ns ++ ms)
/-- so many times, for a number below 0 the contrary so many times -/
def tms (n : Int) (ns : List Int) : List Int := if 0 < n then Fr.rep n.natAbs ns else Fr.rep n.natAbs (Fr.con ns)
def spTimes (K : PySem.W.Frag) (C : Addr) : Sp := fun vs H Q _ => ∃ (p : Addr) (n : Int) (ns : List Int), vs = [.ref p, .int n] ∧ WordAt K C H p ns ∧ ns.length ≤ 500 ∧ ns.length * n.natAbs ≤ 500 ∧ Lts ns ∧ NewW K C H Q (tms n ns)
def spNeedW (K : PySem.W.Frag) (C : Addr) : Sp := fun vs H Q _ => ∃ (q : Addr) (z : V) (ms : List Int), vs = [.ref q, z] ∧ WordAt K C H q ms ∧ Q .non H
def spNeedI : Sp := fun vs H Q _ => ∃ (n : Int) (z : V), vs = [.int n, z] ∧ Q .non H
theorem Lts.con {ns : List Int} (h : Lts ns) : Lts (Fr.con ns) := fun x hx => by
  unfold Fr.con at hx
  obtain ⟨y, hy, rfl⟩ := List.mem_map.mp hx
  have := h y (List.mem_reverse.mp hy)
  rw [Int.natAbs_neg]
  exact this
theorem Lts.app {ns ms : List Int} (h : Lts ns) (k : Lts ms) : Lts (ns ++ ms) := fun x hx => by
  rcases List.mem_append.mp hx with e | e
  · exact h x e
  · exact k x e
theorem Lts.shr {ns : List Int} (h : Lts ns) : Lts (Fr.shr ns) := fun x hx => h x (Fr.shr_mem hx)
theorem Lts.rep {ns : List Int} (h : Lts ns) : ∀ n, Lts (Fr.rep n ns)
  | 0 => fun x hx => nomatch hx
  | n + 1 => h.app (Lts.rep h n)
theorem rnd_sub {ns : List Int} (nz : Fr.NZ ns) : ∃ u, Fr.shr ns = u ++ Fr.rnd ns ++ Fr.con u := by
  obtain ⟨u, m, e, c, z⟩ := Fr.parted (Fr.shr ns) nz.shr (Fr.rd_shr ns)
  refine ⟨u, ?_⟩
  have er : Fr.rnd ns = m := by
    unfold Fr.rnd
    rw [e, Fr.ends_eq c z]
  rw [er]
  exact e
theorem Lts.rnd {ns : List Int} (h : Lts ns) : Lts (Fr.rnd ns) := fun x hx => by
  obtain ⟨u, e⟩ := rnd_sub h.nz
  refine h.shr x ?_
  rw [e]
  simp [hx]
theorem rnd_len {ns : List Int} (h : Lts ns) : (Fr.rnd ns).length ≤ ns.length := by
  obtain ⟨u, e⟩ := rnd_sub h.nz
  have h1 := shr_len ns
  rw [e] at h1
  rw [whole_len] at h1
  omega
theorem rep_flat (n : Nat) (ns : List Int) : (List.replicate n (iv ns)).flatten = iv (Fr.rep n ns) := by
  induction n with
  | zero => rfl
  | succ n ih => 
    rw [List.replicate_succ, List.flatten_cons, ih, Fr.rep_succ]
    exact List.map_append.symm
theorem WordAt.tyx {K : PySem.W.Frag} {mg : Str → Option Value} {C : Addr} {H : Hp} {p : Addr} {ns : List Int} (h : WordAt K C H p ns) (T : TxW K mg C) : TyX K H (.ref p) (.ref C) := by
  obtain ⟨dx, tl, tk, ks, h1, _⟩ := h
  exact .base (.ins h1 T.cl T.ca T.cn T.ct T.cm)
theorem kit_self {K : PySem.W.Frag} (C : Addr) : PySem.W.kitOne K (.ref C) (.ref C) = some true := by
  unfold PySem.W.kitOne
  rw [if_pos (by simp)]
structure MkW (P : Program) (w : World) (K : PySem.W.Frag) (mg : Str → Option Value) (base : Heap) (C : Addr) : Prop where
  ex : ∃ (f : Addr) (fd : FuncData), Mk K C f ∧ FnOk P w K mg base CX0 4 f fd ["self", "letters"] (spInit K C) ∧ Binds K fd ["self", "letters"] []
section
variable {X : Cx} {C : Addr} {p pos : Pos} {e : Expr} {es : List Expr} {t : TA} {j : Nat}
theorem pe_word (M : MkW X.prog X.w X.K X.mg X.base C) (T : TxW X.K X.mg C) (hr : Room j X.A) (hkj : 5 ≤ j) (hg : Gl X "Word") (ha : PA X (e :: es) t)
    (he : starEach (e :: es) X.env = (false, eval e X.env) :: starEach es X.env := by rfl) (hpl : (backTo pos (starEach es X.env)).any (·.1) = false := by rfl) :
    PE X (.Call (.Name "Word" p) (e :: es) [] pos) (tMake C (spInit X.K C) [] E0 t) := by
  obtain ⟨f, fd, M, F, hb⟩ := M.ex
  exact pe_make M F (hr.mono hkj) hg T.mgW hb .nil pass0 ha (by decide) he hpl
end
section
variable {P : Program} {w : World} {K : PySem.W.Frag} {mg : Str → Option Value} {base : Heap}
theorem scEq : FnScope ["self", "other"] ["self", "other"] (defScope sEq) := ⟨rfl, rfl, rfl, by decide +kernel, rfl, by decide +kernel, by decide +kernel⟩
theorem ok_eq {C f : Addr} {fd : FuncData} (F : Fun K "__eq__" "Word.__eq__" sEq f fd) (T : TxW K mg C) : FnOk P w K mg base CX0 1 f fd ["self", "other"] (spEq K C) := by
  refine F.ok scEq (fun vs H Q E h => ?_) (fun cdv A outer s H vs Q E hr h => ?_)
  · obtain ⟨p, q, ns, ms, rfl, _⟩ := h
    rfl
  · obtain ⟨p, q, ns, ms, rfl, W1, W2, k⟩ := h
    refine ⟨_, pss_one (ps_ret (pe_and (pe_callB call_isi (by rfl) T.isin (by decide +kernel) (pa_cons (pv 1) (pa_cons (pe_glob (v := .ref C) (by rfl) T.mgW rfl) pa_nil)))
      (pe_one (pe_cmpR (op_eqD hr.units) (pe_fld (pv 0) rfl) (pe_fld (pv 1) rfl) (nomark _))))), ?_⟩
    refine ⟨_, rfl, _, _, _, _, _, rfl, .own C, W2.tyx T, kit_self C, _, rfl, ?_⟩
    refine iteT ?_
    obtain ⟨dx, tl, tk, ks, h1, h2, h3, h4⟩ := W1
    obtain ⟨dx', tl', tk', ks', h1', h2', h3', h4'⟩ := W2
    refine ⟨_, rfl, p, C, dx, _, _, rfl, h1, T.cl, T.nL, wf_letters, _, rfl, q, C, dx', _, _, rfl, h1', T.cl, T.nL, wf_letters, ?_⟩
    refine ⟨_, _, .tup h2.sq (dp_iv _), .tup h2'.sq (dp_iv _), shaped_ints _, shaped_ints _, ?_⟩
    rw [eqv_ints]
    exact k
theorem scNeedW : FnScope ["value", "part"] ["value", "part"] (defScope sNeedW) := ⟨rfl, rfl, rfl, by decide +kernel, rfl, by decide +kernel, by decide +kernel⟩
theorem ok_needW {C f : Addr} {fd : FuncData} (F : Fun K "need_word" "need_word" sNeedW f fd) (T : TxW K mg C) : FnOk P w K mg base CX0 1 f fd ["value", "part"] (spNeedW K C) := by
  refine F.ok scNeedW (fun vs H Q E h => ?_) (fun cdv A outer s H vs Q E hr h => ?_)
  · obtain ⟨q, z, ms, rfl, _⟩ := h
    rfl
  · obtain ⟨q, z, ms, rfl, W2, k⟩ := h
    refine ⟨_, pss_one (ps_if (pt_not (pt_val (pe_callB call_isi (by rfl) T.isin (by decide +kernel) (pa_cons (pv 0) (pa_cons (pe_glob (v := .ref C) (by rfl) T.mgW rfl) pa_nil))))) (pss_one ps_never) pss_nil), ?_⟩
    exact ⟨_, rfl, _, _, _, _, _, rfl, .own C, W2.tyx T, kit_self C, _, rfl, iteF k⟩
theorem scNeedI : FnScope ["value", "part"] ["value", "part"] (defScope sNeedI) := ⟨rfl, rfl, rfl, by decide +kernel, rfl, by decide +kernel, by decide +kernel⟩
theorem ok_needI {f : Addr} {fd : FuncData} (F : Fun K "need_integer" "need_integer" sNeedI f fd) (GI : Cal P w K mg base "is_integer" 1 ["value"] spIsInt) : FnOk P w K mg base CX0 2 f fd ["value", "part"] spNeedI := by
  refine F.ok scNeedI (fun vs H Q E h => ?_) (fun cdv A outer s H vs Q E hr h => ?_)
  · obtain ⟨n, z, rfl, _⟩ := h
    rfl
  · obtain ⟨n, z, rfl, k⟩ := h
    refine ⟨_, pss_one (ps_if (pt_not (pt_val (pe_cal GI hr (by decide) (by rfl) (pa_cons (pv 0) pa_nil)))) (pss_one ps_never) pss_nil), ?_⟩
    exact ⟨_, rfl, .int n, _, rfl, .int n, _, rfl, iteF k⟩
theorem scContrary : FnScope ["self"] ["self"] (defScope sContrary) := ⟨rfl, rfl, rfl, by decide +kernel, rfl, by decide +kernel, by decide +kernel⟩
theorem ok_contrary {C f : Addr} {fd : FuncData} (F : Fun K "contrary" "Word.contrary" sContrary f fd) (T : TxW K mg C) (M : MkW P w K mg base C) (GC : Cal P w K mg base "contrary_letters" 1 ["letters"] (spCon K)) :
    FnOk P w K mg base CX0 6 f fd ["self"] (spOne K C Fr.con) := by
  refine F.ok scContrary (fun vs H Q E h => ?_) (fun cdv A outer s H vs Q E hr h => ?_)
  · obtain ⟨p, ns, rfl, _⟩ := h
    rfl
  · obtain ⟨p, ns, rfl, ⟨dx, tl, tk, ks, h1, h2, h3, h4⟩, hlen, hl, k⟩ := h
    refine ⟨_, pss_one (ps_ret (pe_word M T hr (by decide) (by rfl) (pa_cons (pe_cal GC hr (by decide) (by rfl) (pa_cons (pe_fld (pv 0) rfl) pa_nil)) pa_nil))), ?_⟩
    refine ⟨_, rfl, p, C, dx, _, _, rfl, h1, T.cl, T.nL, wf_letters, tl, ns, rfl, h2, by omega, fun q H1 s1 hq => ?_⟩
    exact make_word (.inr hq) (by rw [Fr.con_length]; exact hlen) hl.con fun x H' s' W => k x H' (s1.trans s') W
theorem scShort : FnScope ["self"] ["self"] (defScope sShort) := ⟨rfl, rfl, rfl, by decide +kernel, rfl, by decide +kernel, by decide +kernel⟩
theorem ok_shortened {C f : Addr} {fd : FuncData} (F : Fun K "shortened" "Word.shortened" sShort f fd) (T : TxW K mg C) (M : MkW P w K mg base C) (GS : Cal P w K mg base "shortened_letters" 1 ["letters"] (spShr K)) :
    FnOk P w K mg base CX0 6 f fd ["self"] (spOne K C Fr.shr) := by
  refine F.ok scShort (fun vs H Q E h => ?_) (fun cdv A outer s H vs Q E hr h => ?_)
  · obtain ⟨p, ns, rfl, _⟩ := h
    rfl
  · obtain ⟨p, ns, rfl, ⟨dx, tl, tk, ks, h1, h2, h3, h4⟩, hlen, hl, k⟩ := h
    refine ⟨_, pss_one (ps_ret (pe_word M T hr (by decide) (by rfl) (pa_cons (pe_cal GS hr (by decide) (by rfl) (pa_cons (pe_fld (pv 0) rfl) pa_nil)) pa_nil))), ?_⟩
    refine ⟨_, rfl, p, C, dx, _, _, rfl, h1, T.cl, T.nL, wf_letters, tl, ns, rfl, .inr h2, by omega, fun q H1 s1 hq => ?_⟩
    exact make_word (.inr hq) (Nat.le_trans (shr_len ns) hlen) hl.shr fun x H' s' W => k x H' (s1.trans s') W
theorem scThen : FnScope ["self", "other"] ["self", "other"] (defScope sThen) := ⟨rfl, rfl, rfl, by decide +kernel, rfl, by decide +kernel, by decide +kernel⟩
theorem ok_then {C f : Addr} {fd : FuncData} (F : Fun K "then" "Word.then" sThen f fd) (T : TxW K mg C) (M : MkW P w K mg base C) (GN : Cal P w K mg base "need_word" 1 ["value", "part"] (spNeedW K C)) :
    FnOk P w K mg base CX0 6 f fd ["self", "other"] (spThen K C) := by
  refine F.ok scThen (fun vs H Q E h => ?_) (fun cdv A outer s H vs Q E hr h => ?_)
  · obtain ⟨p, q, ns, ms, rfl, _⟩ := h
    rfl
  · obtain ⟨p, q, ns, ms, rfl, W1, W2, hlen, hl, hl2, k⟩ := h
    refine ⟨_, pss_cons (ps_expr (pe_cal GN hr (by decide) (by rfl) (pa_cons (pv 1) (pa_cons pe_str pa_nil))))
      (pss_one (ps_ret (pe_word M T hr (by decide) (by rfl) (pa_cons (pe_op op_catB (pe_fld (pv 0) rfl) (pe_fld (pv 1) rfl)) pa_nil)))), ?_⟩
    refine ⟨_, rfl, q, _, ms, rfl, W2, ?_⟩
    obtain ⟨dx, tl, tk, ks, h1, h2, h3, h4⟩ := W1
    obtain ⟨dx', tl', tk', ks', h1', h2', h3', h4'⟩ := W2
    refine ⟨_, rfl, p, C, dx, _, _, rfl, h1, T.cl, T.nL, wf_letters, _, rfl, q, C, dx', _, _, rfl, h1', T.cl, T.nL, wf_letters, ?_⟩
    refine ⟨tl, tl', _, _, rfl, rfl, h2, h2', Evl.sz_of (by simp; omega), fun r H1 s1 hr1 => ?_⟩
    rw [← List.map_append] at hr1
    exact make_word (.inr hr1) (by rw [List.length_append]; exact hlen) (hl.app hl2) fun x H' s' W => k x H' (s1.trans s') W
theorem scTimes : FnScope ["self", "number", "once"] ["self", "number"] (defScope sTimes) := ⟨rfl, rfl, rfl, by decide +kernel, rfl, by decide +kernel, by decide +kernel⟩
theorem abs_eq (n : Int) : (if n < 0 then -n else n) = (n.natAbs : Int) := by split <;> omega
theorem ok_times {C f : Addr} {fd : FuncData} (F : Fun K "times" "Word.times" sTimes f fd) (T : TxW K mg C) (T2 : TxB mg) (M : MkW P w K mg base C) (GN : Cal P w K mg base "need_integer" 2 ["value", "part"] spNeedI)
    (GF : Cal P w K mg base "need_few_letters" 1 ["many"] spFew) (GC : Cal P w K mg base "contrary_letters" 1 ["letters"] (spCon K)) :
    FnOk P w K mg base CX0 6 f fd ["self", "number"] (spTimes K C) := by
  refine F.ok scTimes (fun vs H Q E h => ?_) (fun cdv A outer s H vs Q E hr h => ?_)
  · obtain ⟨p, n, ns, rfl, _⟩ := h
    rfl
  · obtain ⟨p, n, ns, rfl, ⟨dx, tl, tk, ks, h1, h2, h3, h4⟩, hns, hlen, hl, k⟩ := h
    refine ⟨_, pss_cons (ps_expr (pe_cal GN hr (by decide) (by rfl) (pa_cons (pv 1) (pa_cons pe_str pa_nil))))
      (pss_cons (ps_if (pt_cmpR op_eq (pe_fld (pv 0) rfl) pe_int (nomark _)) (pss_one (ps_ret (pe_word M T hr (by decide) (by rfl) (pa_cons (pe_lst pa_nil) pa_nil)))) pss_nil)
      (pss_cons (ps_expr (pe_cal GF hr (by decide) (by rfl) (pa_cons (pe_op op_mul (pe_fld (pv 0) rfl) (pe_callB call_abs (by rfl) T2.abs (by decide +kernel) (pa_cons (pv 1) pa_nil))) pa_nil)))
      (pss_cons (ps_set (i := 2) scTimes.nd rfl (Or.inl rfl) (pe_ifExp (pt_cmpR op_gt (pv 1) pe_int (nomark _)) (pe_fld (pv 0) rfl) (pe_cal GC hr (by decide) (by rfl) (pa_cons (pe_fld (pv 0) rfl) pa_nil))))
      (pss_one (ps_ret (pe_word M T hr (by decide) (by rfl) (pa_cons (pe_op op_repB (pv 2) (pe_callB call_abs (by rfl) T2.abs (by decide +kernel) (pa_cons (pv 1) pa_nil))) pa_nil))))))), ?_⟩
    refine ⟨_, rfl, n, _, rfl, ?_⟩
    refine ⟨_, rfl, p, C, dx, _, _, rfl, h1, T.cl, T.nN, wf_length, rfl, _, rfl, ?_⟩
    by_cases hz : ns = []
    · subst hz
      have e : tms n [] = [] := by
        unfold tms
        split
        · exact Fr.rep_nil _
        · exact Fr.rep_nil _
      rw [e] at k
      refine iteT' (decide_eq_true rfl) ?_
      refine ⟨Nat.zero_le _, fun q hq => ?_⟩
      exact make_word (q := q) (ms := []) (.inl (SqL.of upd_same)) (by simp) (fun x hx => nomatch hx) fun x H' s' W => k x H' ((same_upd hq).trans s') W
    · have hpos : 0 < ns.length := List.length_pos_iff.mpr hz
      have hn : n.natAbs ≤ 500 := Nat.le_trans (Nat.le_mul_of_pos_left _ hpos) hlen
      refine iteF' (decide_eq_false fun e => ?_) ?_
      · have e2 : V.int (ns.length : Int) = V.int 0 := e
        injection e2 with e3
        omega
      refine ⟨_, rfl, p, C, dx, _, _, rfl, h1, T.cl, T.nN, wf_length, _, rfl, n, rfl, _, _, rfl, rfl, .inl ⟨by omega, by omega⟩, _, rfl, ?_, ?_⟩
      · rw [abs_eq, ← Int.natCast_mul]
        omega
      have fin : ∀ (q : Addr) (ms : List Int) (H1 : Hp), Same H H1 → SqB K H1 q (iv ms) → ms.length = ns.length → Lts ms → Fr.rep n.natAbs ms = tms n ns →
          rRepB K (.ref q) (.int (if n < 0 then -n else n)) H1 fun v H2 => ∀ x dx, H2 x = none → H2 dx = none → dx ≠ x → spInit K C [.ref x, v] (L2.upd (L2.upd H2 dx (.own x)) x (.ins C dx [])) (fun v H3 => v = .non ∧ Q (.ref x) H3) L2.E0 := by
        intro q ms H1 s1 hq hm hlm e
        refine ⟨q, _, iv ms, rfl, rfl, hq, by rw [abs_eq]; omega, by rw [abs_eq]; omega, by rw [List.length_map]; omega, fun r H2 s2 hr2 => ?_⟩
        rw [abs_eq, Int.toNat_natCast, rep_flat, e] at hr2
        have el : (tms n ns).length ≤ 500 := by
          rw [← e, Fr.rep_length, hm, Nat.mul_comm]
          exact hlen
        exact make_word (.inr hr2) el (by rw [← e]; exact hlm.rep _) fun x H' s' W => k x H' ((s1.trans s2).trans s') W
      refine ⟨_, rfl, _, _, rfl, rfl, _, rfl, ?_⟩
      refine ite2 (fun hpn => ?_) (fun hpn => ?_)
      · have hpn' : 0 < n := of_decide_eq_true hpn
        refine ⟨_, rfl, p, C, dx, _, _, rfl, h1, T.cl, T.nL, wf_letters, ?_⟩
        exact ⟨_, rfl, _, rfl, n, rfl, fin tl ns H (Same.refl H) h2 rfl hl (by unfold tms; rw [if_pos hpn'])⟩
      · have hpn' : ¬ 0 < n := fun z => hpn (decide_eq_true z)
        refine ⟨_, rfl, p, C, dx, _, _, rfl, h1, T.cl, T.nL, wf_letters, tl, ns, rfl, h2, by omega, fun q H1 s1 hq => ?_⟩
        exact ⟨_, rfl, _, rfl, n, rfl, fin q (Fr.con ns) H1 s1 hq (Fr.con_length ns) hl.con (by unfold tms; rw [if_neg hpn'])⟩
end
end W04
set_option Elab.async false
set_option linter.all false
set_option maxRecDepth 100000
set_option maxHeartbeats 2000000
namespace W04
open PySem L2 WR WB
abbrev sJar : Stmt := top 37
abbrev sDraw : Stmt := top 38
/-! ### the hand that draws -/
/-- at a: a hand, of which at most n cells were begun -/
def HandAt (H : Hp) (a c : Addr) (n : Nat) : Prop := ∃ (ns : List Int) (i r : Int), H a = some (.lst [.ref c, .int i, .int r]) ∧ H c = some (.lst (ns.map V.int)) ∧ c ≠ a ∧ ns.length ≤ 1000 ∧ 0 ≤ i ∧ i ≤ (n : Int) ∧ 0 ≤ r
/-- all but what is at a stands as it did -/
def Kept (a : Addr) (H H' : Hp) : Prop := ∀ b o, b ≠ a → H b = some o → H' b = some o
theorem Kept.refl {a : Addr} {H : Hp} : Kept a H H := fun _ _ _ e => e
theorem Kept.trans {a : Addr} {H H1 H2 : Hp} (h1 : Kept a H H1) (h2 : Kept a H1 H2) : Kept a H H2 := fun b o n e => h2 b o n (h1 b o n e)
theorem Kept.upd {a : Addr} {H : Hp} {o : HO} : Kept a H (upd H a o) := fun b u n e => by rw [upd_ne n]; exact e
theorem Kept.new {a p : Addr} {H H' : Hp} {o : HO} (k : Kept a H H') (hp : H' p = none) : Kept a H (L2.upd H' p o) := fun b u n e => by
  rw [upd_ne (ne_of_none (k b u n e) hp)]
  exact k b u n e

theorem HandAt.put {H : Hp} {a c : Addr} {ns : List Int} {i r : Int} {n : Nat} (hC : H c = some (.lst (ns.map V.int))) (hca : c ≠ a) (hl : ns.length ≤ 1000) (i0 : 0 ≤ i) (hi : i ≤ (n : Int)) (r0 : 0 ≤ r) :
    HandAt (L2.upd H a (.lst [.ref c, .int i, .int r])) a c n := ⟨ns, i, r, upd_same, by rw [upd_ne hca]; exact hC, hca, hl, i0, hi, r0⟩
def spHand (K : PySem.W.Frag) : Sp := fun vs H Q _ => ∃ (a : Addr) (ns : List Int), vs = [.ref a] ∧ SqL K H a (ns.map V.int) ∧ ns.length ≤ 1000 ∧
  ∀ (H' : Hp) (p c : Addr), Same H H' → H p = none → H c = none → HandAt H' p c 0 → Q (.ref p) H'
def spTake : Sp := fun vs H Q _ => ∃ (a c : Addr) (m : Int) (n : Nat), vs = [.ref a, .int m] ∧ HandAt H a c n ∧ n ≤ 10000 ∧ 0 < m ∧ m.natAbs < 2 ^ 200 ∧
  ∀ (H' : Hp) (q : Int), 0 ≤ q → q < m → HandAt H' a c (n + 1) → Kept a H H' → Q (.int q) H'

theorem dpInts {K : PySem.W.Frag} {H : Hp} : ∀ ns : List Int, DpAll K H (ns.map V.int) (ns.map PyData.int)
  | [] => .nil
  | n :: r => .cons (.int n) (dpInts r)
structure TxL (mg : Str → Option Value) : Prop where
  int : mg "int" = none
  len : mg "len" = none
  abs : mg "abs" = none
section
variable {P : Program} {w : World} {K : PySem.W.Frag} {mg : Str → Option Value} {base : Heap}
theorem scHand : FnScope ["_law_script", "_law_cell"] ["_law_script"] (defScope sJar) := ⟨rfl, rfl, rfl, by decide +kernel, rfl, by decide +kernel, by decide +kernel⟩
theorem ok_hand {f : Addr} {fd : FuncData} (F : Fun K "_law_jar" "_law_jar" sJar f fd) (T : TxL mg) : FnOk P w K mg base CX0 1 f fd ["_law_script"] (spHand K) := by
  refine F.ok scHand (fun vs H Q E h => ?_) (fun cdv A outer s H vs Q E hr h => ?_)
  · obtain ⟨a, ns, rfl, _⟩ := h
    rfl
  · obtain ⟨a, ns, rfl, hS, hlen, k⟩ := h
    refine ⟨_, pss_one (ps_ret (pe_lst (pa_cons (pe_lc (own := [("_law_cell", 1)]) (g := gName 1) (tt := tYes) rfl scHand.nd (pi_list (pe_slice sl_list (pv 0) po_none (po_some pe_int)))
      (blkOk_by (N := ["_law_script", "_law_cell"]) (sc := defScope sJar) (by decide +kernel)) (fun _ _ _ _ _ => pg_name (i := 1) scHand.nd rfl (Or.inl rfl)) (fun _ _ _ _ _ => pts_nil)
      (fun _ _ _ _ _ => pe_callTy call_int1 (by rfl) T.int (by decide +kernel) (pa_cons (pv 1) pa_nil))) (pa_cons pe_int (pa_cons pe_int pa_nil))))), ?_⟩
    refine ⟨_, rfl, 61, rfl, a, ns.map V.int, rfl, hS, fun p hp => ?_⟩
    refine ⟨p, rfl, ⟨_, SqL.of upd_same⟩, fun D hD => ?_⟩
    have hDp : D ≠ p := fun e => by
      rw [e, upd_same] at hD
      cases hD
    have hD0 : H D = none := by
      rw [upd_ne hDp] at hD
      exact hD
    have hc : cutV (ns.map V.int) none (some 61) = (ns.take 61).map V.int := by
      unfold cutV
      rw [List.map_take, List.length_map]
      have e0 : HT.sIx ns.length 0 none = 0 := rfl
      rw [e0, List.drop_zero]
      have e1 : HT.sIx ns.length ns.length (some 61) = min 61 ns.length := by
        unfold HT.sIx
        simp
        try omega
      rw [e1, Nat.sub_zero]
      by_cases h : 61 ≤ ns.length
      · rw [Nat.min_eq_left h]
      · rw [Nat.min_eq_right (by omega), List.take_of_length_le (by simp), List.take_of_length_le (by simp; omega)]
    refine lc_list (K := K) (a := p) (xs := (ns.take 61).map V.int) (fun i H' => H' D = some (.lst (((ns.take 61).take i).map V.int)) ∧ H' p = some (.lst ((ns.take 61).map V.int)) ∧ Same H H') ⟨upd_same, ?_, ?_⟩ (fun i H' _ q => SqL.of q.2.1) ?_ ?_
    · rw [upd_ne hDp.symm, upd_same, hc]
    · intro b o e
      rw [upd_ne (ne_of_none e hD0), upd_ne (ne_of_none e hp)]
      exact e
    · intro i x H' hi q
      obtain ⟨z, hz, rfl⟩ : ∃ z, (ns.take 61)[i]? = some z ∧ x = V.int z := by
        rw [List.getElem?_map] at hi
        cases e : (ns.take 61)[i]? with
        | none =>
          rw [e] at hi
          cases hi
        | some z =>
          rw [e] at hi
          exact ⟨z, rfl, (Option.some.inj hi).symm⟩
      have hli : i < (ns.take 61).length := (List.getElem?_eq_some_iff.mp hz).1
      have hl60 : (ns.take 61).length ≤ 61 := by rw [List.length_take]; omega
      refine ⟨rfl, ?_⟩
      refine yes_te ?_
      refine ⟨_, rfl, .inl ⟨z, rfl, _, q.1, Evl.sz_lt (by rw [List.length_map, List.length_take]; omega), ?_⟩⟩
      refine ⟨?_, ?_, ?_⟩
      · rw [upd_same]
        congr 2
        have ez : (ns.take 61)[i] = z := (List.getElem?_eq_some_iff.mp hz).2
        rw [List.take_succ_eq_append_getElem hli, ez, List.map_append]
        rfl
      · rw [upd_ne hDp.symm]
        exact q.2.1
      · intro b o e
        rw [upd_ne (ne_of_none e hD0)]
        exact q.2.2 b o e
    · intro H' q
      refine ⟨by show 3 ≤ sizeLine; decide, fun l hl => ?_⟩
      have hlD : D ≠ l := ne_of_none q.1 hl
      have hl0 : H l = none := by
        cases e : H l with
        | none => rfl
        | some o => rw [q.2.2 l o e] at hl; cases hl
      refine k _ l D (fun b o e => by rw [upd_ne (ne_of_none e hl0)]; exact q.2.2 b o e) hl0 hD0 ?_
      have q1 := q.1
      rw [List.length_map, List.take_length] at q1
      exact ⟨ns.take 61, 0, 0, upd_same, by rw [upd_ne hlD]; exact q1, hlD, by rw [List.length_take]; omega, Int.le_refl _, Int.le_refl _, Int.le_refl _⟩

theorem scTake : FnScope ["_law_jar_here", "_law_many", "_law_rest", "_law_at", "_law_cell", "_law_mixed"] ["_law_jar_here", "_law_many"] (defScope sDraw) := ⟨rfl, rfl, rfl, by decide +kernel, rfl, by decide +kernel, by decide +kernel⟩
theorem ok_take {f : Addr} {fd : FuncData} (F : Fun K "_law_draw" "_law_draw" sDraw f fd) (T : TxL mg) : FnOk P w K mg base CX0 1 f fd ["_law_jar_here", "_law_many"] spTake := by
  refine F.ok scTake (fun vs H Q E h => ?_) (fun cdv A outer s H vs Q E hr h => ?_)
  · obtain ⟨a, c, m, n, rfl, _⟩ := h
    rfl
  · obtain ⟨a, c, m, n, rfl, ⟨ns, i, r, hA, hC, hca, hlen, i0, hi, r0⟩, hn, m0, hm, k⟩ := h
    refine ⟨_, pss_cons (ps_if (pt_cmpR op_gt (pe_ix ix_list (pv 0) pe_int (fun _ _ => rfl)) pe_int (nomark _))
        (pss_cons (ps_set (i := 2) scTake.nd rfl (Or.inl rfl) (pe_callTy call_int1 (by rfl) T.int (by decide +kernel) (pa_cons (pe_ix ix_list (pv 0) pe_int (fun _ _ => rfl)) pa_nil)))
        (pss_cons (ps_asg (pe_op op_fdivW (pv 2) (pv 1)) (pg_sub (pv 0) pe_int set_list))
        (pss_one (ps_ret (pe_op op_mod (pe_callTy call_int1 (by rfl) T.int (by decide +kernel) (pa_cons (pv 2) pa_nil)) (pv 1)))))) pss_nil)
      (pss_cons (ps_set (i := 3) scTake.nd rfl (Or.inl rfl) (pe_ix ix_list (pv 0) pe_int (fun _ _ => rfl)))
      (pss_cons (ps_asg (pe_op op_add (pv 3) pe_int) (pg_sub (pv 0) pe_int set_list))
      (pss_cons (ps_set (i := 4) scTake.nd rfl (Or.inl rfl) (pe_op op_add (pe_op op_mul pe_int (pv 3)) pe_int))
      (Evl.pss_cut (ps_if (pt_cmpR (op_neD hr.units) (pe_ix ix_list (pv 0) pe_int (fun _ _ => rfl)) (pe_lst pa_nil) (nomark _))
        (pss_one (ps_set (i := 4) scTake.nd rfl (Or.inl rfl) (pe_ix ix_list (pe_ix ix_list (pv 0) pe_int (fun _ _ => rfl)) (pe_op op_mod (pe_callTy call_int1 (by rfl) T.int (by decide +kernel) (pa_cons (pv 3) pa_nil)) (pe_callB call_len_seq (by rfl) T.len PySem.boot_len (pa_cons (pe_ix ix_list (pv 0) pe_int (fun _ _ => rfl)) pa_nil))) (fun _ _ => rfl)))) pss_nil)
      (Evl.pss_cut (ps_if (PW.pt (pw_and (pt_cmpR op_lt (pv 3) (pe_callB call_len_seq (by rfl) T.len PySem.boot_len (pa_cons (pe_ix ix_list (pv 0) pe_int (fun _ _ => rfl)) pa_nil)) (nomark _)) (pw_and1 (pt_cmpR op_ge (pe_callB call_abs (by rfl) T.abs (by decide +kernel) (pa_cons (pv 4) pa_nil)) (pe_op op_pow pe_int pe_int) (nomark _)))))
        (pss_cons (ps_set (i := 2) scTake.nd rfl (Or.inl rfl) (pe_op op_add (pe_op op_mul pe_int (pe_op op_sub (pe_callB call_abs (by rfl) T.abs (by decide +kernel) (pa_cons (pv 4) pa_nil)) (pe_op op_pow pe_int pe_int))) (pe_callTy call_int1 (by rfl) T.int (by decide +kernel) (pa_cons (pe_cmpR op_lt (pv 4) pe_int (nomark _)) pa_nil))))
        (pss_cons (ps_asg (pe_op op_fdivW (pe_callTy call_int1 (by rfl) T.int (by decide +kernel) (pa_cons (pv 2) pa_nil)) (pv 1)) (pg_sub (pv 0) pe_int set_list))
        (pss_one (ps_ret (pe_op op_mod (pe_callTy call_int1 (by rfl) T.int (by decide +kernel) (pa_cons (pv 2) pa_nil)) (pv 1)))))) pss_nil)
      (pss_cons (ps_set (i := 5) scTake.nd rfl (Or.inl rfl) (pe_op op_mod (pe_callTy call_int1 (by rfl) T.int (by decide +kernel) (pa_cons (pe_op op_pow (pe_op op_add (pe_op op_add (pe_op op_mod (pe_callTy call_int1 (by rfl) T.int (by decide +kernel) (pa_cons (pv 4) pa_nil)) pe_int) (pe_op op_mul pe_int (pv 3))) pe_int) pe_int) pa_nil)) pe_int))
      (pss_cons (ps_set (i := 5) scTake.nd rfl (Or.inl rfl) (pe_op op_mod (pe_callTy call_int1 (by rfl) T.int (by decide +kernel) (pa_cons (pe_op op_pow (pe_op op_add (pe_op op_add (pe_op op_mul (pv 5) (pe_op op_add (pe_op op_mul pe_int (pv 3)) pe_int)) (pe_op op_mul (pe_op op_mul pe_int (pv 3)) (pv 3))) pe_int) pe_int) pa_nil)) pe_int))
      (pss_one (ps_ret (pe_op op_mod (pe_callTy call_int1 (by rfl) T.int (by decide +kernel) (pa_cons (pe_op op_fdiv (pv 5) pe_int) pa_nil)) (pv 1)))))))))))
      , ?_⟩
    have hdv : ∀ x : Int, CDivW x m := fun x => wide_div m0 hm (by decide) (by decide)
    -- if hand[2] > 0
    refine ⟨_, rfl, a, _, 2, _, rfl, rfl, SqL.of hA, rfl, _, _, rfl, rfl, _, rfl, ?_⟩
    refine ite2 (fun hp => ?_) (fun _ => ?_)
    · refine ⟨_, rfl, a, _, 2, _, rfl, rfl, SqL.of hA, rfl, .inl ⟨_, rfl, ?_⟩⟩
      refine ⟨_, rfl, _, rfl, _, _, rfl, rfl, hdv _, _, rfl, a, _, 2, 2, rfl, rfl, hA, rfl, ?_⟩
      refine ⟨_, rfl, .inl ⟨_, rfl, _, rfl, _, _, rfl, rfl, m0, ?_⟩⟩
      exact k _ (r % m) (Int.emod_nonneg _ (by omega)) (Int.emod_lt_of_pos _ m0) (HandAt.put hC hca hlen i0 (by omega) (Int.ediv_nonneg r0 (by omega))) Kept.upd
    -- at = hand[1]; hand[1] = at + 1; cell = ..
    refine ⟨_, rfl, a, _, 1, _, rfl, rfl, SqL.of hA, rfl, ?_⟩
    refine ⟨_, rfl, _, _, rfl, rfl, _, rfl, a, _, 1, 1, rfl, rfl, hA, rfl, ?_⟩
    refine ⟨_, rfl, _, _, rfl, rfl, .inl ⟨by decide, by decide⟩, _, _, rfl, rfl, ?_⟩
    -- H1: the heap behind this
    obtain ⟨H1, eH1⟩ : ∃ H1, H1 = upd H a (.lst [.ref c, .int (i + 1), .int r]) := ⟨_, rfl⟩
    have kH : Kept a H H1 := by rw [eH1]; exact Kept.upd
    have hA1 : H1 a = some (.lst [.ref c, .int (i + 1), .int r]) := by rw [eH1]; exact upd_same
    have hC1 : H1 c = some (.lst (ns.map V.int)) := by rw [eH1, upd_ne hca]; exact hC
    show Evl.tCut _ _ _ _ (upd H a (.lst [.ref c, .int (i + 1), .int r]))
    rw [← eH1]
    refine ⟨fun σ' H' => Same H1 H' ∧ ∃ cell : Int, σ' = [some (.ref a), some (.int m), none, some (.int i), some (.int cell), none], ?_, ?_⟩
    · refine ⟨_, rfl, a, _, 0, _, rfl, rfl, SqL.of hA1, rfl, Nat.zero_le _, fun p hp => ?_⟩
      have hcp : c ≠ p := ne_of_none hC1 hp
      have hap : a ≠ p := ne_of_none hA1 hp
      have sm : Same H1 (upd H1 p (.lst [])) := fun b o e => by rw [upd_ne (ne_of_none e hp)]; exact e
      refine ⟨.list (ns.map PyData.int), .list [], .lst (SqL.of (sm _ _ hC1)) (dpInts ns), .lst (SqL.of upd_same) .nil, PySem.W.ke_shaped_ints ns, rfl, _, rfl, ?_⟩
      refine ite2 (fun hne => ?_) (fun _ => ?_)
      · have hn0 : 0 < ns.length := by
          cases ns with
          | nil => exact absurd hne (by decide)
          | cons x xs => exact Nat.succ_pos _
        have hl0 : (0 : Int) < (((ns.map V.int).length : Nat) : Int) := by rw [List.length_map]; omega
        have hj0 : 0 ≤ i % (((ns.map V.int).length : Nat) : Int) := Int.emod_nonneg _ (by omega)
        have hj1 : i % (((ns.map V.int).length : Nat) : Int) < (((ns.map V.int).length : Nat) : Int) := Int.emod_lt_of_pos _ hl0
        obtain ⟨j, hj⟩ : ∃ j : Nat, i % (((ns.map V.int).length : Nat) : Int) = (j : Int) := ⟨(i % (((ns.map V.int).length : Nat) : Int)).toNat, by omega⟩
        have hjl : j < ns.length := by rw [List.length_map] at hj1 hj; omega
        refine ⟨_, rfl, a, _, 0, _, rfl, rfl, SqL.of (sm _ _ hA1), rfl, _, rfl, .inl ⟨_, rfl, ?_⟩⟩
        refine ⟨_, rfl, a, _, 0, _, rfl, rfl, SqL.of (sm _ _ hA1), rfl, c, _, rfl, .inl (SqL.of (sm _ _ hC1)), _, _, rfl, rfl, hl0, c, _, _, .int ns[j], rfl, rfl, SqL.of (sm _ _ hC1), ?_, ?_⟩
        · rw [hj]
          exact atI_nat (by rw [List.getElem?_map, List.getElem?_eq_getElem hjl]; rfl)
        · exact ⟨sm, ns[j], rfl⟩
      · exact ⟨sm, _, rfl⟩
    · rintro σ' H2 ⟨sm, cell, rfl⟩
      have hA2 := sm _ _ hA1
      have hC2 := sm _ _ hC1
      have kH2 : Kept a H H2 := fun b o e q => sm b o (kH b o e q)
      -- a great cell: what is left of it
      refine ⟨fun σ' H' => σ' = [some (.ref a), some (.int m), none, some (.int i), some (.int cell), none] ∧ H' = H2, ?_, ?_⟩
      · refine ⟨_, rfl, _, rfl, a, _, 0, _, rfl, rfl, SqL.of hA2, rfl, c, _, rfl, .inl (SqL.of hC2), _, _, rfl, rfl, _, rfl, ?_⟩
        refine ite2 (fun _ => ?_) (fun _ => ?_)
        · refine ⟨_, rfl, cell, rfl, _, _, rfl, rfl, ⟨by decide, by decide, by decide⟩, _, _, rfl, rfl, _, rfl, ?_⟩
          refine ite2 (fun hge => ?_) (fun _ => ⟨rfl, rfl⟩)
          have hge' := of_decide_eq_true hge
          refine ⟨_, rfl, cell, rfl, _, _, rfl, rfl, ⟨by decide, by decide, by decide⟩, _, _, rfl, rfl, _, _, rfl, rfl, .inl ⟨by decide, by decide⟩, _, rfl, _, _, rfl, rfl, .inr ⟨_, rfl, _, _, rfl, rfl, ?_⟩⟩
          have hr2 : ∀ b : Bool, 0 ≤ 2 * ((if cell < 0 then -cell else cell) - (10 : Int) ^ Int.toNat 18) + (if b = true then 1 else 0) := by
            intro b
            have e1 : (if b = true then (1 : Int) else 0) ≥ 0 := by cases b <;> decide
            have e2 : (10 : Int) ^ Int.toNat 18 ≤ (if cell < 0 then -cell else cell) := hge'
            omega
          refine ⟨_, rfl, .inl ⟨_, rfl, _, rfl, _, _, rfl, rfl, hdv _, _, rfl, a, _, 2, 2, rfl, rfl, hA2, rfl, ?_⟩⟩
          refine ⟨_, rfl, .inl ⟨_, rfl, _, rfl, _, _, rfl, rfl, m0, ?_⟩⟩
          exact k _ _ (Int.emod_nonneg _ (by omega)) (Int.emod_lt_of_pos _ m0) (HandAt.put hC2 hca hlen (by omega) (by omega) (Int.ediv_nonneg (hr2 _) (by omega))) (kH2.trans Kept.upd)
        · exact ⟨rfl, rfl⟩
      · rintro σ' H3 ⟨rfl, rfl⟩
        have hin : i ≤ 10000 := by omega
        have b1 : 0 ≤ cell % 2147483629 := Int.emod_nonneg _ (by decide)
        have b2 : cell % 2147483629 < 2147483629 := Int.emod_lt_of_pos _ (by decide)
        refine ⟨_, rfl, .inl ⟨_, rfl, _, _, rfl, rfl, (by decide : (0 : Int) < 2147483629), _, rfl, _, _, rfl, rfl, .inl ⟨by decide, by decide⟩, _, _, rfl, rfl, _, _, rfl, rfl, _, _, rfl, rfl, ⟨by decide, by decide, ?_⟩, ?_⟩⟩
        · show (cell % 2147483629 + 33301 * i + 6011).natAbs < 2 ^ 64
          have e : (2 : Nat) ^ 64 = 18446744073709551616 := by decide
          rw [e]
          omega
        have hb : ∀ x : Int, ((x % 2147483563) * (2 * i + 1811) + 51109 * i * i + 44111).natAbs < 2 ^ 64 := by
          intro x
          have b3 : 0 ≤ x % 2147483563 := Int.emod_nonneg _ (by decide)
          have b4 : x % 2147483563 < 2147483563 := Int.emod_lt_of_pos _ (by decide)
          have e : (2 : Nat) ^ 64 = 18446744073709551616 := by decide
          have c1 : 0 ≤ (x % 2147483563) * (2 * i + 1811) := Int.mul_nonneg b3 (by omega)
          have c2 : (x % 2147483563) * (2 * i + 1811) ≤ 2147483563 * 21811 := Int.mul_le_mul (by omega) (by omega) (by omega) (by omega)
          have c3 : 0 ≤ 51109 * i * i := Int.mul_nonneg (by omega) i0
          have c4 : 51109 * i * i ≤ 511090000 * 10000 := Int.mul_le_mul (by omega) hin i0 (by omega)
          rw [e]
          omega
        have hc : ∀ x : Int, CMul (x % 2147483563) (2 * i + 1811) := by
          intro x
          have b3 : 0 ≤ x % 2147483563 := Int.emod_nonneg _ (by decide)
          have b4 : x % 2147483563 < 2147483563 := Int.emod_lt_of_pos _ (by decide)
          exact .inl ⟨by omega, by omega⟩
        refine .inl ⟨_, rfl, _, _, rfl, rfl, (by decide : (0 : Int) < 2147483563), ?_⟩
        refine ⟨_, rfl, _, rfl, _, _, rfl, rfl, .inl ⟨by decide, by decide⟩, _, _, rfl, rfl, _, _, rfl, rfl, hc _, _, rfl, _, _, rfl, rfl, .inl ⟨by decide, by decide⟩, _, rfl, _, _, rfl, rfl, .inl ⟨by omega, by omega⟩, _, _, rfl, rfl, _, _, rfl, rfl, _, _, rfl, rfl, ⟨by decide, by decide, hb _⟩, ?_⟩
        refine .inl ⟨_, rfl, _, _, rfl, rfl, (by decide : (0 : Int) < 2147483587), ?_⟩
        refine ⟨_, rfl, _, _, rfl, rfl, ⟨by decide, by decide⟩, .inl ⟨_, rfl, _, rfl, _, _, rfl, rfl, m0, ?_⟩⟩
        exact k _ _ (Int.emod_nonneg _ (by omega)) (Int.emod_lt_of_pos _ m0) ⟨ns, i + 1, r, hA2, hC2, hca, hlen, by omega, by omega, r0⟩ kH2
end
end W04
set_option Elab.async false
set_option linter.all false
set_option maxRecDepth 100000
set_option maxHeartbeats 2000000
namespace W04
open PySem L2 PySem.Spec PyProof.Rows WR WB
structure EqW (P : Program) (w : World) (K : PySem.W.Frag) (mg : Str → Option Value) (base : Heap) (C : Addr) : Prop where
  ex : ∃ (f : Addr) (fd : FuncData), FnOk P w K mg base CX0 1 f fd ["self", "other"] (spEq K C) ∧ PySem.W.findIn K (.ref C) "__eq__" = some (some (.ref f)) ∧ PySem.W.isFn K (.ref f) = true ∧ Binds K fd ["self", "other"] []
/-- two words, held against one another -/
def rEqW (K : PySem.W.Frag) (C : Addr) : R2 := fun x y H Q => ∃ (p q : Addr) (ns ms : List Int), x = .ref p ∧ y = .ref q ∧ WordAt K C H p ns ∧ WordAt K C H q ms ∧ Q (.bl (decide (ns = ms))) H
section
variable {X : Cx} {C : Addr}
theorem op_eqW (M : EqW X.prog X.w X.K X.mg X.base C) {j : Nat} (hr : Room j X.A) (hj : 1 ≤ j) : OpR X (compareOp .Eq) (rEqW X.K C) := by
  intro pins s σ H x y u v Q I rx ry d
  obtain ⟨f, fd, F, hs, hf, hb⟩ := M.ex
  obtain ⟨a, b, ns, ms, rfl, rfl, W1, W2, hq⟩ := d
  cases rx
  cases ry
  obtain ⟨dx, tl, tk, ks, ha, _⟩ := id W1
  obtain ⟨dx', tl', tk', ks', hb', _⟩ := id W2
  obtain ⟨mA, J, _⟩ := ins_get I.hok ha
  obtain ⟨mB, J', _⟩ := ins_get I.hok hb'
  obtain ⟨od, J, _⟩ := J.look
  obtain ⟨od', J', _⟩ := J'.look
  obtain ⟨m, hF⟩ := I.fr
  have rm : Room 1 X.A := hr.mono hj
  show wpAny (model X.prog X.w) X.A (richCompare .Eq (.ref a) (.ref b)) (EP X pins σ Q) X.xe s
  refine PySem.W.cmp_K (op := .Eq) (tb := .ref C) rm.units0 hF I.ok.mod.kin J J'.type (by simp [PySem.W.notFirst]) hs hf ?_
  have hsp : spEq X.K C [.ref a, .ref b] H (fun v H' => ∃ c, v = .bl c ∧ Q (.bl c) H') E0 := ⟨a, b, ns, ms, rfl, W1, W2, _, rfl, hq⟩
  have e0 : Env0 X.prog X.w X.K X.mg X.base X.A X.stack s H := I.env0
  have hl := F.len _ _ _ _ hsp
  have r2 : Vals [V.ref a, V.ref b] [Value.ref a, Value.ref b] := .cons rfl (.cons rfl .nil)
  refine wpAny_call (codeAny_mono (F.run X.A X.stack s H ⟨[.ref a, .ref b], []⟩ [.ref a, .ref b] [.ref a, .ref b] _ E0 rm e0 (by
    have := hb s [.ref a, .ref b] I.kIn (by simpa using hl)
    simpa using this) r2 hsp) fun r s' hq => ?_)
  cases r with
  | error e => exact pass0 pins σ H s e s' I hq
  | ok fl =>
    cases fl with
    | ret w =>
      obtain ⟨z, H', I', rz, c, ez, q⟩ := I.after hq
      subst ez
      cases rz
      exact ⟨.bl c, H', I', rfl, q⟩
    | next => exact False.elim hq
    | brk => exact False.elim hq
    | cont => exact False.elim hq
end
end W04
set_option Elab.async false
set_option linter.all false
set_option maxRecDepth 100000
set_option maxHeartbeats 2000000
/-! x != y, of two instances whose class has an own == and no own !=. -/
namespace NeK
open PySem PySem.Spec PyProof.Rows PySem.SeqAt
section
variable {M : Model} {prog : Program} {w : World} {A : Around} {E : Value → Shared → Prop} {s : Shared} {K : PySem.W.Frag} {x y f C : Addr} {ox oy : Obj} {od od' : Option Obj}
theorem ne_entry (hu : A.units < cLine) (X : K.In s.heap) (I : PySem.W.InstAt s.heap x ox C od) (hs : PySem.W.findIn K (.ref C) "__eq__" = some (some (.ref f))) (hf : PySem.W.isFn K (.ref f) = true) {Q : Fin → Shared → Prop}
    (hcall : wpAny (model prog w) A (call (.ref f) [.ref x, .ref y]) (fun v s' => ∃ b, v = .bool b ∧ Q (.done (.ret (.bool (!b)))) s') E s) :
    wpAny (model prog w) A (Builtin.«object.__ne__» ⟨[.ref x, .ref y], []⟩) Q E s := by
  unfold Builtin.«object.__ne__»
  repeat (first
    | with_reducible refine wpAny_cRoomFor hu ?_
    | (refine wpAny_bind (m := callSpecialIfBound? (.ref x) (Str.ofString "__eq__") [.ref y])
        (PySem.W.ifBound_K X I hs hf (wpAny_mono hcall (fun r s' hr => by
          obtain ⟨b, rfl, hq⟩ := hr
          repeat (first | exact hq | exact wpAny_pure hq | exact wpAny_truthy_bool hq | (refine wpAny_bind (m := truthy (.bool _)) (wpAny_truthy_bool ?_)) | wp_step)) fun _ _ e => e)))
    | wp_step)
theorem ifBound_ne {args : List Value} {Q : Option Value → Shared → Prop} (X : K.In s.heap) (I : PySem.W.InstAt s.heap x ox C od) (hs : PySem.W.findIn K (.ref C) "__ne__" = some (some (.builtin "object.__ne__")))
    (h : wpAny M A (call (.builtin "object.__ne__") (.ref x :: args)) (fun v => Q (some v)) E s) : wpAny M A (callSpecialIfBound? (.ref x) "__ne__" args) Q E s := by
  simp only [callSpecialIfBound?, bindSpecialIfBound?]
  refine wpAny_holding (wpAny_bind (wpAny_bind (wpAny_bind (I.type.here ((PySem.W.looks_findIn X hs).here ?_)))))
  refine wpAny_bind (wpAny_askSetting (wpAny_ite ?_))
  have fin : wpAny M A (call (.builtin "object.__ne__") ([.ref x] ++ args) >>= fun v => pure (some v)) Q E s := wpAny_bind (wpAny_mono h (fun v s' h' => wpAny_pure h') fun _ _ h' => h')
  split
  · exact wpAny_bind (wpAny_of_eq (F.cmp_object.ne.bind _) (wpAny_pure (by exact fin)))
  · exact wpAny_tryCatch (wpAny_bind (wpAny_of_eq (F.cmp_object.ne.bind _) (wpAny_pure (by exact fin))))
theorem rc_ne (hu : A.units + 1 < cLine) (X : K.In s.heap) (I : PySem.W.InstAt s.heap x ox C od) (I' : PySem.W.InstAt s.heap y oy C od') (hm : PySem.W.mroIn K C (.type "object") = some true) (hs : PySem.W.findIn K (.ref C) "__eq__" = some (some (.ref f))) (hf : PySem.W.isFn K (.ref f) = true)
    (hn : PySem.W.findIn K (.ref C) "__ne__" = some (some (.builtin "object.__ne__"))) {Q : Value → Shared → Prop}
    (hcall : wpAny (model prog w) A.in1 (call (.ref f) [.ref x, .ref y]) (fun v s' => ∃ b, v = .bool b ∧ Q (.bool (!b)) s') E s) :
    wpAny (model prog w) A (richCompare .NotEq (.ref x) (.ref y)) Q E s := by
  have one : wpAny (model prog w) A (tryCompare (.ref x) "__ne__" (.ref y)) (fun r s' => ∃ b, r = some (.bool b) ∧ Q (.bool b) s') E s := by
    unfold tryCompare
    refine wpAny_bind (ifBound_ne X I hn (wpAny_call (codeAny_call_builtin F.cmp_object.ne.plain F.cmpEntry_ne (PySem.W.check_slot F.cmpKind_ne F.cmpSplit_ne (I.type.andThen (PySem.W.looks_mroIn X hm)) (F.cmpArgs_ne _ _)
      (ne_entry (A := A.in1) hu X I hs hf (wpAny_mono hcall (fun v s' hv => ?_) fun _ _ e => e))))))
    obtain ⟨b, rfl, hq⟩ := hv
    first | exact ⟨b, rfl, wpAny_pure ⟨_, rfl, hq⟩⟩ | exact ⟨b, rfl, wpAny_pure (wpAny_pure ⟨_, rfl, hq⟩)⟩ | exact ⟨b, rfl, _, rfl, hq⟩
  unfold richCompare
  simp only [oneThing_ref]
  refine wpAny_holding (wpAny_bind (wpAny_cRoomFor (Nat.lt_of_succ_lt hu) ?_))
  rw [cmpInfo_NotEq]
  dsimp only
  refine wpAny_bind (I.type.here (wpAny_bind (I'.type.here ?_)))
  rw [show (Value.ref C != Value.ref C) = false from by simp]
  simp only [Bool.false_eq_true, if_false]
  refine wpAny_bind (wpAny_pure ?_)
  simp only [Bool.false_eq_true, if_false]
  refine wpAny_bind (wpAny_mono one (fun v s' hv => ?_) fun _ _ e => e)
  obtain ⟨b, rfl, hq⟩ := hv
  first | exact wpAny_pure hq | exact wpAny_pure (wpAny_pure hq) | exact hq
end
end NeK
namespace W04
open PySem L2 PySem.Spec PyProof.Rows WR WB
def rNeW (K : PySem.W.Frag) (C : Addr) : R2 := fun x y H Q => ∃ (p q : Addr) (ns ms : List Int), x = .ref p ∧ y = .ref q ∧ WordAt K C H p ns ∧ WordAt K C H q ms ∧ Q (.bl (!decide (ns = ms))) H
section
variable {X : Cx} {C : Addr}
theorem op_neW (M : EqW X.prog X.w X.K X.mg X.base C) (hne : PySem.W.findIn X.K (.ref C) "__ne__" = some (some (.builtin "object.__ne__"))) (hmr : PySem.W.mroIn X.K C (.type "object") = some true) {j : Nat} (hr : Room j X.A) (hj : 2 ≤ j) : OpR X (compareOp .NotEq) (rNeW X.K C) := by
  intro pins s σ H x y u v Q I rx ry d
  obtain ⟨f, fd, F, hs, hf, hb⟩ := M.ex
  obtain ⟨a, b, ns, ms, rfl, rfl, W1, W2, hq⟩ := d
  cases rx
  cases ry
  obtain ⟨dx, tl, tk, ks, ha, _⟩ := id W1
  obtain ⟨dx', tl', tk', ks', hb', _⟩ := id W2
  obtain ⟨mA, J, _⟩ := ins_get I.hok ha
  obtain ⟨mB, J', _⟩ := ins_get I.hok hb'
  obtain ⟨od, J, _⟩ := J.look
  obtain ⟨od', J', _⟩ := J'.look
  have rm2 : Room 2 X.A := hr.mono hj
  have rm : Room 1 X.A.in1 := rm2.in1
  show wpAny (model X.prog X.w) X.A (richCompare .NotEq (.ref a) (.ref b)) (EP X pins σ Q) X.xe s
  refine NeK.rc_ne (by have := rm.units0; exact this) I.kIn J J' hmr hs hf hne ?_
  have hsp : spEq X.K C [.ref a, .ref b] H (fun v H' => ∃ c, v = .bl c ∧ Q (.bl (!c)) H') E0 := ⟨a, b, ns, ms, rfl, W1, W2, _, rfl, hq⟩
  have e0 : Env0 X.prog X.w X.K X.mg X.base X.A.in1 X.stack s H := by
    have e := I.env0
    exact ⟨e.frames, e.mod, e.bs, e.bsz, e.funs, e.frf, e.hok, e.bare⟩
  have hl := F.len _ _ _ _ hsp
  have r2 : Vals [V.ref a, V.ref b] [Value.ref a, Value.ref b] := .cons rfl (.cons rfl .nil)
  refine wpAny_call (codeAny_mono (F.run X.A.in1 X.stack s H ⟨[.ref a, .ref b], []⟩ [.ref a, .ref b] [.ref a, .ref b] _ E0 rm e0 (by
    have := hb s [.ref a, .ref b] I.kIn (by simpa using hl)
    simpa using this) r2 hsp) fun r s' hq => ?_)
  cases r with
  | error e => exact pass0 pins σ H s e s' I hq
  | ok fl =>
    cases fl with
    | ret w =>
      obtain ⟨z, H', I', rz, c, ez, q⟩ := I.after hq
      subst ez
      cases rz
      exact ⟨c, rfl, .bl (!c), H', I', rfl, q⟩
    | next => exact False.elim hq
    | brk => exact False.elim hq
    | cont => exact False.elim hq
end
end W04
set_option Elab.async false
set_option linter.all false
set_option maxRecDepth 100000
set_option maxHeartbeats 2000000
namespace W04
open PySem L2 PySem.Spec PyProof.Rows WR WB
abbrev sPick : Stmt := top 39
def Drew (a c : Addr) (n : Nat) (H H' : Hp) : Prop := HandAt H' a c n ∧ Kept a H H'
theorem HandAt.mono {H : Hp} {a c : Addr} {m n : Nat} (h : HandAt H a c m) (l : m ≤ n) : HandAt H a c n := by
  obtain ⟨ns, i, r, h1, h2, h3, h4, h5, h6, h7⟩ := h
  exact ⟨ns, i, r, h1, h2, h3, h4, h5, by omega, h7⟩
theorem HandAt.off {H : Hp} {a c p : Addr} {n : Nat} {o : HO} (h : HandAt H a c n) (h1 : p ≠ a) (h2 : p ≠ c) : HandAt (L2.upd H p o) a c n := by
  obtain ⟨ns, i, r, h3, h4, h5⟩ := h
  exact ⟨ns, i, r, by rw [upd_ne h1.symm]; exact h3, by rw [upd_ne h2.symm]; exact h4, h5⟩
theorem HandAt.ne {H : Hp} {a c p : Addr} {n : Nat} (h : HandAt H a c n) (hp : H p = none) : p ≠ a := by
  obtain ⟨ns, i, r, h1, _⟩ := h
  exact (ne_of_none h1 hp).symm
theorem HandAt.neC {H : Hp} {a c p : Addr} {n : Nat} (h : HandAt H a c n) (hp : H p = none) : p ≠ c := by
  obtain ⟨ns, i, r, h1, h2, _⟩ := h
  exact (ne_of_none h2 hp).symm
theorem HandAt.new {H : Hp} {a c p : Addr} {n : Nat} {o : HO} (h : HandAt H a c n) (hp : H p = none) : HandAt (L2.upd H p o) a c n := h.off (h.ne hp) (h.neC hp)
theorem Drew.refl {a c : Addr} {n : Nat} {H : Hp} (h : HandAt H a c n) : Drew a c n H H := ⟨h, Kept.refl⟩
theorem Drew.trans {a c : Addr} {m n : Nat} {H H1 H2 : Hp} (h1 : Drew a c m H H1) (h2 : Drew a c n H1 H2) : Drew a c n H H2 := ⟨h2.1, h1.2.trans h2.2⟩
theorem Drew.new {a c p : Addr} {n : Nat} {H H1 : Hp} {o : HO} (h : Drew a c n H H1) (hp : H1 p = none) : Drew a c n H (L2.upd H1 p o) := ⟨h.1.new hp, h.2.new hp⟩
theorem Drew.mono {a c : Addr} {m n : Nat} {H H1 : Hp} (h : Drew a c m H H1) (l : m ≤ n) : Drew a c n H H1 := ⟨h.1.mono l, h.2⟩
/-- an object that was not there at first may change -/
theorem Drew.put {a c p : Addr} {n : Nat} {H H1 : Hp} {o : HO} (h : Drew a c n H H1) (h0 : H p = none) (h1 : p ≠ a) (h2 : p ≠ c) : Drew a c n H (L2.upd H1 p o) :=
  ⟨h.1.off h1 h2, fun b u nb e => by rw [upd_ne (ne_of_none e h0)]; exact h.2 b u nb e⟩
theorem Drew.back {a c p : Addr} {n : Nat} {H H1 : Hp} (h : Drew a c n H H1) (hp : H1 p = none) : H p = none := by
  cases e : H p with
  | none => rfl
  | some o =>
    have q := h.2 p o (h.1.ne hp) e
    rw [hp] at q
    cases q
theorem HandAt.same {H H' : Hp} {a c : Addr} {n : Nat} (h : HandAt H a c n) (s : Same H H') : HandAt H' a c n := by
  obtain ⟨ns, i, r, h1, h2, h3⟩ := h
  exact ⟨ns, i, r, s _ _ h1, s _ _ h2, h3⟩
theorem Drew.same {a c : Addr} {n : Nat} {H H1 H2 : Hp} (h : Drew a c n H H1) (s : Same H1 H2) : Drew a c n H H2 := ⟨h.1.same s, fun b o nb e => s b o (h.2 b o nb e)⟩
/-- a new list of these ints -/
def NewL (H : Hp) (Q : VK) (ns : List Int) : Prop := ∀ p H', H p = none → Same H H' → H' p = some (.lst (iv ns)) → Q (.ref p) H'
def spPick : Sp := fun vs H Q _ => ∃ (a c p : Addr) (xs : List V) (n : Nat), vs = [.ref a, .ref p] ∧ HandAt H a c n ∧ n ≤ 10000 ∧ p ≠ a ∧ H p = some (.lst xs) ∧ 0 < xs.length ∧ xs.length ≤ 1000 ∧ ∀ v ∈ xs, ∀ H', Drew a c (n + 1) H H' → Q v H'
structure TxN (mg : Str → Option Value) : Prop where
  range : mg "range" = none
  list : mg "list" = none
theorem Drew.ofNew {a c p : Addr} {n : Nat} {H H' : Hp} (d : Drew a c n H H') (h0 : HandAt H a c n) {o : HO} (hp : H p = some o) (hn : p ≠ a) : H' p = some o := d.2 _ _ hn hp
section
variable {P : Program} {w : World} {K : PySem.W.Frag} {mg : Str → Option Value} {base : Heap}
theorem scPick : FnScope ["_law_jar_here", "_law_some"] ["_law_jar_here", "_law_some"] (defScope sPick) := ⟨rfl, rfl, rfl, by decide +kernel, rfl, by decide +kernel, by decide +kernel⟩
theorem ok_pick {f : Addr} {fd : FuncData} (F : Fun K "_law_pick" "_law_pick" sPick f fd) (GT : Cal P w K mg base "_law_draw" 1 ["_law_jar_here", "_law_many"] spTake) (T : TxL mg) : FnOk P w K mg base CX0 2 f fd ["_law_jar_here", "_law_some"] spPick := by
  refine F.ok scPick (fun vs H Q E h => ?_) (fun cdv A outer s H vs Q E hr h => ?_)
  · obtain ⟨a, c, p, xs, n, rfl, _⟩ := h
    rfl
  · obtain ⟨a, c, p, xs, n, rfl, hH, hn, hpa, hp, h0, h1, k⟩ := h
    refine ⟨_, pss_one (ps_ret (pe_ix ix_list (pv 1) (pe_cal GT hr (by decide) (by rfl) (pa_cons (pv 0) (pa_cons (pe_callB call_len_seq (by rfl) T.len PySem.boot_len (pa_cons (pv 1) pa_nil)) pa_nil))) (fun _ _ => rfl))), ?_⟩
    refine ⟨_, rfl, _, rfl, _, rfl, p, _, rfl, .inl (SqL.of hp), a, c, _, n, rfl, hH, hn, by omega, ?_, ?_⟩
    · have : (((xs.length : Nat) : Int)).natAbs ≤ 1000 := by omega
      exact Nat.lt_of_le_of_lt this (by decide)
    · intro H' q q0 q1 hH' hK
      obtain ⟨j, rfl⟩ : ∃ j : Nat, q = (j : Int) := ⟨q.toNat, by omega⟩
      have hj : j < xs.length := by omega
      refine ⟨p, xs, _, xs[j], rfl, rfl, SqL.of (hK _ _ hpa hp), atI_nat (List.getElem?_eq_getElem hj), ?_⟩
      exact k _ (List.getElem_mem hj) H' ⟨hH', hK⟩
theorem int_eq {x y : Int} : decide (V.int x = V.int y) = decide (x = y) := by
  rw [Bool.eq_iff_iff, decide_eq_true_iff, decide_eq_true_iff]
  exact ⟨fun e => by injection e, fun e => by rw [e]⟩
end
end W04
set_option Elab.async false
set_option linter.all false
set_option maxRecDepth 100000
set_option maxHeartbeats 2000000
/-! C.m(..), m a staticmethod of the class C. -/
namespace MStat
open PySem L2 PySem.Spec PyProof.Rows
/-- m is a staticmethod of C: its record at p, its def at g -/
structure SMet (K : PySem.W.Frag) (C : Addr) (mc : Value) (m : Str) (p g : Addr) : Prop where
  rd : PySem.W.readsIn K C mc = true
  ga : PySem.W.specialIn K (.ref C) "__getattribute__" = some (some (.builtin "type.__getattribute__"))
  at_ : PySem.W.findCls K (.ref C) mc m = some (.get (.builtin "staticmethod.__get__") (.ref p) .none (.ref C))
  rc : ∃ rest, PySem.W.recIn K p "staticmethod" = some (.ref g :: rest)
  kp : PySem.W.keepIn K (.ref g) = true
section
variable {X : Cx} {pins : List (Addr × Obj)} {σ : L2.St} {H : Hp} {s : Shared} {C p g : Addr} {mc : Value} {m : Str} {A : Around} {E : Value → Shared → Prop}
theorem getsm_ok {pl : Sem Bool} {Q : Value × List Value → Shared → Prop} (I : Inv X pins σ H s) (k : SMet X.K C mc m p g) (h : ∀ s', Inv X pins σ H s' → Q (.ref g, []) s') : wpAny (model X.prog X.w) A (getMethod (.ref C) m pl) Q E s := by
  obtain ⟨rest, hp⟩ := k.rc
  refine PySem.W.method_cls I.kIn k.ga (PySem.W.cls_bind I.kIn k.rd k.at_ ?_)
  refine wpAny_call (PySem.W.sm_get (s := { s with toks := s.toks + 1 }) I.kIn hp (PySem.W.handed_on rfl ?_))
  exact h _ (I.tok _)
end
/-- C.m(..) by place -/
def tSMeth (C : Addr) (sp : Sp) (ta : TE) (t : TA) : TE := fun σ H Q => ta σ H fun x H1 => x = .ref C ∧ t σ H1 fun vs H2 => sp vs H2 Q E0
/-- C.m(..) by keywords alone -/
def tSMethK (C : Addr) (sp : Sp) (gV : List V → List V) (n : Nat) (ta : TE) (tk : TA) : TE := fun σ H Q => ta σ H fun x H1 => x = .ref C ∧ tk σ H1 fun zs H2 => zs.length = n ∧ sp (gV zs) H2 Q E0
section
variable {X : Cx} {k j : Nat} {C : Addr} {sp : Sp} {ps ks : List Str} {gV : List V → List V} {o e : Expr} {es : List Expr} {m : Str} {pos apos : Pos} {ta : TE} {t tk : TA} {kws : List Keyword} {pl : Sem Bool} {fd : FuncData} {p g : Addr} {mc : Value}
theorem pe_smeth (he : PE X o ta) (c : SMet X.K C mc m p g) (F : FnOk X.prog X.w X.K X.mg X.base CX0 k g fd ps sp) (hr : Room k X.A) (hb : Binds X.K fd ps []) (ha : PA X (e :: es) t)
    (hst : starEach (e :: es) X.env = (false, eval e X.env) :: starEach es X.env := by rfl) (hpl : (backTo pos (starEach es X.env)).any (·.1) = false := by rfl)
    (ht : eval (.Call (.Attribute o m apos) (e :: es) [] pos) X.env = (do
      let ov ← eval o X.env
      standAt apos.atName
      let (f, first) ← holding [ov] (getMethod ov m pl)
      callWith pos f first (backTo pos (starEach (e :: es) X.env)) (backToKw pos (keywordEach [] X.env))) := by rfl) :
    PE X (.Call (.Attribute o m apos) (e :: es) [] pos) (tSMeth C sp ta t) := by
  refine ⟨fun pins s σ H Q I h => ?_⟩
  refine PySem.W.methodCall_KW (pl := pl) (thn (he.run pins s σ H _ I h) fun u s1 ⟨x, H1, I1, rx, ex, q⟩ => ?_) ht
  subst ex
  obtain rfl : u = Value.ref C := rx
  refine getsm_ok I1 c fun s2 I2 => ?_
  refine PySem.W.callWith_K (first := []) (h₀ := X.base) I2.ok.mod.kin c.kp (thn (ha.run pos pins s2 σ H1 _ I2 q) fun us s3 ⟨vs, H2, I3, rv, q2⟩ => ⟨I3.kIn, ?_⟩) hst hpl
  exact run_fn (us := us) (vs := vs) (dvs := []) (ds := []) F hr hb .nil pass0 I3 rv (by simpa using q2)
theorem pe_smethK (he : PE X o ta) (c : SMet X.K C mc m p g) {gg : List Value → List Value} (F : FnOk X.prog X.w X.K X.mg X.base CX0 k g fd ps sp) (hr : Room k X.A) (hb : KBn X.K fd ps 0 ks (fun _ ws => gg ws) (fun _ zs => gV zs)) (hkw : PK X kws tk)
    (hall : (backToKw pos (keywordEach kws X.env)).all (·.1.isSome) = true := by rfl) (hks : (backToKw pos (keywordEach kws X.env)).filterMap (·.1) = ks := by rfl)
    (hpl : ((backTo pos (starEach [] X.env)).any (·.1) || (backToKw pos (keywordEach kws X.env)).any (·.1.isNone)) = false := by rfl)
    (ht : eval (.Call (.Attribute o m apos) [] kws pos) X.env = (do
      let ov ← eval o X.env
      standAt apos.atName
      let (f, first) ← holding [ov] (getMethod ov m pl)
      callWith pos f first (backTo pos (starEach [] X.env)) (backToKw pos (keywordEach kws X.env))) := by rfl) :
    PE X (.Call (.Attribute o m apos) [] kws pos) (tSMethK C sp gV ks.length ta tk) := by
  refine ⟨fun pins s σ H Q I h => ?_⟩
  refine PySem.W.methodCall_KW (pl := pl) (thn (he.run pins s σ H _ I h) fun u s1 ⟨x, H1, I1, rx, ex, q⟩ => ?_) ht
  subst ex
  obtain rfl : u = Value.ref C := rx
  refine getsm_ok I1 c fun s2 I2 => ?_
  refine PySem.W.callWith_KW0 (first := []) (h₀ := X.base) I2.ok.mod.kin c.kp hall ?_ hpl
  refine thn (hkw.run pos pins s2 σ H1 _ I2 q) fun ws s3 ⟨zs, H2, I3, rz, lz, q2⟩ => ⟨I3.kIn, ?_⟩
  rw [hks]
  have r2 := hb.rel (vs := []) (us := []) .nil rz
  have hl : ws.length = ks.length := by rw [← rz.length, lz]
  refine wpAny_call (codeAny_mono (F.run X.A X.stack s3 H2 ⟨[], ks.zip ws⟩ (gg ws) (gV zs) Q E0 hr I3.env0 (hb.to s3 [] ws I3.kIn rfl hl) r2 q2) fun r s' hq => ?_)
  cases r with
  | error e => exact pass0 pins σ H2 s3 e s' I3 hq
  | ok fl =>
    cases fl with
    | ret u => exact I3.after hq
    | next => exact False.elim hq
    | brk => exact False.elim hq
    | cont => exact False.elim hq
end
end MStat
set_option Elab.async false
set_option linter.all false
set_option maxRecDepth 100000
set_option maxHeartbeats 2000000
/-! str(x), len(x), x an instance of an own class with an own __str__, __len__. -/
namespace MStr
open PySem L2 PySem.Spec PyProof.Rows
/-- a def of the class C under a special name, with its promise -/
structure Spe (P : Program) (w : World) (K : PySem.W.Frag) (mg : Str → Option Value) (base : Heap) (C : Addr) (m : Str) (k : Nat) (sp : Sp) : Prop where
  ex : ∃ (f : Addr) (fd : FuncData), FnOk P w K mg base CX0 k f fd ["self"] sp ∧ PySem.W.findIn K (.ref C) m = some (some (.ref f)) ∧ PySem.W.isFn K (.ref f) = true ∧ Binds K fd ["self"] []
def rStrO (C : Addr) (sp : Sp) : List V → Hp → VK → Prop := fun xs H Q => ∃ (p dx : Addr) (fs : List (Str × V)), xs = [.ref p] ∧ H p = some (.ins C dx fs) ∧ sp [.ref p] H (fun v H' => ∃ z : Str, v = .str z ∧ Q v H') E0
def rLenO (C : Addr) (sp : Sp) : List V → Hp → VK → Prop := fun xs H Q => ∃ (p dx : Addr) (fs : List (Str × V)), xs = [.ref p] ∧ H p = some (.ins C dx fs) ∧ sp [.ref p] H (fun v H' => ∃ n : Nat, v = .int (n : Int) ∧ n ≤ 100000 ∧ Q v H') E0
section
variable {X : Cx} {C : Addr} {k j : Nat} {sp : Sp}
theorem call_strO (M : Spe X.prog X.w X.K X.mg X.base C "__str__" k sp) (hr : Room j X.A) (hj : k + 2 ≤ j) : CallR X (.type "str") (rStrO C sp) := by
  intro pins s σ H vs us Q I r h
  obtain ⟨f, fd, F, hs, hf, hb⟩ := M.ex
  obtain ⟨p, dx, fs, rfl, hp, hsp⟩ := h
  obtain ⟨mA, J, _⟩ := ins_get I.hok hp
  obtain ⟨od, J, _⟩ := J.look
  rw [Vals.ref1 r]
  have rm2 : Room (k + 2) X.A := hr.mono hj
  have rm : Room k X.A.in1.in1 := rm2.in1.in1
  refine PySem.W.kso_call (by have := (rm2.mono (show 2 ≤ k + 2 by omega)).in1.in1.units0; exact this) I.kIn J hs hf ?_
  have e0 : Env0 X.prog X.w X.K X.mg X.base X.A.in1.in1 X.stack s H := by
    have e := I.env0
    exact ⟨e.frames, e.mod, e.bs, e.bsz, e.funs, e.frf, e.hok, e.bare⟩
  have hl := F.len _ _ _ _ hsp
  have r2 : Vals [V.ref p] [Value.ref p] := .cons rfl .nil
  refine wpAny_call (codeAny_mono (F.run X.A.in1.in1 X.stack s H ⟨[.ref p], []⟩ [.ref p] [.ref p] _ E0 rm e0 (by
    have := hb s [.ref p] I.kIn (by simpa using hl)
    simpa using this) r2 hsp) fun r s' hq => ?_)
  cases r with
  | error e => exact pass0 pins σ H s e s' I hq
  | ok fl =>
    cases fl with
    | ret w =>
      obtain ⟨z, H', I', rz, c, ez, q⟩ := I.after hq
      subst ez
      obtain ⟨t, rfl⟩ := rz
      exact ⟨.str c, H', I', ⟨t, rfl⟩, q⟩
    | next => exact False.elim hq
    | brk => exact False.elim hq
    | cont => exact False.elim hq
theorem call_lenO (M : Spe X.prog X.w X.K X.mg X.base C "__len__" k sp) (hr : Room j X.A) (hj : k + 1 ≤ j) : CallR X (.builtin "len") (rLenO C sp) := by
  intro pins s σ H vs us Q I r h
  obtain ⟨f, fd, F, hs, hf, hb⟩ := M.ex
  obtain ⟨p, dx, fs, rfl, hp, hsp⟩ := h
  obtain ⟨mA, J, _⟩ := ins_get I.hok hp
  obtain ⟨od, J, _⟩ := J.look
  obtain ⟨m, hF⟩ := I.fr
  rw [Vals.ref1 r]
  have rm : Room k X.A.in1 := (hr.mono hj).in1
  refine PySem.W.len_K hF I.ok.mod.kin J hs hf ?_
  have e0 : Env0 X.prog X.w X.K X.mg X.base X.A.in1 X.stack s H := by
    have e := I.env0
    exact ⟨e.frames, e.mod, e.bs, e.bsz, e.funs, e.frf, e.hok, e.bare⟩
  have hl := F.len _ _ _ _ hsp
  have r2 : Vals [V.ref p] [Value.ref p] := .cons rfl .nil
  refine wpAny_call (codeAny_mono (F.run X.A.in1 X.stack s H ⟨[.ref p], []⟩ [.ref p] [.ref p] _ E0 rm e0 (by
    have := hb s [.ref p] I.kIn (by simpa using hl)
    simpa using this) r2 hsp) fun r s' hq => ?_)
  cases r with
  | error e => exact pass0 pins σ H s e s' I hq
  | ok fl =>
    cases fl with
    | ret w =>
      obtain ⟨z, H', I', rz, c, ez, hc, q⟩ := I.after hq
      subst ez
      obtain ⟨t, rfl⟩ := rz
      exact ⟨⟨by omega, by omega⟩, .int (c : Int), H', I'.tok _, ⟨_, rfl⟩, q⟩
    | next => exact False.elim hq
    | brk => exact False.elim hq
    | cont => exact False.elim hq
end
end MStr
set_option Elab.async false
set_option linter.all false
set_option maxRecDepth 100000
set_option maxHeartbeats 2000000
/-! A text parted at a sign, and put together again. -/
namespace MText
open PySem PySem.StrLaws Builtin Builtin.Str
/-- the parts of a row between the signs c -/
def parts (c : Nat) : List Nat → List (List Nat)
  | [] => [[]]
  | h :: t => if h = c then [] :: parts c t else match parts c t with
    | p :: r => (h :: p) :: r
    | [] => [[h]]
/-- rows put behind one another, c between -/
def glue (c : Nat) : List (List Nat) → List Nat
  | [] => []
  | [a] => a
  | a :: b :: r => a ++ c :: glue c (b :: r)
theorem parts_ne (c : Nat) (xs : List Nat) : ∃ p r, parts c xs = p :: r := by
  cases xs with
  | nil => exact ⟨_, _, rfl⟩
  | cons h t =>
    unfold parts
    split
    · exact ⟨_, _, rfl⟩
    · split <;> exact ⟨_, _, rfl⟩
theorem parts_app {c : Nat} : ∀ {a xs : List Nat} {p : List Nat} {r : List (List Nat)}, (∀ z ∈ a, z ≠ c) → parts c xs = p :: r → parts c (a ++ xs) = (a ++ p) :: r
  | [], xs, p, r, _, h => h
  | z :: a, xs, p, r, ha, h => by
    have ih := parts_app (a := a) (fun y hy => ha y (List.mem_cons_of_mem _ hy)) h
    show parts c (z :: (a ++ xs)) = _
    unfold parts
    rw [if_neg (ha z List.mem_cons_self), ih]
    rfl
theorem parts_glue {c : Nat} : ∀ {ps : List (List Nat)}, ps ≠ [] → (∀ p ∈ ps, ∀ z ∈ p, z ≠ c) → parts c (glue c ps) = ps
  | [], h, _ => absurd rfl h
  | [a], _, ha => by
    have := parts_app (c := c) (a := a) (xs := []) (p := []) (r := []) (ha a List.mem_cons_self) rfl
    simpa [glue] using this
  | a :: b :: r, _, ha => by
    have ih := parts_glue (ps := b :: r) (by simp) (fun p hp => ha p (List.mem_cons_of_mem _ hp))
    show parts c (a ++ c :: glue c (b :: r)) = _
    have h2 : parts c (c :: glue c (b :: r)) = [] :: b :: r := by
      unfold parts
      rw [if_pos rfl, ih]
    have := parts_app (ha a List.mem_cons_self) h2
    rw [List.append_nil] at this
    exact this
/-- the places of c -/
def places (x : Str) (c a n : Nat) : List Nat := (List.range' a n).filter fun i => decide (x.cps.toList[i]? = some c)
theorem occ_run (x : Str) (c limit : Nat) : ∀ (n a : Nat) (st : Array Nat × Nat), st.2 ≤ a → st.1.size ≤ a → a + n ≤ limit →
    (forIn (List.range' a n) st (occBody x ⟨#[c]⟩ x.length limit)).run.fst.toList = st.1.toList ++ places x c a n
  | 0, a, st, _, _, _ => by
    unfold places
    simp
  | n + 1, a, st, h1, h2, h3 => by
    rw [List.range'_succ, List.forIn_cons]
    have e := subAt_one x c a
    unfold places
    rw [List.range'_succ, List.filter_cons]
    by_cases hc : x.cps.toList[a]? = some c
    · have hc' := e.mpr hc
      have eb : occBody x ⟨#[c]⟩ x.length limit a st = pure (ForInStep.yield (st.1.push a, a + (⟨#[c]⟩ : Str).length)) := by
        unfold occBody
        rw [if_pos ⟨⟨⟨by omega, h1⟩, hc'.1⟩, hc'.2⟩]
      rw [eb, if_pos (by simpa using hc)]
      have ih := occ_run x c limit n (a + 1) (st.1.push a, a + (⟨#[c]⟩ : Str).length) (by show a + 1 ≤ a + 1; omega) (by show (st.1.push a).size ≤ a + 1; rw [Array.size_push]; omega) (by omega)
      unfold places at ih
      refine Eq.trans ih ?_
      simp
    · have hc' : ¬ (a + (⟨#[c]⟩ : Str).length ≤ x.length ∧ subAt x ⟨#[c]⟩ a = true) := fun z => hc (e.mp z)
      have eb : occBody x ⟨#[c]⟩ x.length limit a st = pure (ForInStep.yield (st.1, st.2)) := by
        unfold occBody
        rw [if_neg (fun z => hc' ⟨z.1.2, z.2⟩)]
      rw [eb, if_neg (by simpa using hc)]
      have ih := occ_run x c limit n (a + 1) (st.1, st.2) (by show st.2 ≤ a + 1; omega) (by show st.1.size ≤ a + 1; omega) (by omega)
      unfold places at ih
      exact ih
theorem len_eq (x : Str) : x.cps.toList.length = x.length := by simp [Str.length]
theorem places_last (x : Str) (c a n : Nat) (h : x.length ≤ a) : places x c a n = [] := by
  unfold places
  rw [List.filter_eq_nil_iff]
  intro i hi
  have := (List.mem_range'_1.mp hi).1
  rw [List.getElem?_eq_none (by rw [len_eq]; omega)]
  simp
theorem occ_all (x : Str) (c : Nat) : occurrences x ⟨#[c]⟩ 0 x.length (x.length + 1) = places x c 0 x.length := by
  rw [occ_eq, Nat.sub_zero, occ_run x c (x.length + 1) (x.length + 1) 0 (#[], 0) (Nat.le_refl _) (Nat.le_refl _) (by omega)]
  -- the last place is behind the text
  have h2 : places x c 0 (x.length + 1) = places x c 0 x.length := by
    unfold places
    rw [List.range'_concat, List.filter_append]
    have := places_last x c (0 + 1 * x.length) 1 (by omega)
    unfold places at this
    rw [show List.range' (0 + 1 * x.length) 1 = [0 + 1 * x.length] from rfl] at this
    rw [this, List.append_nil]
  rw [h2]
  rfl
theorem sub_step (x : Str) {a b : Nat} (h : a < b) (hb : b ≤ x.length) (z : Nat) (hz : x.cps.toList[a]? = some z) : (strSub x a b).cps.toList = z :: (strSub x (a + 1) b).cps.toList := by
  rw [strSub_toList, strSub_toList]
  have hlt := (List.getElem?_eq_some_iff.mp hz).1
  have hv := (List.getElem?_eq_some_iff.mp hz).2
  rw [List.drop_eq_getElem_cons hlt, hv]
  have : b - a = (b - (a + 1)) + 1 := by omega
  rw [this, List.take_succ_cons]
theorem parts_from (x : Str) (c : Nat) : ∀ (n a : Nat), a + n = x.length → (partsFrom x 1 a (places x c a n)).map (·.cps.toList) = parts c (x.cps.toList.drop a)
  | 0, a, h => by
    have e1 : places x c a 0 = [] := rfl
    have e2 : x.cps.toList.drop a = [] := List.drop_eq_nil_of_le (by rw [len_eq]; omega)
    rw [e1, e2]
    show [(strSub x a x.length).cps.toList] = [[]]
    rw [strSub_toList, e2]
    simp
  | n + 1, a, h => by
    have hlt : a < x.cps.toList.length := by rw [len_eq]; omega
    have ih := parts_from x c n (a + 1) (by omega)
    rw [List.drop_eq_getElem_cons hlt]
    have ea : x.cps.toList[a]? = some x.cps.toList[a] := List.getElem?_eq_getElem hlt
    have ep : places x c a (n + 1) = if x.cps.toList[a] = c then a :: places x c (a + 1) n else places x c (a + 1) n := by
      unfold places
      rw [List.range'_succ, List.filter_cons, ea]
      by_cases hc : x.cps.toList[a] = c
      · rw [if_pos hc, if_pos (by simpa using hc)]
      · rw [if_neg hc, if_neg (by simpa using hc)]
    unfold parts
    rw [ep]
    by_cases hc : x.cps.toList[a] = c
    · rw [if_pos hc, if_pos hc]
      show (strSub x a a).cps.toList :: (partsFrom x 1 (a + 1) (places x c (a + 1) n)).map (·.cps.toList) = _
      rw [ih, strSub_toList]
      simp
    · rw [if_neg hc, if_neg hc, ← ih]
      cases hq : places x c (a + 1) n with
      | nil =>
        show [(strSub x a x.length).cps.toList] = _
        rw [sub_step x (by omega) (Nat.le_refl _) _ ea]
        rfl
      | cons k r =>
        have hk : k ∈ places x c (a + 1) n := by rw [hq]; exact List.mem_cons_self
        have hk2 := List.mem_range'_1.mp (List.mem_filter.mp hk).1
        show (strSub x a k).cps.toList :: (partsFrom x 1 (k + 1) r).map (·.cps.toList) = _
        rw [sub_step x (by omega) (by omega) _ ea]
        rfl
theorem kind_pos (x : Str) : 1 ≤ Str.strKind x := by
  unfold Str.strKind
  split
  · omega
  · split <;> omega
/-- x.split(c), c one sign of a byte -/
theorem split_parts (x : Str) {c : Nat} (hc : c < 256) : (Txt.split x ⟨#[c]⟩).map (·.cps.toList) = parts c x.cps.toList := by
  have hp := parts_from x c x.length 0 (by omega)
  rw [List.drop_zero] at hp
  have hk : Str.strKind ⟨#[c]⟩ = 1 := by
    unfold Str.strKind
    rw [if_pos (by simpa using hc)]
  have whole : ∀ h : places x c 0 x.length = [], [x.cps.toList] = parts c x.cps.toList := by
    intro h
    rw [← hp, h]
    show [x.cps.toList] = [(strSub x 0 x.length).cps.toList]
    rw [sub_whole]
  unfold Txt.split
  by_cases h0 : x.length < 1
  · have e0 : places x c 0 x.length = [] := by
      have : x.length = 0 := by omega
      rw [this]
      rfl
    rw [if_pos (by
      have : decide (x.length < (⟨#[c]⟩ : Str).length) = true := decide_eq_true h0
      rw [this]
      rfl)]
    exact whole e0
  · rw [if_neg (by
      have e1 : decide (x.length < (⟨#[c]⟩ : Str).length) = false := decide_eq_false h0
      have e2 : decide (Str.strKind x < Str.strKind ⟨#[c]⟩) = false := decide_eq_false (by rw [hk]; have := kind_pos x; omega)
      rw [e1, e2]
      decide)]
    rw [occ_all]
    split
    · rename_i he
      exact whole (List.isEmpty_iff.mp he)
    · rw [partsBetween_eq]
      exact hp
/-- c.join(xs) -/
theorem join_glue (c : Nat) : ∀ xs : List Str, (Txt.join ⟨#[c]⟩ xs).cps.toList = glue c (xs.map (·.cps.toList)) := by
  intro xs
  show (glued ⟨#[c]⟩ xs).cps.toList = _
  rw [glued_eq_join]
  induction xs with
  | nil => rfl
  | cons a r ih =>
    cases r with
    | nil => rfl
    | cons b r =>
      show (a ++ ⟨#[c]⟩ ++ Str.join ⟨#[c]⟩ (b :: r)).cps.toList = a.cps.toList ++ c :: glue c ((b :: r).map (·.cps.toList))
      rw [Str.cps_append, Str.cps_append, Array.toList_append, Array.toList_append, ih]
      simp
theorem str_eq {a b : Str} (h : a.cps.toList = b.cps.toList) : a = b := Str.ext' (Array.toList_inj.mp h)
theorem split_join {c : Nat} (hc : c < 256) {xs : List Str} (h0 : xs ≠ []) (h : ∀ x ∈ xs, ∀ z ∈ x.cps.toList, z ≠ c) : Txt.split (Txt.join ⟨#[c]⟩ xs) ⟨#[c]⟩ = xs := by
  have e := split_parts (Txt.join ⟨#[c]⟩ xs) hc
  rw [join_glue, parts_glue (by simpa using h0) (by
    intro p hp
    obtain ⟨x, hx, rfl⟩ := List.mem_map.mp hp
    exact h x hx)] at e
  have inj : ∀ (u v : List Str), u.map (·.cps.toList) = v.map (·.cps.toList) → u = v := by
    intro u
    induction u with
    | nil =>
      intro v h
      cases v with
      | nil => rfl
      | cons b v => simp at h
    | cons a u ih =>
      intro v h
      cases v with
      | nil => simp at h
      | cons b v =>
        simp only [List.map_cons, List.cons.injEq] at h
        rw [str_eq h.1, ih v h.2]
  exact inj _ _ e
end MText
set_option Elab.async false
set_option linter.all false
set_option maxRecDepth 100000
set_option maxHeartbeats 4000000
namespace W04
open PySem L2 PySem.Spec PyProof.Rows WR
abbrev sLText : Stmt := top 27
abbrev sLOf : Stmt := top 28
abbrev sItems : Stmt := top 29
abbrev alphS : Str := "abcdefghijklmnopqrstuvwxyz"
/-- a letter's item -/
def itm (i : Int) : Str := if 0 < i then ⟨#[96 + i.natAbs]⟩ else ⟨#[96 + i.natAbs, 39]⟩
theorem alph_at : ∀ n, n < 26 → alphS.cps.toList[n]? = some (97 + n) := by decide +kernel
theorem alph_find : ∀ n, n < 26 → Txt.find alphS ⟨#[97 + n]⟩ = (n : Int) := by decide +kernel
theorem alph_len : alphS.length ≤ sizeLine := by decide +kernel
theorem itm_len (i : Int) : (itm i).length ≤ 2 := by
  unfold itm
  split
  · show 1 ≤ 2
    decide
  · show 2 ≤ 2
    decide
theorem itm_ne (i : Int) : ∀ z ∈ (itm i).cps.toList, i.natAbs ≤ 26 → 1 ≤ i.natAbs → z ≠ 32 := by
  intro z hz h1 h2
  unfold itm at hz
  split at hz
  · simp at hz; omega
  · simp at hz; omega
theorem space_eq : (Str.ofString " ") = ⟨#[32]⟩ := by decide +kernel
theorem dash_eq : (Str.ofString "-") = ⟨#[45]⟩ := by decide +kernel
theorem tick_eq : (Str.ofString "'") = ⟨#[39]⟩ := by decide +kernel
/-- the text of a word -/
def txt (ns : List Int) : Str := if ns = [] then ⟨#[45]⟩ else Txt.join ⟨#[32]⟩ (ns.map itm)
theorem txt_split {ns : List Int} (h : Lts ns) : Txt.split (txt ns) ⟨#[32]⟩ = if ns = [] then [⟨#[45]⟩] else ns.map itm := by
  unfold txt
  by_cases h0 : ns = []
  · rw [if_pos h0, if_pos h0]
    decide +kernel
  · rw [if_neg h0, if_neg h0]
    refine MText.split_join (by decide) (by simpa using h0) fun x hx z hz => ?_
    obtain ⟨i, hi, rfl⟩ := List.mem_map.mp hx
    exact itm_ne i z hz (h i hi).2 (h i hi).1
def spLText : Sp := fun vs H Q _ => ∃ i : Int, vs = [.int i] ∧ 1 ≤ i.natAbs ∧ i.natAbs ≤ 26 ∧ Q (.str (itm i)) H
def spLOf : Sp := fun vs H Q _ => ∃ i : Int, vs = [.str (itm i)] ∧ 1 ≤ i.natAbs ∧ i.natAbs ≤ 26 ∧ Q (.int i) H
def spItems : Sp := fun vs H Q _ => ∃ ns : List Int, vs = [.str (txt ns)] ∧ Lts ns ∧ ns.length ≤ 500 ∧ ∀ p H', H p = none → Same H H' → H' p = some (.lst ((if ns = [] then [⟨#[45]⟩] else ns.map itm).map V.str)) → Q (.ref p) H'
theorem txt_len {ns : List Int} : (txt ns).length ≤ 3 * ns.length + 1 := by
  unfold txt
  split
  · show 1 ≤ _
    omega
  · show (Builtin.Str.glued ⟨#[32]⟩ (ns.map itm)).length ≤ _
    rw [StrLaws.glued_eq_join]
    refine Nat.le_trans (StrLaws.join_length_le _ _) ?_
    rw [List.length_map]
    have h1 : ((ns.map itm).map (·.length)).sum ≤ 2 * ns.length := by
      induction ns with
      | nil => simp
      | cons a t ih =>
        by_cases ht : t = []
        · subst ht
          have := itm_len a
          simp
          omega
        · have := ih ht
          have := itm_len a
          simp only [List.map_cons, List.sum_cons, List.length_cons]
          omega
    have : (⟨#[32]⟩ : Str).length = 1 := rfl
    rw [this]
    omega
section
variable {P : Program} {w : World} {K : PySem.W.Frag} {mg : Str → Option Value} {base : Heap}
theorem scLText : FnScope ["letter", "sign"] ["letter"] (defScope sLText) := ⟨rfl, rfl, rfl, by decide +kernel, rfl, by decide +kernel, by decide +kernel⟩
theorem ok_lText {f : Addr} {fd : FuncData} (F : Fun K "letter_text" "letter_text" sLText f fd) (hA : ∃ t, mg "ALPHABET" = some (.str alphS t)) (habs : mg "abs" = none) : FnOk P w K mg base CX0 1 f fd ["letter"] spLText := by
  refine F.ok scLText (fun vs H Q E h => ?_) (fun cdv A outer s H vs Q E hr h => ?_)
  · obtain ⟨i, rfl, _⟩ := h
    rfl
  · obtain ⟨i, rfl, i1, i26, k⟩ := h
    obtain ⟨tA, mA⟩ := hA
    refine ⟨_, pss_cons (ps_set (i := 1) scLText.nd rfl (Or.inl rfl) (pe_ix ix_str (pe_glob (v := .str alphS) (by rfl) mA ⟨_, rfl⟩) (pe_op op_sub (pe_callB call_abs (by rfl) habs (by decide +kernel) (pa_cons (pv 0) pa_nil)) pe_int) (fun _ _ => rfl)))
      (pss_one (ps_ret (pe_ifExp (pt_cmpR op_gt (pv 0) pe_int (nomark _)) (pv 1) (pe_op op_add_str (pv 1) pe_str)))), ?_⟩
    have e1 : (if i < 0 then -i else i) - 1 = ((i.natAbs - 1 : Nat) : Int) := by split <;> omega
    have e2 : 97 + (i.natAbs - 1) = 96 + i.natAbs := by omega
    refine ⟨_, rfl, i, rfl, _, _, rfl, rfl, _, _, 96 + i.natAbs, rfl, rfl, alph_len, (by rw [e1]; exact atI_nat (by rw [alph_at _ (by omega), e2])), ?_⟩
    refine ⟨_, rfl, _, _, rfl, rfl, _, rfl, ?_⟩
    refine ite2 (fun hp => ?_) (fun hp => ?_)
    · have h0 : 0 < i := by have := of_decide_eq_true hp; omega
      refine ⟨_, rfl, ?_⟩
      have : itm i = ⟨#[96 + i.natAbs]⟩ := by unfold itm; rw [if_pos h0]
      rw [this] at k
      exact k
    · have h0 : ¬ 0 < i := fun z => hp (decide_eq_true (by omega))
      refine ⟨_, rfl, _, _, rfl, rfl, (by show 2 ≤ sizeLine; decide), ?_⟩
      have : itm i = (⟨#[96 + i.natAbs]⟩ : Str) ++ Str.ofString "'" := by
        unfold itm
        rw [if_neg h0, tick_eq]
        rfl
      rw [this] at k
      exact k
theorem scLOf : FnScope ["item", "kind"] ["item"] (defScope sLOf) := ⟨rfl, rfl, rfl, by decide +kernel, rfl, by decide +kernel, by decide +kernel⟩
theorem ok_lOf {f : Addr} {fd : FuncData} (F : Fun K "letter_of" "letter_of" sLOf f fd) (hA : ∃ t, mg "ALPHABET" = some (.str alphS t)) (hlen : mg "len" = none) : FnOk P w K mg base CX0 1 f fd ["item"] spLOf := by
  refine F.ok scLOf (fun vs H Q E h => ?_) (fun cdv A outer s H vs Q E hr h => ?_)
  · obtain ⟨i, rfl, _⟩ := h
    rfl
  · obtain ⟨i, rfl, i1, i26, k⟩ := h
    obtain ⟨tA, mA⟩ := hA
    refine ⟨_, pss_cons (ps_set (i := 1) scLOf.nd rfl (Or.inl rfl) (pe_op op_add (pe_m1 PySem.F.slot_str_find PySem.F.type_str_find mt_find (pe_glob (v := .str alphS) (by rfl) mA ⟨_, rfl⟩) (pe_slice sl_str (pv 0) po_none (po_some pe_int))) pe_int))
      (pss_cons (ps_if (PW.pt (pw_or (pt_cmpR op_eq (pv 0) pe_str (nomark _)) (pw_or1 (pt_cmpR op_eq (pv 1) pe_int (nomark _))))) (pss_one (ps_ret pe_non)) pss_nil)
      (pss_cons (ps_if (pt_cmpR op_eq (pe_callB call_len_str (by rfl) hlen PySem.boot_len (pa_cons (pv 0) pa_nil)) pe_int (nomark _)) (pss_one (ps_ret (pv 1))) pss_nil)
      (pss_one (ps_ret (pe_ifExp (pt_cmpR op_eq (pe_slice sl_str (pv 0) (po_some pe_int) po_none) pe_str (nomark _)) (pe_un un_neg (pv 1)) pe_non))))), ?_⟩
    have hsz : (itm i).length ≤ sizeLine := Nat.le_trans (itm_len i) (by decide)
    have c1 : cutS (itm i) none (some 1) = ⟨#[96 + i.natAbs]⟩ := by
      unfold itm
      split <;> rfl
    have f1 : Txt.find alphS ⟨#[96 + i.natAbs]⟩ = ((i.natAbs - 1 : Nat) : Int) := by
      have := alph_find (i.natAbs - 1) (by omega)
      have e : 97 + (i.natAbs - 1) = 96 + i.natAbs := by omega
      rw [e] at this
      exact this
    refine ⟨⟨_, rfl⟩, _, rfl, _, rfl, _, rfl, hsz, _, _, rfl, rfl, ?_⟩
    rw [c1, f1]
    have ek : ((i.natAbs - 1 : Nat) : Int) + 1 = (i.natAbs : Int) := by omega
    refine ⟨_, _, rfl, rfl, _, rfl, rfl, _, rfl, ?_⟩
    refine iteF' (decide_eq_false fun z => ?_) ?_
    · have z2 : itm i = Str.ofString "" := by injection z
      have z3 := congrArg Str.length z2
      unfold itm at z3
      split at z3
      · exact absurd z3 (by show ¬ (1 = 0); decide)
      · exact absurd z3 (by show ¬ (2 = 0); decide)
    refine ⟨_, rfl, rfl, _, rfl, ?_⟩
    refine iteF' (decide_eq_false fun z => ?_) ?_
    · have z2 : ((i.natAbs - 1 : Nat) : Int) + 1 = 0 := by injection z
      omega
    refine ⟨_, rfl, _, rfl, hsz, rfl, _, rfl, ?_⟩
    by_cases h0 : 0 < i
    · have e : itm i = ⟨#[96 + i.natAbs]⟩ := by unfold itm; rw [if_pos h0]
      refine iteT' (decide_eq_true (by rw [e]; rfl)) ?_
      refine ⟨_, rfl, ?_⟩
      have e2 : ((i.natAbs - 1 : Nat) : Int) + 1 = i := by omega
      have k2 := k
      rw [← e2] at k2
      exact k2
    · have e : itm i = ⟨#[96 + i.natAbs, 39]⟩ := by unfold itm; rw [if_neg h0]
      refine iteF' (decide_eq_false fun z => ?_) ?_
      · rw [e] at z
        exact absurd z (by show ¬ (V.int 2 = V.int 1); intro q; injection q with q; omega)
      have c2 : cutS (itm i) (some 1) none = Str.ofString "'" := by rw [e, tick_eq]; rfl
      refine ⟨_, rfl, _, rfl, _, rfl, hsz, rfl, _, rfl, ?_⟩
      rw [c2]
      refine iteT' (decide_eq_true rfl) ?_
      refine ⟨_, rfl, _, rfl, ?_⟩
      have e2 : -(((i.natAbs - 1 : Nat) : Int) + 1) = i := by omega
      have k2 := k
      rw [← e2] at k2
      exact k2
theorem scItems : FnScope ["text"] ["text"] (defScope sItems) := ⟨rfl, rfl, rfl, by decide +kernel, rfl, by decide +kernel, by decide +kernel⟩
theorem ok_items {f : Addr} {fd : FuncData} (F : Fun K "items_of" "items_of" sItems f fd) (T : TxI mg) : FnOk P w K mg base CX0 1 f fd ["text"] spItems := by
  refine F.ok scItems (fun vs H Q E h => ?_) (fun cdv A outer s H vs Q E hr h => ?_)
  · obtain ⟨ns, rfl, _⟩ := h
    rfl
  · obtain ⟨ns, rfl, hl, hn, k⟩ := h
    refine ⟨_, pss_cons (ps_if (pt_not (pt_val (pe_callB call_isi (by rfl) T.isin (by decide +kernel) (pa_cons (pv 0) (pa_cons (pe_bltn (v := .ty "str") (by rfl) T.str (by decide +kernel) rfl) pa_nil))))) (pss_one ps_never) pss_nil)
      (pss_one (ps_ret (pe_split (pv 0) pe_str))), ?_⟩
    refine ⟨_, rfl, V.str (txt ns), _, _, _, _, rfl, .ty _, (Typ.str (H := H) (txt ns)).ty, (Typ.str (H := H) (txt ns)).kStr, _, rfl, ?_⟩
    refine iteF ?_
    have hs : (txt ns).length + 2 ≤ sizeLine := by
      have := txt_len (ns := ns)
      exact Nat.le_trans (show (txt ns).length + 2 ≤ 1600 by omega) (by decide)
    refine ⟨_, rfl, ⟨_, rfl⟩, _, _, rfl, rfl, (by decide +kernel), hs, fun p hp => ?_⟩
    rw [space_eq, txt_split hl]
    exact k p _ hp (same_upd hp) upd_same
end
end W04
set_option Elab.async false
set_option linter.all false
set_option maxRecDepth 100000
set_option maxHeartbeats 1000000
/-! repr of data, by defs that are called where no repr is under way. -/
namespace RG
open PySem L2 PySem.Spec PyProof.Rows
/-- a def's promise where no repr is under way -/
structure FnG (P : Program) (w : World) (K : PySem.W.Frag) (mg : Str → Option Value) (base : Heap) (k : Nat) (f : Addr) (fd : FuncData) (ps : List Str) (sp : Sp) : Prop where
  many : ∀ zs G R S, sp zs G R S → zs.length = ps.length
  does : ∀ (B : Around) (fr : List Env) (t : Shared) (G : Hp) (as : Args) (us : List Value) (zs : List V) (R : VK) (S : XK), B.guards = some [] → Room k B → Env0 P w K mg base B fr t G → BindsTo t fd as (ps.zip us) → Vals zs us → sp zs G R S →
    codeAny (model P w) B (.call (.ref f) as) (CR CX0 fr P w G t R S) t
theorem FnG.mono {P : Program} {w : World} {K : PySem.W.Frag} {mg : Str → Option Value} {base : Heap} {j k : Nat} {f : Addr} {fd : FuncData} {ps : List Str} {sp : Sp} (F : FnG P w K mg base j f fd ps sp) (h : j ≤ k) : FnG P w K mg base k f fd ps sp :=
  ⟨F.many, fun B fr t G as us zs R S g room => F.does B fr t G as us zs R S g (room.mono h)⟩
/-- what is left behind a body -/
theorem left_ok {X : Cx} {σ : L2.St} {G G' : Hp} {t t' : Shared} {R : VK} {v : V} {u : Value} (hb : X.s_0 = t) (J : Inv X [] σ G' t') (un : Un (frs X.stack) [] G G' t.heap t'.heap) (os : t'.os = t.os) (r : RelV v u) (q : R v G') : CE X.stack X.prog X.w G t R u t' :=
  ⟨v, G', os, J.bare, un, J.hok, r, q⟩
theorem fnG_of {P : Program} {w : World} {K : PySem.W.Frag} {mg : Str → Option Value} {base : Heap} {k : Nat} {f : Addr} {nm qual : Str} {params : Arguments} {body : List Stmt} {scope : Scope} {dV kV doc pm cdv ct oc : Value} {an od : Option Addr} {osl : Array (Option Value)} {N ps : List Str} {sp : Sp}
    (lk : K.lookup f = some ⟨oc, od, .func (PySem.W.fnOf nm qual params body scope dV kV doc pm an cdv ct), osl⟩) (cd : PySem.W.codeIn K cdv qual = true) (S : FnScope N ps scope) (many : ∀ zs G R E, sp zs G R E → zs.length = ps.length)
    (B0 : ∀ (B : Around) (fr : List Env) (t : Shared) (G : Hp) (zs : List V) (R : VK) (E : XK), B.guards = some [] → Room k (B.deeper (envOfC qual scope t.heap.objs.size f cdv)) → sp zs G R E →
      ∃ tb, PSs (cxOf CX0 P w K mg base N qual scope f cdv B fr t G E) body tb ∧ tb { nx := fun _ G' => R .non G', rt := R } (L2.start N zs) G) :
    FnG P w K mg base (k + 1) f (PySem.W.fnOf nm qual params body scope dV kV doc pm an cdv ct) ps sp where
  many := many
  does := by
    intro B fr t G as us zs R E hg room e0 bind rel asked
    have n1 := many _ _ _ _ asked
    have old : ∀ b o, base.get? b = some o → t.heap.get? b = some o := fun b o e => (e0.bs b o e).1
    have KX := e0.mod.kin.keeps old
    have names : ∀ y ∈ ps.zip us, scope.names.lookup y.1 = some .local ∨ (scope.names.lookup y.1 = some .cell ∧ ((cellsFrom (t.heap.objs.size + 1) scope.names []).lookup y.1).isSome = true) := by
      rintro ⟨a, b⟩ hy
      exact (S.par a (List.of_mem_zip hy).1).imp id fun c => ⟨c, PySem.W.cellsFrom_some _ _ _ (Or.inl c)⟩
    refine codeAny_call_function room.depth (KX _ _ lk) rfl S.co S.gen rfl (PySem.W.codeRec_of KX cd) (bind _ _ _ _ (wpAny_newFunctionEnv_cells S.kind names fun env he t1 x => ?_))
    subst he
    refine ⟨(e0.mod.nolimit.keeps old).keeps x.toInCall.keep, codeAny_func ?_⟩
    obtain ⟨tb, run, read⟩ := B0 B fr t G zs R E hg (room.deeper _) asked
    have I0 := inv_start (CX := CX0) (P := P) (w := w) (E := E) S room.hd e0 n1 rel x
    refine wpAny_mono (run.run [] t1 _ G _ I0 read) ?_ fun _ _ z => z
    intro fl t2 z
    cases fl with
    | next =>
      obtain ⟨τ, G2, J, q⟩ := z
      exact ⟨.non, G2, J.os, J.bare, J.base, J.hok, rfl, q⟩
    | ret u =>
      obtain ⟨v, τ, G2, J, rv, q⟩ := z
      exact ⟨v, G2, J.os, J.bare, J.base, J.hok, rv, q⟩
    | brk => exact z.elim fun _ z => z.elim fun _ z => False.elim z.2
    | cont => exact z.elim fun _ z => z.elim fun _ z => False.elim z.2
theorem Fun.okG {P : Program} {w : World} {K : PySem.W.Frag} {mg : Str → Option Value} {base : Heap} {x qual : Str} {st : Stmt} {f : Addr} {fd : FuncData} {N ps : List Str} {k : Nat} {sp : Sp} (F : L2.Fun K x qual st f fd) (S : FnScope N ps (defScope st)) (many : ∀ zs G R E, sp zs G R E → zs.length = ps.length)
    (B0 : ∀ (cdv : Value) (B : Around) (fr : List Env) (t : Shared) (G : Hp) (zs : List V) (R : VK) (E : XK), B.guards = some [] → Room k (B.deeper (envOfC qual (defScope st) t.heap.objs.size f cdv)) → sp zs G R E →
      ∃ tb, PSs (cxOf CX0 P w K mg base N qual (defScope st) f cdv B fr t G E).nox (defBody st) tb ∧ tb { nx := fun _ G' => R .non G', rt := R } (L2.start N zs) G) : FnG P w K mg base (k + 1) f fd ps sp := by
  obtain ⟨oc, od, kV, doc, pm, an, cdv, ct, osl, rfl, lk, cd⟩ := F.ex
  refine fnG_of lk cd S many fun B fr t G zs R E hg room asked => ?_
  obtain ⟨tb, run, read⟩ := B0 cdv B fr t G zs R E hg room asked
  exact ⟨tb, run.nox, read⟩
/-- a def that the module's name x holds -/
structure CalG (P : Program) (w : World) (K : PySem.W.Frag) (mg : Str → Option Value) (base : Heap) (x : Str) (k : Nat) (ps : List Str) (sp : Sp) : Prop where
  ex : ∃ (f : Addr) (fd : FuncData), FnG P w K mg base k f fd ps sp ∧ mg x = some (.ref f) ∧ PySem.W.keepIn K (.ref f) = true ∧ Binds K fd ps []
section
variable {X : Cx} {x : Str} {k j : Nat} {ps : List Str} {sp : Sp} {p pos : Pos} {e : Expr} {es : List Expr} {ta : TA}
theorem pe_calG (C : CalG X.prog X.w X.K X.mg X.base x k ps sp) (hg : X.A.guards = some []) (room : Room j X.A) (hkj : k ≤ j) (gl : Gl X x) (ha : PA X (e :: es) ta) (hdb : (x == ("__debug__" : Str)) = false := by decide)
    (h1 : starEach (e :: es) X.env = (false, eval e X.env) :: starEach es X.env := by rfl) (h2 : (backTo pos (starEach es X.env)).any (·.1) = false := by rfl) : PE X (.Call (.Name x p) (e :: es) [] pos) (tCall sp [] E0 ta) := by
  obtain ⟨f, fd, F, at_, kp, bn⟩ := C.ex
  constructor
  intro pins s σ H Q I ask
  refine wpAny_Call_Name_kw (ld_glob I gl at_ (PySem.W.callWith_K (h₀ := X.base) I.mod.kin kp (thn (ha.run pos pins s σ H _ I ask) fun us s1 z => ?_) h1 h2) hdb)
  obtain ⟨zs, H1, I1, rel, q⟩ := z
  have q : sp (zs ++ []) H1 Q E0 := q
  rw [List.append_nil] at q
  have lu : us.length = ps.length := by rw [← rel.length]; exact F.many _ _ _ _ q
  have bd := bn s1 us I1.kIn (by rw [List.append_nil]; exact lu)
  rw [List.append_nil] at bd
  refine ⟨I1.kIn, wpAny_call (codeAny_mono ((F.mono hkj).does X.A X.stack s1 H1 ⟨us, []⟩ us zs Q E0 hg room I1.env0 bd rel q) ?_)⟩
  intro r s2 hq
  match r, hq with
  | .ok (.ret u), hq => exact I1.after hq
/-- repr of data -/
def rRepr (K : PySem.W.Frag) : List V → Hp → VK → Prop := fun xs H Q => ∃ (a : Addr) (d : PyData), xs = [.ref a] ∧ Dp K H (.ref a) d ∧ d.showable = true ∧ d.hasDict = false ∧ d.depth ≤ 30 ∧ d.shown.length ≤ sizeLine ∧ Q (.str d.shown) H
theorem call_repr (hg : X.A.guards = some []) (hu : X.A.units + 40 < cLine) : CallR X (.builtin "repr") (rRepr X.K) := by
  intro pins s σ H xs us Q I rel ask
  obtain ⟨a, d, rfl, hd, hs, hn, hdep, hz, q⟩ := ask
  obtain ⟨u, rfl, ru⟩ := vals1 rel
  cases ru
  obtain ⟨as, rd⟩ := Dp.reads I d _ _ hd rfl
  exact repr_of_reads' rd hs (fun z => by rw [hn] at z; cases z) hg (by omega) (fun _ _ e => e) (fun h' u tk hk => ⟨.str _, H, I.kept hk, ⟨u, rfl⟩, q⟩) hz
end
end RG
set_option Elab.async false
set_option linter.all false
set_option maxRecDepth 100000
set_option maxHeartbeats 1000000
/-! the law's own call: no repr is under way. -/
namespace RG
open PySem L2 PySem.Spec PyProof.Rows
section
variable {P : Program} {w : World} {K : PySem.W.Frag} {s : Shared} {a : Addr} {vs : List Value} {ns : List Int}
/-- the list that the script is -/
def scriptO (vs : List Value) : Obj := { cls := .type "list", data := .seq vs.toArray }
/-- the script is told, if the module has it not -/
def startH (K : PySem.W.Frag) (a : Addr) (vs : List Value) (ns : List Int) : Hp := fun b => if b = a ∧ K.lookup a = none then some (.frz (scriptO vs) (.lst (ns.map V.int))) else none
theorem startH_some {b : Addr} {u : HO} (h : startH K a vs ns b = some u) : b = a ∧ K.lookup a = none ∧ u = .frz (scriptO vs) (.lst (ns.map V.int)) := by
  unfold startH at h
  split at h
  · rename_i c
    exact ⟨c.1, c.2, (Option.some.inj h).symm⟩
  · cases h
theorem startH_only : Only (startH K a vs ns) := fun b => by
  cases e : startH K a vs ns b with
  | none => exact .inl rfl
  | some u => exact .inr ⟨_, _, congrArg some (startH_some e).2.2⟩
theorem startH_seq (KX : K.In s.heap) (at_ : s.heap.get? a = some (scriptO vs)) (whole : IntsAre vs ns) (few : ns.length ≤ sizeLine) : SqL K (startH K a vs ns) a (ns.map V.int) := by
  cases hk : K.lookup a with
  | none => exact Or.inl (Or.inr ⟨scriptO vs, if_pos ⟨rfl, hk⟩⟩)
  | some o =>
    have same : o = scriptO vs := Option.some.inj ((KX a o hk).symm.trans at_)
    subst same
    exact Or.inr ⟨_, vs.toArray, _, hk, rfl, rfl, rfl, by rw [List.size_toArray, whole.length]; exact few, by simpa using vals_ints whole⟩
theorem startH_ok (at_ : s.heap.get? a = some (scriptO vs)) (whole : IntsAre vs ns) (few : ns.length ≤ sizeLine) : HOk P w (startH K a vs ns) s.heap := fun b u h => by
  obtain ⟨rfl, _, rfl⟩ := startH_some h
  exact ⟨at_, (by rw [List.length_map]; exact few), vs, _, vals_ints whole, at_⟩
/-- a namespace is no list -/
theorem startH_ns (at_ : s.heap.get? a = some (scriptO vs)) {b : Addr} {m : Str → Option Value} (h : s.heap.Ns b m) : (hidT s.heap (startH K a vs ns)).Ns b m := by
  obtain ⟨o, es, ep, get, data, rest⟩ := h
  refine ⟨o, es, ep, hidT_get get ?_, data, rest⟩
  cases e : startH K a vs ns b with
  | none => rfl
  | some u =>
    obtain ⟨rfl, _⟩ := startH_some e
    have eo : o = scriptO vs := Option.some.inj (get.symm.trans at_)
    rw [eo] at data
    exact nomatch (show Data.seq vs.toArray _ = Data.dict es ep from data)
theorem startH_in (KX : K.In s.heap) : K.In (hidT s.heap (startH K a vs ns)) := fun b o e => by
  refine hidT_get (KX b o e) ?_
  cases q : startH K a vs ns b with
  | none => rfl
  | some u =>
    obtain ⟨rfl, none_, _⟩ := startH_some q
    rw [none_] at e
    cases e
theorem law_callG {mg mb : Str → Option Value} {k : Nat} {fa : Addr} {fd : FuncData} {x : Str} {sp : Sp} (KX : K.In s.heap) (top : s.heap.Ns mainGlobals mg) (bi : s.heap.Ns builtinsNs mb) (bib : ∀ x : Str, x ≠ "__name__" → mb x = bootBuiltins x) (lim : s.heap.NoLimit) (gens : s.gens = #[])
    (at_ : s.heap.get? a = some (scriptO vs)) (whole : IntsAre vs ns) (few : ns.length ≤ sizeLine) (room : Room k callerA) (F : ∀ base : Heap, K.In base → base.Ns mainGlobals mg → FnG P w K mg base k fa fd [x] sp)
    (bind : ∀ (s : Shared) (u : Value), BindsTo s fd ⟨[u], []⟩ [(x, u)]) (ask : ∀ H : Hp, Only H → SqL K H a (ns.map V.int) → sp [.ref a] H (fun v _ => v = .bl true) E0) :
    codeAny (model P w) callerA (.call (.ref fa) ⟨[.ref a], []⟩) (fun r s' => r = .ok (.ret (.bool true)) ∧ OldK s.heap s'.heap ∧ s'.os = s.os ∧ AllBare s'.gens) s := by
  have kin := startH_in (a := a) (vs := vs) (ns := ns) KX
  have top' := startH_ns (K := K) (ns := ns) at_ top
  obtain ⟨mc, l1, l2⟩ := lim
  have env : Env0 P w K mg (hidT s.heap (startH K a vs ns)) callerA [] s (startH K a vs ns) :=
    { frames := rfl, mod := ⟨kin, top', ⟨mb, startH_ns at_ bi, bib⟩, ⟨mc, startH_ns at_ l1, l2⟩⟩, bs := fun _ _ => of_hidT, bsz := Nat.le_of_eq (hidT_size _ _), funs := trivial, frf := (fun b hb => nomatch (show b ∈ ([] : List Addr) from hb)), hok := startH_ok at_ whole few, bare := AllBare.of_eq gens }
  refine codeAny_mono ((F _ kin top').does callerA [] s _ ⟨[.ref a], []⟩ [.ref a] [.ref a] _ _ rfl room env (bind s (.ref a)) (.cons rfl .nil) (ask _ startH_only (startH_seq KX at_ whole few))) ?_
  intro r t z
  match r, z with
  | .ok (.ret u), ⟨v, G, os, bare, un, ok', rel, (q : v = .bl true)⟩ =>
    subst q
    obtain rfl : u = Value.bool true := rel
    refine ⟨rfl, OldK.of_keep fun b o get => ?_, os, bare⟩
    cases c : startH K a vs ns b with
    | none => exact un.keep b o get c (fun m => nomatch (show b ∈ ([] : List Addr) from m)) (fun m => nomatch m)
    | some u =>
      obtain ⟨rfl, _, rfl⟩ := startH_some c
      have eo : o = scriptO vs := Option.some.inj (get.symm.trans at_)
      rw [eo]
      exact (ok' b _ (un.frzs b _ _ c)).1
end
theorem walkG {l : PySem.W.OpenLaw} {n k : Nat} {q : Program} {loose : List Str} {XP : (Str → Option Value) → Heap → Prop} {YP : World → Heap → Prop} {d : DefRec} {K : Params → PySem.W.Frag} {sp : PySem.W.Frag → Sp} {x : Str} (hn : l.most = some n) (hz : n ≤ sizeLine) (hdf : d.params.defaults = []) (room : Room k callerA) (hY : ∀ (w : World) (h : Heap), YP w h → (K w.params).In h)
    (F : ∀ (w : World) (mg : Str → Option Value) (fa : Addr) (h : Heap), (K w.params).In h → h.Ns mainGlobals mg → mg d.name = some (.ref fa) →
      ∃ fd : FuncData, (∀ (s : Shared) (u : Value), BindsTo s fd ⟨[u], []⟩ [(x, u)]) ∧ ∀ base : Heap, (K w.params).In base → base.Ns mainGlobals mg → FnG l.prog w (K w.params) mg base k fa fd [x] (sp (K w.params)))
    (ask : ∀ (w : World) (H : Hp) (a : Addr) (ns : List Int), ns.length ≤ n → Only H → SqL (K w.params) H a (ns.map V.int) → sp (K w.params) [.ref a] H (fun v _ => v = .bl true) E0) : PySem.W.WalkO q loose XP YP l.row.toRowW d [] (fun f vs => PySem.call f vs) := by
  refine Att.attach_call hn hdf ?_
  intro w s0 s mg mb fa o pm cd doc a vs ns G Y _ _ _ hm at_ whole few gens
  have KX := hY w _ Y
  obtain ⟨fd, bind, B⟩ := F w mg fa _ KX G.T.g hm
  exact law_callG KX G.T.g G.T.b G.T.builtins G.T.nolimit gens at_ whole (Nat.le_trans few hz) room B bind fun H o z => ask w H a ns few o z
end RG
set_option linter.all false
/-! The least turned form of a row, by two places that race. -/
namespace Lt
/-- the row from place p on, read round, is less than that from place q on -/
def Ls (f : Nat → Int) (n p q : Nat) : Prop := ∃ k, k < n ∧ (∀ t, t < k → f (p + t) = f (q + t)) ∧ f (p + k) < f (q + k)
theorem Ls.irr {f n p} : ¬ Ls f n p p := by
  rintro ⟨k, _, _, h⟩
  omega
theorem Ls.trans {f : Nat → Int} {n p q r : Nat} (h1 : Ls f n p q) (h2 : Ls f n q r) : Ls f n p r := by
  obtain ⟨k, hk, e1, l1⟩ := h1
  obtain ⟨m, hm, e2, l2⟩ := h2
  by_cases h : k < m
  · exact ⟨k, hk, fun t ht => (e1 t ht).trans (e2 t (by omega)), by rw [← e2 k h]; exact l1⟩
  · by_cases h' : m < k
    · exact ⟨m, hm, fun t ht => (e1 t (by omega)).trans (e2 t ht), by rw [e1 m h']; exact l2⟩
    · have : k = m := by omega
      subst this
      exact ⟨k, hk, fun t ht => (e1 t ht).trans (e2 t ht), by omega⟩
theorem Ls.total (f : Nat → Int) (n p q : Nat) : Ls f n p q ∨ Ls f n q p ∨ ∀ t, t < n → f (p + t) = f (q + t) := by
  induction n with
  | zero => exact .inr (.inr fun t ht => by omega)
  | succ n ih =>
    rcases ih with ⟨k, hk, e, l⟩ | ⟨k, hk, e, l⟩ | e
    · exact .inl ⟨k, by omega, e, l⟩
    · exact .inr (.inl ⟨k, by omega, e, l⟩)
    · by_cases h : f (p + n) < f (q + n)
      · exact .inl ⟨n, by omega, e, h⟩
      · by_cases h' : f (q + n) < f (p + n)
        · exact .inr (.inl ⟨n, by omega, fun t ht => (e t ht).symm, h'⟩)
        · refine .inr (.inr fun t ht => ?_)
          by_cases htn : t < n
          · exact e t htn
          · have : t = n := by omega
            subst this
            omega
theorem ex_min (f : Nat → Int) (n : Nat) : ∀ m, 0 < m → ∃ p, p < m ∧ ∀ q, q < m → ¬ Ls f n q p := by
  intro m
  induction m with
  | zero => intro h; omega
  | succ m ih =>
    intro _
    by_cases h0 : m = 0
    · subst h0
      exact ⟨0, by omega, fun q hq => by have : q = 0 := by omega
                                         subst this; exact Ls.irr⟩
    · obtain ⟨p, hp, hm⟩ := ih (by omega)
      by_cases h : Ls f n m p
      · refine ⟨m, by omega, fun q hq hl => ?_⟩
        by_cases hqm : q = m
        · subst hqm; exact Ls.irr hl
        · exact hm q (by omega) (hl.trans h)
      · refine ⟨p, by omega, fun q hq => ?_⟩
        by_cases hqm : q = m
        · subst hqm; exact h
        · exact hm q (by omega)
/-- the least place whose reading is least -/
theorem ex_first (f : Nat → Int) (n m : Nat) (h : 0 < m) : ∃ p, p < m ∧ (∀ q, q < m → ¬ Ls f n q p) ∧ ∀ q, q < p → ∃ r, r < m ∧ Ls f n r q := by
  obtain ⟨p0, hp0, hm0⟩ := ex_min f n m h
  have key : ∀ k p, p ≤ k → p < m → (∀ q, q < m → ¬ Ls f n q p) → ∃ p, p < m ∧ (∀ q, q < m → ¬ Ls f n q p) ∧ ∀ q, q < p → ∃ r, r < m ∧ Ls f n r q := by
    intro k
    induction k with
    | zero => intro p hk hp hm; exact ⟨p, hp, hm, fun q hq => by omega⟩
    | succ k ih =>
      intro p hk hp hm
      by_cases hx : ∀ q, q < p → ∃ r, r < m ∧ Ls f n r q
      · exact ⟨p, hp, hm, hx⟩
      · have ⟨q, hq⟩ := Classical.not_forall.mp hx
        have ⟨hqp, hn⟩ := Classical.not_imp.mp hq
        refine ih q (by omega) (by omega) fun r hr hl => hn ⟨r, hr, hl⟩
  exact key p0 p0 (Nat.le_refl _) hp0 hm0
/-- what is left out can't be least -/
def Out (f : Nat → Int) (n p : Nat) : Prop := ∃ q, Ls f n q p
structure Race (f : Nat → Int) (n one other alike : Nat) : Prop where
  a : ∀ p, p < one → Out f n p
  b : ∀ p, p < other → p ≠ one → Out f n p
  ne : one ≠ other
  al : alike ≤ n
  e : ∀ t, t < alike → f (one + t) = f (other + t)
theorem Race.start (f : Nat → Int) (n : Nat) : Race f n 0 1 0 := ⟨fun p h => by omega, fun p h h' => by omega, by omega, Nat.zero_le _, fun t h => by omega⟩
theorem Race.more {f n one other alike} (R : Race f n one other alike) (h : alike < n) (e : f (one + alike) = f (other + alike)) : Race f n one other (alike + 1) :=
  ⟨R.a, R.b, R.ne, h, fun t ht => by
    by_cases h' : t < alike
    · exact R.e t h'
    · have : t = alike := by omega
      subst this; exact e⟩
theorem out_run {f : Nat → Int} {n p q alike t : Nat} (h : alike < n) (e : ∀ t, t < alike → f (p + t) = f (q + t)) (l : f (q + alike) < f (p + alike)) (ht : t ≤ alike) : Out f n (p + t) := by
  refine ⟨q + t, alike - t, by omega, fun s hs => ?_, ?_⟩
  · have := e (t + s) (by omega)
    rw [Nat.add_assoc, Nat.add_assoc]
    exact this.symm
  · have e1 : q + t + (alike - t) = q + alike := by omega
    have e2 : p + t + (alike - t) = p + alike := by omega
    rw [e1, e2]
    exact l
theorem Race.one {f n one other alike} (R : Race f n one other alike) (h : alike < n) (l : f (other + alike) < f (one + alike)) :
    Race f n (one + (alike + 1)) (if one + (alike + 1) = other then other + 1 else other) 0 := by
  have A : ∀ p, p < one + (alike + 1) → Out f n p := by
    intro p hp
    by_cases h' : p < one
    · exact R.a p h'
    · obtain ⟨t, rfl⟩ : ∃ t, p = one + t := ⟨p - one, by omega⟩
      exact out_run h R.e l (by omega)
  refine ⟨A, fun p hp hn => ?_, ?_, Nat.zero_le _, fun t ht => by omega⟩
  · by_cases hp1 : p < one + (alike + 1)
    · exact A p hp1
    · split at hp
      · omega
      · by_cases hpo : p = one
        · omega
        · exact R.b p hp hpo
  · split <;> omega
theorem Race.other {f n one other alike} (R : Race f n one other alike) (h : alike < n) (l : f (one + alike) < f (other + alike)) :
    Race f n one (if one = other + (alike + 1) then other + (alike + 1) + 1 else other + (alike + 1)) 0 := by
  have B : ∀ p, p < other + (alike + 1) → p ≠ one → Out f n p := by
    intro p hp hn
    by_cases h' : p < other
    · exact R.b p h' hn
    · obtain ⟨t, rfl⟩ : ∃ t, p = other + t := ⟨p - other, by omega⟩
      exact out_run h (fun t ht => (R.e t ht).symm) l (by omega)
  refine ⟨R.a, fun p hp hn => ?_, ?_, Nat.zero_le _, fun t ht => by omega⟩
  · split at hp
    · exact B p (by omega) hn
    · exact B p hp hn
  · split <;> omega
/-- round: f comes back after n -/
theorem per_mod {f : Nat → Int} {n : Nat} (hf : ∀ s, f (s + n) = f s) (s : Nat) : f (s % n) = f s := by
  have : ∀ k s, f (s + n * k) = f s := by
    intro k
    induction k with
    | zero => intro s; rfl
    | succ k ih => intro s; rw [Nat.mul_succ, ← Nat.add_assoc, hf, ih]
  have h := this (s / n) (s % n)
  rw [Nat.mod_add_div] at h
  exact h.symm
theorem out_in {f : Nat → Int} {n p : Nat} (hf : ∀ s, f (s + n) = f s) (h0 : 0 < n) (h : Out f n p) : ∃ q, q < n ∧ Ls f n q p := by
  obtain ⟨q, k, hk, e, l⟩ := h
  refine ⟨q % n, Nat.mod_lt _ h0, k, hk, fun t ht => ?_, ?_⟩
  · rw [← e t ht, ← per_mod hf (q % n + t), ← per_mod hf (q + t), Nat.mod_add_mod]
  · rw [← per_mod hf (q % n + k), Nat.mod_add_mod, per_mod hf]
    exact l
/-- what comes of the race: the place reads least -/
theorem Race.fin {f : Nat → Int} {n one other alike : Nat} (R : Race f n one other alike) (hf : ∀ s, f (s + n) = f s) (h0 : 0 < n) (hend : ¬ (one < n ∧ other < n ∧ alike < n)) :
    min one other < n ∧ ∀ q, q < n → ¬ Ls f n q (min one other) := by
  obtain ⟨p, hp, hm, hfirst⟩ := ex_first f n n h0
  have no : ¬ Out f n p := fun ho => by
    obtain ⟨q, hq, hl⟩ := out_in hf h0 ho
    exact hm q hq hl
  have h1 : one ≤ p := by
    by_cases h : p < one
    · exact absurd (R.a p h) no
    · omega
  have h2 : p = one ∨ other ≤ p := by
    by_cases h : p = one
    · exact .inl h
    · by_cases h' : p < other
      · exact absurd (R.b p h' h) no
      · omega
  by_cases hn : other < n
  · -- all letters alike
    have ha : alike = n := by
      have := R.al
      omega
    have e := R.e
    rw [ha] at e
    have eall : ∀ t, f (one + t) = f (other + t) := by
      intro t
      have := e (t % n) (Nat.mod_lt _ h0)
      rw [← per_mod hf (one + t), ← per_mod hf (other + t), ← Nat.add_mod_mod one t n, ← Nat.add_mod_mod other t n, per_mod hf, per_mod hf]
      exact this
    have same : ∀ q, Ls f n q one ↔ Ls f n q other := fun q => ⟨fun ⟨k, hk, e1, l⟩ => ⟨k, hk, fun t ht => (e1 t ht).trans (eall t), by rw [← eall k]; exact l⟩, fun ⟨k, hk, e1, l⟩ => ⟨k, hk, fun t ht => (e1 t ht).trans (eall t).symm, by rw [eall k]; exact l⟩⟩
    have hp2 : p = one ∨ p = other := by
      rcases h2 with h2 | h2
      · exact .inl h2
      · by_cases hx : p = one ∨ p = other
        · exact hx
        · exfalso
          have ⟨hx1, hx2⟩ := not_or.mp hx
          have hne := R.ne
          -- one step back
          by_cases hlt : one < other
          · have hd : p - (other - one) < p := by omega
            obtain ⟨r, hr, hl⟩ := hfirst _ hd
            refine hm r hr ?_
            obtain ⟨k, hk, e1, l⟩ := hl
            have sh : ∀ t, f (p - (other - one) + t) = f (p + t) := by
              intro t
              have := eall (p - other + t)
              have a1 : one + (p - other + t) = p - (other - one) + t := by omega
              have a2 : other + (p - other + t) = p + t := by omega
              rw [a1, a2] at this
              exact this
            exact ⟨k, hk, fun t ht => (e1 t ht).trans (sh t), by rw [← sh k]; exact l⟩
          · have hd : p - (one - other) < p := by omega
            obtain ⟨r, hr, hl⟩ := hfirst _ hd
            refine hm r hr ?_
            obtain ⟨k, hk, e1, l⟩ := hl
            have sh : ∀ t, f (p - (one - other) + t) = f (p + t) := by
              intro t
              have := eall (p - one + t)
              have a1 : other + (p - one + t) = p - (one - other) + t := by omega
              have a2 : one + (p - one + t) = p + t := by omega
              rw [a1, a2] at this
              exact this.symm
            exact ⟨k, hk, fun t ht => (e1 t ht).trans (sh t), by rw [← sh k]; exact l⟩
    refine ⟨by omega, fun q hq hl => hm q hq ?_⟩
    have hmin : min one other = one ∨ min one other = other := by omega
    rcases hp2 with rfl | rfl <;> rcases hmin with h | h <;> rw [h] at hl
    · exact hl
    · exact (same q).mpr hl
    · exact (same q).mp hl
    · exact hl
  · have hpo : p = one := by omega
    subst hpo
    have : min p other = p := by omega
    rw [this]
    exact ⟨hp, hm⟩
end Lt
namespace Lt
/-! ### rows read round -/
def rot (xs : List Int) (p : Nat) : List Int := xs.drop p ++ xs.take p
def rd (xs : List Int) (s : Nat) : Int := xs.getD (s % xs.length) 0
theorem rot_length (xs : List Int) (p : Nat) : (rot xs p).length = xs.length := by
  unfold rot
  rw [List.length_append, List.length_drop, List.length_take]
  omega
theorem rd_per (xs : List Int) (s : Nat) : rd xs (s + xs.length) = rd xs s := by
  unfold rd
  rw [Nat.add_mod_right]
theorem rd_lt {xs : List Int} {s : Nat} (h : s < xs.length) : rd xs s = xs.getD s 0 := by
  unfold rd
  rw [Nat.mod_eq_of_lt h]
theorem rot_getD {xs : List Int} {p t : Nat} (hp : p ≤ xs.length) (ht : t < xs.length) : (rot xs p).getD t 0 = rd xs (p + t) := by
  unfold rot rd
  rw [List.getD_eq_getElem?_getD, List.getD_eq_getElem?_getD]
  congr 1
  by_cases h : p + t < xs.length
  · rw [Nat.mod_eq_of_lt h, List.getElem?_append_left (by rw [List.length_drop]; omega), List.getElem?_drop]
  · have e : (p + t) % xs.length = p + t - xs.length := by
      rw [Nat.mod_eq_sub_mod (by omega)]
      by_cases h2 : p + t - xs.length < xs.length
      · exact Nat.mod_eq_of_lt h2
      · omega
    rw [e, List.getElem?_append_right (by rw [List.length_drop]; omega), List.length_drop, List.getElem?_take]
    have h3 : t - (xs.length - p) = p + t - xs.length := by omega
    rw [h3, if_pos (by omega)]
theorem ext_getD {a b : List Int} (hl : a.length = b.length) (h : ∀ t, t < a.length → a.getD t 0 = b.getD t 0) : a = b := by
  apply List.ext_getElem hl
  intro i h1 h2
  have := h i h1
  rw [List.getD_eq_getElem?_getD, List.getD_eq_getElem?_getD, List.getElem?_eq_getElem h1, List.getElem?_eq_getElem h2] at this
  exact this
theorem rot_mem {xs : List Int} {p : Nat} {x : Int} (h : x ∈ rot xs p) : x ∈ xs := by
  unfold rot at h
  rcases List.mem_append.mp h with h | h
  · exact List.mem_of_mem_drop h
  · exact List.mem_of_mem_take h
theorem rot_eq_of {xs : List Int} {p q : Nat} (hp : p ≤ xs.length) (hq : q ≤ xs.length) (h : ∀ t, t < xs.length → rd xs (p + t) = rd xs (q + t)) : rot xs p = rot xs q := by
  refine ext_getD (by rw [rot_length, rot_length]) fun t ht => ?_
  rw [rot_length] at ht
  rw [rot_getD hp ht, rot_getD hq ht, h t ht]
theorem rd_rot {xs : List Int} {p : Nat} (hp : p ≤ xs.length) (h0 : 0 < xs.length) (s : Nat) : rd (rot xs p) s = rd xs (p + s) := by
  have h1 : rd (rot xs p) s = (rot xs p).getD (s % xs.length) 0 := by
    unfold rd
    rw [rot_length]
  rw [h1, rot_getD hp (Nat.mod_lt _ h0)]
  unfold rd
  rw [Nat.add_mod_mod]
theorem rot_rot {xs : List Int} {p q : Nat} (hp : p ≤ xs.length) (hq : q ≤ xs.length) (h0 : 0 < xs.length) : rot (rot xs p) q = rot xs ((p + q) % xs.length) := by
  refine ext_getD (by rw [rot_length, rot_length, rot_length]) fun t ht => ?_
  rw [rot_length, rot_length] at ht
  rw [rot_getD (by rw [rot_length]; exact hq) (by rw [rot_length]; exact ht), rd_rot hp h0, rot_getD (Nat.le_of_lt (Nat.mod_lt _ h0)) ht]
  unfold rd
  rw [Nat.mod_add_mod, Nat.add_assoc]
/-- ms is the least of the turned forms of ns -/
def Least (ns ms : List Int) : Prop := ∃ p, p < max 1 ns.length ∧ ms = rot ns p ∧ ∀ q, q < ns.length → ¬ Ls (rd ns) ns.length q p
theorem Least.ex (ns : List Int) : ∃ ms, Least ns ms := by
  by_cases h : 0 < ns.length
  · obtain ⟨p, hp, hm⟩ := ex_min (rd ns) ns.length ns.length h
    exact ⟨_, p, by omega, rfl, hm⟩
  · exact ⟨_, 0, by omega, rfl, fun q hq => by omega⟩
theorem Least.uniq {ns a b : List Int} (h1 : Least ns a) (h2 : Least ns b) : a = b := by
  obtain ⟨p, hp, rfl, m1⟩ := h1
  obtain ⟨q, hq, rfl, m2⟩ := h2
  by_cases h0 : 0 < ns.length
  · rcases Ls.total (rd ns) ns.length p q with h | h | h
    · exact absurd h (m2 p (by omega))
    · exact absurd h (m1 q (by omega))
    · exact rot_eq_of (by omega) (by omega) h
  · have : p = q := by omega
    rw [this]
theorem Ls.shift {xs : List Int} {j p q : Nat} (hj : j ≤ xs.length) (h0 : 0 < xs.length) : Ls (rd (rot xs j)) xs.length p q ↔ Ls (rd xs) xs.length (j + p) (j + q) := by
  constructor
  · rintro ⟨k, hk, e, l⟩
    refine ⟨k, hk, fun t ht => ?_, ?_⟩
    · have := e t ht
      rw [rd_rot hj h0, rd_rot hj h0] at this
      rw [Nat.add_assoc, Nat.add_assoc]
      exact this
    · rw [rd_rot hj h0, rd_rot hj h0] at l
      rw [Nat.add_assoc, Nat.add_assoc]
      exact l
  · rintro ⟨k, hk, e, l⟩
    refine ⟨k, hk, fun t ht => ?_, ?_⟩
    · rw [rd_rot hj h0, rd_rot hj h0, ← Nat.add_assoc, ← Nat.add_assoc]
      exact e t ht
    · rw [rd_rot hj h0, rd_rot hj h0, ← Nat.add_assoc, ← Nat.add_assoc]
      exact l
theorem Ls.modl {xs : List Int} {p q : Nat} : Ls (rd xs) xs.length (p % xs.length) (q % xs.length) ↔ Ls (rd xs) xs.length p q := by
  have e : ∀ s t, rd xs (s % xs.length + t) = rd xs (s + t) := fun s t => by
    unfold rd
    rw [Nat.mod_add_mod]
  constructor
  · rintro ⟨k, hk, h, l⟩
    exact ⟨k, hk, fun t ht => by rw [← e p, ← e q]; exact h t ht, by rw [← e p, ← e q]; exact l⟩
  · rintro ⟨k, hk, h, l⟩
    exact ⟨k, hk, fun t ht => by rw [e p, e q]; exact h t ht, by rw [e p, e q]; exact l⟩
theorem Least.turn {ns ms : List Int} {j : Nat} (hj : j ≤ ns.length) (h : Least (rot ns j) ms) : Least ns ms := by
  obtain ⟨p, hp, rfl, m⟩ := h
  rw [rot_length] at hp m
  by_cases h0 : 0 < ns.length
  · refine ⟨(j + p) % ns.length, by have := Nat.mod_lt (j + p) h0; omega, rot_rot hj (by omega) h0, fun q hq hl => ?_⟩
    refine m ((q + (ns.length - j)) % ns.length) (Nat.mod_lt _ h0) ?_
    rw [Ls.shift hj h0]
    have e1 : (j + (q + (ns.length - j)) % ns.length) % ns.length = q % ns.length := by
      rw [Nat.add_mod_mod]
      have : j + (q + (ns.length - j)) = q + ns.length := by omega
      rw [this, Nat.add_mod_right]
    rw [← Ls.modl, e1, Ls.modl, ← Ls.modl]
    have := Ls.modl.mpr hl
    rw [Nat.mod_mod] at this
    exact this
  · have : ns = [] := List.length_eq_zero_iff.mp (by omega)
    subst this
    refine ⟨0, by decide, ?_, fun q hq => absurd hq (by simp)⟩
    unfold rot
    simp
theorem Least.turn' {ns ms : List Int} {j : Nat} (hj : j ≤ ns.length) (h : Least ns ms) : Least (rot ns j) ms := by
  obtain ⟨ms', h'⟩ := Least.ex (rot ns j)
  have := h.uniq (h'.turn hj)
  rw [this]
  exact h'
theorem Least.self {ns ms : List Int} (h : Least ns ms) : Least ms ms := by
  obtain ⟨p, hp, e, m⟩ := id h
  by_cases h0 : 0 < ns.length
  · have := h.turn' (j := p) (by omega)
    rw [← e] at this
    exact this
  · have : ns = [] := List.length_eq_zero_iff.mp (by omega)
    subst this
    have : ms = [] := by rw [e]; unfold rot; simp
    rw [this] at h ⊢
    exact h
theorem Least.length {ns ms : List Int} (h : Least ns ms) : ms.length = ns.length := by
  obtain ⟨p, _, e, _⟩ := h
  rw [e, rot_length]
/-! ### the order of rows of one length -/
theorem ls_rows {ns : List Int} {p q : Nat} (hp : p ≤ ns.length) (hq : q ≤ ns.length) : Ls (rd ns) ns.length p q ↔ ∃ k, k < ns.length ∧ (∀ t, t < k → (rot ns p).getD t 0 = (rot ns q).getD t 0) ∧ (rot ns p).getD k 0 < (rot ns q).getD k 0 := by
  constructor
  · rintro ⟨k, hk, e, l⟩
    refine ⟨k, hk, fun t ht => ?_, ?_⟩
    · rw [rot_getD hp (by omega), rot_getD hq (by omega)]
      exact e t ht
    · rw [rot_getD hp hk, rot_getD hq hk]
      exact l
  · rintro ⟨k, hk, e, l⟩
    refine ⟨k, hk, fun t ht => ?_, ?_⟩
    · have := e t ht
      rw [rot_getD hp (by omega), rot_getD hq (by omega)] at this
      exact this
    · rw [rot_getD hp hk, rot_getD hq hk] at l
      exact l
end Lt
set_option Elab.async false
set_option linter.all false
set_option maxRecDepth 100000
set_option maxHeartbeats 1000000
namespace W04
open PySem L2 PySem.Spec PyProof.Rows WR WB
section
variable {X : Cx}
def rCntT (K : PySem.W.Frag) : V → List V → Hp → VK → Prop := fun x xs H Q => ∃ (p : Addr) (ns : List Int) (k : Int), x = .ref p ∧ xs = [.int k] ∧ SqT K H p (iv ns) ∧ Q (.int (ns.count k : Nat)) H
theorem mt_tcount {K : PySem.W.Frag} (hK : X.K = K) : MtR X "tuple.count" (rCntT K) := by
  subst hK
  intro pins s σ H x xs v us Q I rx rxs h
  obtain ⟨p, ns, k, rfl, rfl, hs, q⟩ := h
  cases rx
  obtain ⟨u, rfl, ru⟩ := rxs.one
  obtain ⟨t, rfl⟩ := ru
  obtain ⟨its, rv, ⟨⟨cls, dd, data, sl⟩, ho, hc, n, hd⟩, hlen⟩ := I.tuple hs
  simp only at hc hd
  subst hc hd
  have hi := ints_of_vals rv
  refine call_meets PySem.F.slot_tuple_count ⟨_, ho, rfl⟩ PySem.F.entry_tuple_count (PySem.F.args_tuple_count_2 _ _)
    (SeqAt.tuple_countAt p its.toArray n dd sl (.int k t) (eqk k)) ⟨ho, fun y hy => (eqk_gives hi y (by simpa using hy)).at _ _, ?_⟩
  have ec : its.toArray.toList.countP (eqk k) = ns.count k := eqk_count hi
  refine ⟨.int (ns.count k : Nat), H, I.tok _, ⟨s.toks, ?_⟩, q⟩
  show Value.int ((its.toArray.toList.countP (eqk k) : Nat) : Int) s.toks = Value.int ((ns.count k : Nat) : Int) s.toks
  rw [ec]
def tyB (K : PySem.W.Frag) (x : V) (H : Hp) : Prop := ∃ (a : Addr) (xs : List V), x = .ref a ∧ SqB K H a xs
theorem tyB_ok {K : PySem.W.Frag} (hK : X.K = K) : TyOk X "tuple" (tyB K) := by
  subst hK
  intro pins σ H s x v I r h
  obtain ⟨a, xs, rfl, hB⟩ := h
  cases r
  obtain ⟨its, _, ⟨o1, e1, c1, _⟩, _⟩ := I.tuple hB.sq
  obtain ⟨o, u, e, d⟩ := hB.bare
  have hx : ObjOk X.prog X.w H s.heap a (.frz o u) := I.hok a _ e
  exact ⟨⟨o1, e1, c1⟩, fun b hb => by cases hb; exact ⟨o, hx.1, d⟩⟩
end
structure MethW (P : Program) (w : World) (K : PySem.W.Frag) (mg : Str → Option Value) (base : Heap) (C : Addr) (m : Str) (ps : List Str) (sp : Sp) : Prop where
  ex : ∃ (f : Addr) (fd : FuncData), Meth K C m f ∧ FnOk P w K mg base CX0 6 f fd ps sp ∧ Binds K fd ps []
section
variable {X : Cx} {C : Addr} {o e : Expr} {es : List Expr} {ta : TE} {t : TA} {m : Str} {ps : List Str} {sp : Sp} {apos pos : Pos} {j : Nat}
theorem pe_w0 {pl : Sem Bool} (M : MethW X.prog X.w X.K X.mg X.base C m ps sp) (c : Cls X.K C) (hr : Room j X.A) (hj : 6 ≤ j) (he : PE X o ta)
    (ht : eval (.Call (.Attribute o m apos) [] [] pos) X.env = (do
      let ov ← eval o X.env
      standAt apos.atName
      let (f, first) ← holding [ov] (getMethod ov m pl)
      callWith pos f first (backTo pos (starEach [] X.env)) (backToKw pos (keywordEach [] X.env))) := by rfl) :
    PE X (.Call (.Attribute o m apos) [] [] pos) (tMeth C m sp [] E0 ta tNil) := by
  obtain ⟨f, fd, hm, F, hb⟩ := M.ex
  exact pe_meth0 he c hm F (hr.mono hj) hb .nil pass0 ht
theorem pe_w1 {pl : Sem Bool} (M : MethW X.prog X.w X.K X.mg X.base C m ps sp) (c : Cls X.K C) (hr : Room j X.A) (hj : 6 ≤ j) (he : PE X o ta) (ha : PA X (e :: es) t)
    (hst : starEach (e :: es) X.env = (false, eval e X.env) :: starEach es X.env := by rfl) (hpl : (backTo pos (starEach es X.env)).any (·.1) = false := by rfl)
    (ht : eval (.Call (.Attribute o m apos) (e :: es) [] pos) X.env = (do
      let ov ← eval o X.env
      standAt apos.atName
      let (f, first) ← holding [ov] (getMethod ov m pl)
      callWith pos f first (backTo pos (starEach (e :: es) X.env)) (backToKw pos (keywordEach [] X.env))) := by rfl) :
    PE X (.Call (.Attribute o m apos) (e :: es) [] pos) (tMeth C m sp [] E0 ta t) := by
  obtain ⟨f, fd, hm, F, hb⟩ := M.ex
  exact pe_meth he c hm F (hr.mono hj) hb .nil pass0 ha hst hpl ht
end
theorem WordAt.at {K : PySem.W.Frag} {C : Addr} {H : Hp} {p : Addr} {ns : List Int} (h : WordAt K C H p ns) {m : Str} (h1 : ¬ m = "letters") (h2 : ¬ m = "length") (h3 : ¬ m = "kinds") (h4 : ¬ m = "is_short") (h5 : ¬ m = "is_short_round") :
    ∃ dx fs, H p = some (.ins C dx fs) ∧ fs.lookup m = none := by
  obtain ⟨dx, tl, tk, ks, h, _⟩ := h
  exact ⟨dx, _, h, wf_no h1 h2 h3 h4 h5⟩
theorem nm1 : ¬ (("contrary" : Str) = "letters") ∧ ¬ (("contrary" : Str) = "length") ∧ ¬ (("contrary" : Str) = "kinds") ∧ ¬ (("contrary" : Str) = "is_short") ∧ ¬ (("contrary" : Str) = "is_short_round") := by decide +kernel
theorem nm2 : ¬ (("shortened" : Str) = "letters") ∧ ¬ (("shortened" : Str) = "length") ∧ ¬ (("shortened" : Str) = "kinds") ∧ ¬ (("shortened" : Str) = "is_short") ∧ ¬ (("shortened" : Str) = "is_short_round") := by decide +kernel
theorem nm4 : ¬ (("then" : Str) = "letters") ∧ ¬ (("then" : Str) = "length") ∧ ¬ (("then" : Str) = "kinds") ∧ ¬ (("then" : Str) = "is_short") ∧ ¬ (("then" : Str) = "is_short_round") := by decide +kernel
theorem nm5 : ¬ (("times" : Str) = "letters") ∧ ¬ (("times" : Str) = "length") ∧ ¬ (("times" : Str) = "kinds") ∧ ¬ (("times" : Str) = "is_short") ∧ ¬ (("times" : Str) = "is_short_round") := by decide +kernel
theorem WordAt.no {K : PySem.W.Frag} {C : Addr} {H : Hp} {p : Addr} {ns : List Int} (h : WordAt K C H p ns) {m : Str} (n : ¬ m = "letters" ∧ ¬ m = "length" ∧ ¬ m = "kinds" ∧ ¬ m = "is_short" ∧ ¬ m = "is_short_round") :
    ∃ dx fs, H p = some (.ins C dx fs) ∧ fs.lookup m = none := h.at n.1 n.2.1 n.2.2.1 n.2.2.2.1 n.2.2.2.2
theorem WordAt.drew {K : PySem.W.Frag} {C : Addr} {H H' : Hp} {p a c : Addr} {n : Nat} {ns : List Int} (h : WordAt K C H p ns) (hH : HandAt H a c n) {m : Nat} (d : Drew a c m H H') : WordAt K C H' p ns := by
  have keep : ∀ {q : Addr} {xs : List V}, SqT K H q xs → SqT K H' q xs := by
    intro q xs h
    obtain ⟨cs, i, r, hA, _⟩ := hH
    rcases h with h | h
    · left
      rcases h with h | ⟨o, h⟩
      · exact .inl (d.2 _ _ (fun z => by rw [z, hA] at h; cases h) h)
      · exact .inr ⟨o, d.2 _ _ (fun z => by rw [z, hA] at h; cases h) h⟩
    · exact .inr h
  obtain ⟨dx, tl, tk, ks, h1, h2, h3, h4⟩ := h
  have keepB : SqB K H' tl (iv ns) := by
    refine ⟨keep h2.sq, ?_⟩
    obtain ⟨cs, i, r, hA, _⟩ := hH
    obtain ⟨o, u, e, dn⟩ := h2.bare
    exact ⟨o, u, d.2 _ _ (fun z => by rw [z, hA] at e; cases e) e, dn⟩
  refine ⟨dx, tl, tk, ks, d.2 _ _ (fun z => ?_) h1, keepB, keep h3, h4⟩
  obtain ⟨cs, i, r, hA, _⟩ := hH
  rw [z, hA] at h1
  cases h1
theorem make_at {K : PySem.W.Frag} {C : Addr} {H1 : Hp} {q x dx : Addr} {ms : List Int} {G : Hp → Prop} {E : XK} (nx : H1 x = none) (ndx : H1 dx = none) (hq : SqW K H1 q (iv ms)) (hlen : ms.length ≤ 500) (hl : Lts ms) (k : ∀ H', Same H1 H' → WordAt K C H' x ms → G H') :
    spInit K C [.ref x, .ref q] (L2.upd (L2.upd H1 dx (.own x)) x (.ins C dx [])) (fun v H2 => v = .non ∧ G H2) E := by
  have s0 : Same H1 (L2.upd (L2.upd H1 dx (.own x)) x (.ins C dx [])) := fun b o e => by
    rw [upd_ne (ne_of_none e nx), upd_ne (ne_of_none e ndx)]
    exact e
  exact ⟨H1, x, dx, q, ms, rfl, s0, nx, upd_same, hq, hlen, hl, fun H' s' W' => ⟨rfl, k H' s' W'⟩⟩
theorem eqvL_ints (ns ms : List Int) : PyData.eqv (.list (ns.map .int)) (.list (ms.map .int)) = decide (ns = ms) := by
  show PyData.eqvAll _ _ = _
  exact eqvAll_ints ns ms
theorem no_ne {b : Bool} {A B : Prop} (h : b = true) (k : B) : if (!b) = true then A else B := by rw [h]; exact iteF k
theorem units65 {j : Nat} {A : Around} (hr : Room j A) (h : 1 ≤ j) : A.units + 65 < cLine := by
  have := (hr.mono h).in1.units
  exact this
abbrev sExch : Stmt := top 20
def exch (a b : List Int) : List Int := a ++ b ++ Fr.con a ++ Fr.con b
theorem exch_length (a b : List Int) : (exch a b).length = 2 * a.length + 2 * b.length := by
  unfold exch
  simp [Fr.con_length]
  omega
theorem Lts.exch {a b : List Int} (h : Lts a) (k : Lts b) : Lts (W04.exch a b) := ((h.app k).app h.con).app k.con
def spExch (K : PySem.W.Frag) : Sp := fun vs H Q _ => ∃ (a b : Addr) (ns ms : List Int), vs = [.ref a, .ref b] ∧ SqB K H a (iv ns) ∧ SqB K H b (iv ms) ∧ ns.length ≤ 1000 ∧ ms.length ≤ 1000 ∧ NewB K H Q (iv (exch ns ms))
section
variable {P : Program} {w : World} {K : PySem.W.Frag} {mg : Str → Option Value} {base : Heap}
theorem scExch : FnScope ["one", "other"] ["one", "other"] (defScope sExch) := ⟨rfl, rfl, rfl, by decide +kernel, rfl, by decide +kernel, by decide +kernel⟩
theorem ok_exch {f : Addr} {fd : FuncData} (F : Fun K "exchange_letters" "exchange_letters" sExch f fd) (GC : Cal P w K mg base "contrary_letters" 1 ["letters"] (spCon K)) : FnOk P w K mg base CX0 2 f fd ["one", "other"] (spExch K) := by
  refine F.ok scExch (fun vs H Q E h => ?_) (fun cdv A outer s H vs Q E hr h => ?_)
  · obtain ⟨a, b, ns, ms, rfl, _⟩ := h
    rfl
  · obtain ⟨a, b, ns, ms, rfl, hA, hB, l1, l2, k⟩ := h
    refine ⟨_, pss_one (ps_ret (pe_op op_catB (pe_op op_catB (pe_op op_catB (pv 0) (pv 1)) (pe_cal GC hr (by decide) (by rfl) (pa_cons (pv 0) pa_nil))) (pe_cal GC hr (by decide) (by rfl) (pa_cons (pv 1) pa_nil)))), ?_⟩
    refine ⟨_, rfl, _, rfl, a, b, _, _, rfl, rfl, hA, hB, Evl.sz_of (by simp only [List.length_map]; omega), fun p1 H1 s1 h1 => ?_⟩
    refine ⟨_, rfl, a, ns, rfl, (SqB.same s1 hA).sq, l1, fun p2 H2 s2 h2 => ?_⟩
    refine ⟨p1, p2, _, _, rfl, rfl, SqB.same s2 h1, h2, Evl.sz_of (by simp only [List.length_append, List.length_map, Fr.con_length]; omega), fun p3 H3 s3 h3 => ?_⟩
    refine ⟨_, rfl, b, ms, rfl, (SqB.same ((s1.trans s2).trans s3) hB).sq, l2, fun p4 H4 s4 h4 => ?_⟩
    refine ⟨p3, p4, _, _, rfl, rfl, SqB.same s4 h3, h4, Evl.sz_of (by simp only [List.length_append, List.length_map, Fr.con_length]; omega), fun p5 H5 s5 h5 => ?_⟩
    refine k p5 H5 ((((s1.trans s2).trans s3).trans s4).trans s5) ?_
    have e : iv (W04.exch ns ms) = iv ns ++ iv ms ++ iv (Fr.con ns) ++ iv (Fr.con ms) := by
      unfold W04.exch iv
      simp only [List.map_append]
    rw [e]
    exact h5
end
theorem tms_len (N : Int) (ns : List Int) : (tms N ns).length = N.natAbs * ns.length := by
  unfold tms
  split
  · exact Fr.rep_length _ _
  · rw [Fr.rep_length, Fr.con_length]
theorem Lts.tms {ns : List Int} (h : Lts ns) (N : Int) : Lts (W04.tms N ns) := by
  unfold W04.tms
  split
  · exact h.rep _
  · exact h.con.rep _
abbrev sTurnedL : Stmt := top 21
abbrev sTurnedM : Stmt := inClass (top 35) 7
abbrev sExchM : Stmt := inClass (top 35) 11
abbrev sNeedL : Stmt := top 25
theorem cut_to {ns : List Int} {j : Nat} (h : j ≤ ns.length) : cutV (iv ns) none (some ((j : Nat) : Int)) = iv (ns.take j) := by
  unfold cutV
  rw [HT.sIx_none, HT.sIx_nat, List.drop_zero, Nat.sub_zero, List.length_map, Nat.min_eq_left h, ← List.map_take]
theorem cut_from {ns : List Int} {j : Nat} (h : j ≤ ns.length) : cutV (iv ns) (some ((j : Nat) : Int)) none = iv (ns.drop j) := by
  unfold cutV
  rw [HT.sIx_none, HT.sIx_nat, List.length_map, Nat.min_eq_left h, ← List.map_drop, List.take_of_length_le (by simp)]
def trn (ns : List Int) (by_ : Int) : List Int := if ns = [] then [] else Lt.rot ns (by_ % (ns.length : Int)).toNat
theorem trn_length (ns : List Int) (b : Int) : (trn ns b).length = ns.length := by
  unfold trn
  split
  · rename_i h; rw [h]
  · exact Lt.rot_length _ _
theorem Lts.trn {ns : List Int} (h : Lts ns) (b : Int) : Lts (W04.trn ns b) := by
  unfold W04.trn
  split
  · exact fun _ h => nomatch h
  · exact fun x hx => h x (Lt.rot_mem hx)
def spTurnedL (K : PySem.W.Frag) : Sp := fun vs H Q _ => ∃ (a : Addr) (b : Int) (ns : List Int), vs = [.ref a, .int b] ∧ SqB K H a (iv ns) ∧ ns.length ≤ 1000 ∧ NewB K H Q (iv (trn ns b))
section
variable {P : Program} {w : World} {K : PySem.W.Frag} {mg : Str → Option Value} {base : Heap}
theorem scTurnedL : FnScope ["letters", "by", "start"] ["letters", "by"] (defScope sTurnedL) := ⟨rfl, rfl, rfl, by decide +kernel, rfl, by decide +kernel, by decide +kernel⟩
theorem ok_turnedL {f : Addr} {fd : FuncData} (F : Fun K "turned_letters" "turned_letters" sTurnedL f fd) (T : TxA mg) : FnOk P w K mg base CX0 1 f fd ["letters", "by"] (spTurnedL K) := by
  refine F.ok scTurnedL (fun vs H Q E h => ?_) (fun cdv A outer s H vs Q E hr h => ?_)
  · obtain ⟨a, b, ns, rfl, _⟩ := h
    rfl
  · obtain ⟨a, b, ns, rfl, hS, hlen, k⟩ := h
    refine ⟨_, pss_cons (ps_if (pt_not (pt_truth (pv 0) (by intro _; rfl))) (pss_one (ps_ret (pe_tupB pa_nil))) pss_nil)
      (pss_cons (ps_set (i := 2) scTurnedL.nd rfl (Or.inl rfl) (pe_op op_mod (pv 1) (pe_callB call_len_seq (by rfl) T.len PySem.boot_len (pa_cons (pv 0) pa_nil))))
      (pss_one (ps_ret (pe_op op_catB (pe_slice sl_tupB (pv 0) (po_some (pv 2)) po_none) (pe_slice sl_tupB (pv 0) po_none (po_some (pv 2))))))), ?_⟩
    refine ⟨_, rfl, _, .inr (.inl ⟨_, hS.sq, rfl⟩), ?_⟩
    by_cases h0 : ns = []
    · subst h0
      refine iteT' (by rfl) ?_
      exact ⟨Nat.zero_le _, k⟩
    · refine iteF' (by
        cases ns with
        | nil => exact absurd rfl h0
        | cons x t => rfl) ?_
      have hp : 0 < ns.length := List.length_pos_iff.mpr h0
      refine ⟨_, rfl, _, rfl, a, _, rfl, .inr hS.sq, _, _, rfl, rfl, by rw [List.length_map]; omega, ?_⟩
      have e0 : 0 ≤ b % (ns.length : Int) := Int.emod_nonneg _ (by omega)
      have e1 : b % (ns.length : Int) < (ns.length : Int) := Int.emod_lt_of_pos _ (by omega)
      obtain ⟨j, hj⟩ : ∃ j : Nat, b % (ns.length : Int) = (j : Int) := ⟨(b % (ns.length : Int)).toNat, by omega⟩
      have eL : b % (((iv ns).length : Nat) : Int) = (j : Int) := by rw [List.length_map]; exact hj
      dsimp only
      rw [eL]
      have et : trn ns b = ns.drop j ++ ns.take j := by
        unfold trn Lt.rot
        rw [if_neg h0, hj, Int.toNat_natCast]
      refine ⟨_, rfl, _, rfl, _, rfl, a, _, rfl, hS, fun p1 H1 s1 h1 => ?_⟩
      rw [cut_from (by omega)] at h1
      refine ⟨_, rfl, _, rfl, _, rfl, a, _, rfl, SqB.same s1 hS, fun p2 H2 s2 h2 => ?_⟩
      rw [cut_to (by omega)] at h2
      refine ⟨p1, p2, _, _, rfl, rfl, SqB.same s2 h1, h2, Evl.sz_of (by simp only [List.length_map, List.length_drop, List.length_take]; omega), fun p3 H3 s3 h3 => ?_⟩
      refine k p3 H3 ((s1.trans s2).trans s3) ?_
      rw [et]
      have h3' : SqB K H3 p3 (iv (ns.drop j) ++ iv (ns.take j)) := h3
      simpa [iv] using h3'
end
def spTurned (K : PySem.W.Frag) (C : Addr) : Sp := fun vs H Q _ => ∃ (p : Addr) (b : Int) (ns : List Int), vs = [.ref p, .int b] ∧ WordAt K C H p ns ∧ ns.length ≤ 500 ∧ Lts ns ∧ NewW K C H Q (trn ns b)
section
variable {P : Program} {w : World} {K : PySem.W.Frag} {mg : Str → Option Value} {base : Heap}
theorem scTurnedM : FnScope ["self", "by"] ["self", "by"] (defScope sTurnedM) := ⟨rfl, rfl, rfl, by decide +kernel, rfl, by decide +kernel, by decide +kernel⟩
theorem ok_turned {C f : Addr} {fd : FuncData} (F : Fun K "turned" "Word.turned" sTurnedM f fd) (T : TxW K mg C) (M : MkW P w K mg base C) (GN : Cal P w K mg base "need_integer" 2 ["value", "part"] spNeedI)
    (GT : Cal P w K mg base "turned_letters" 1 ["letters", "by"] (spTurnedL K)) : FnOk P w K mg base CX0 6 f fd ["self", "by"] (spTurned K C) := by
  refine F.ok scTurnedM (fun vs H Q E h => ?_) (fun cdv A outer s H vs Q E hr h => ?_)
  · obtain ⟨p, b, ns, rfl, _⟩ := h
    rfl
  · obtain ⟨p, b, ns, rfl, ⟨dx, tl, tk, ks, h1, h2, h3, h4⟩, hlen, hl, k⟩ := h
    refine ⟨_, pss_cons (ps_expr (pe_cal GN hr (by decide) (by rfl) (pa_cons (pv 1) (pa_cons pe_str pa_nil))))
      (pss_one (ps_ret (pe_word M T hr (by decide) (by rfl) (pa_cons (pe_cal GT hr (by decide) (by rfl) (pa_cons (pe_fld (pv 0) rfl) (pa_cons (pv 1) pa_nil))) pa_nil)))), ?_⟩
    refine ⟨_, rfl, b, _, rfl, ?_⟩
    refine ⟨_, rfl, p, C, dx, _, _, rfl, h1, T.cl, T.nL, wf_letters, _, rfl, tl, b, ns, rfl, h2, by omega, fun q H1 s1 hq => ?_⟩
    exact make_word (.inr hq) (by rw [trn_length]; exact hlen) (hl.trn b) fun x H' s' W => k x H' (s1.trans s') W
end
theorem nm6 : ¬ (("turned" : Str) = "letters") ∧ ¬ (("turned" : Str) = "length") ∧ ¬ (("turned" : Str) = "kinds") ∧ ¬ (("turned" : Str) = "is_short") ∧ ¬ (("turned" : Str) = "is_short_round") := by decide +kernel
inductive All2 {α β : Type} (R : α → β → Prop) : List α → List β → Prop
  | nil : All2 R [] []
  | cons {a : α} {b : β} {as : List α} {bs : List β} (h : R a b) (r : All2 R as bs) : All2 R (a :: as) (b :: bs)
theorem All2.length {α β : Type} {R : α → β → Prop} {as : List α} {bs : List β} (h : All2 R as bs) : as.length = bs.length := by
  induction h with
  | nil => rfl
  | cons _ _ ih => simp [ih]
theorem All2.imp {α β : Type} {R S : α → β → Prop} {as : List α} {bs : List β} (h : All2 R as bs) (k : ∀ a b, R a b → S a b) : All2 S as bs := by
  induction h with
  | nil => exact .nil
  | cons h _ ih => exact .cons (k _ _ h) ih
theorem All2.at {α β : Type} {R : α → β → Prop} {as : List α} {bs : List β} (h : All2 R as bs) : ∀ {i : Nat} {a : α}, as[i]? = some a → ∃ b, bs[i]? = some b ∧ R a b := by
  induction h with
  | nil => intro i a e; simp at e
  | cons h r ih =>
    intro i a e
    cases i with
    | zero => simp at e; subst e; exact ⟨_, by simp, h⟩
    | succ i => simpa using ih (by simpa using e)
theorem All2.mem {α β : Type} {R : α → β → Prop} {as : List α} {bs : List β} (h : All2 R as bs) {a : α} (ha : a ∈ as) : ∃ b, b ∈ bs ∧ R a b := by
  obtain ⟨i, e⟩ := List.mem_iff_getElem?.mp ha
  obtain ⟨b, e2, r⟩ := h.at e
  exact ⟨b, List.mem_of_getElem? e2, r⟩
theorem All2.app {α β : Type} {R : α → β → Prop} {as : List α} {bs : List β} (h : All2 R as bs) {cs : List α} {ds : List β} (k : All2 R cs ds) : All2 R (as ++ cs) (bs ++ ds) := by
  induction h with
  | nil => exact k
  | cons h _ ih => exact .cons h ih
theorem lcM {β : Type} {J : It} {xs : List V} {G : Hp → Prop} (w : Walk J xs.length G (YAt xs)) (ys : List β) (R : Addr → Hp → V → β → Prop) (hst : ∀ D H H' v b, R D H v b → Same H H' → R D H' v b) (hput : ∀ D H ws o v b, H D = some (.lst ws) → R D H v b → R D (L2.upd H D o) v b)
    (hz : xs.length < 40000) (hl : xs.length = ys.length) {g : TG} {te : TE} {vs : List Nat} {σ : L2.St} {H1 : Hp} {Q : VK} (hG : ∀ H, Same H1 H → G H)
    (hs : ∀ (i : Nat) (x : V) (b : β), xs[i]? = some x → ys[i]? = some b → ∀ D H, H1 D = none → (∃ ws, H D = some (.lst ws)) → Same H1 H → ∀ (Qy : V → Hp → Prop), (∀ v H', Same H H' → R D H' v b → Qy v H') →
      g x (wipe σ vs) H fun σ2 H2 => wipe σ2 vs = wipe σ vs ∧ te σ2 H2 Qy)
    (hg : ∀ x σ1 H A B, (∀ σ2 H2, A σ2 H2 → B σ2 H2) → g x σ1 H A → g x σ1 H B)
    (hd : ∀ (D : Addr) H' ws, H1 D = none → Same H1 H' → H' D = some (.lst ws) → All2 (R D H') ws ys → Q (.ref D) H') : tLc (fun _ H R => R J H) g tYes te vs σ H1 Q := by
  intro D hD
  refine lc_it w (fun i H => Same H1 H ∧ ∃ ws, H D = some (.lst ws) ∧ All2 (R D H) ws (ys.take i)) ⟨fun b o e => by rw [upd_ne (ne_of_none e hD)]; exact e, [], upd_same, by simp only [List.take_zero]; exact .nil⟩ (fun i H _ q => hG H q.1) ?_ ?_
  · rintro i x H H' hi ⟨sm, ws, hw, h2⟩ ⟨rfl, hx⟩
    have hi2 : i < ys.length := by omega
    refine hg _ _ _ _ _ (fun σ2 H2 q => ⟨q.1, yes_te q.2⟩) (hs i x ys[i] hx (List.getElem?_eq_getElem hi2) D H' hD ⟨ws, hw⟩ sm _ fun v H2 s2 r => ?_)
    have hw2 := s2 _ _ hw
    have hlen := h2.length
    rw [List.length_take] at hlen
    refine ⟨ws, hw2, Evl.sz_lt (by omega), fun b o e => ?_, ws ++ [v], upd_same, ?_⟩
    · rw [upd_ne (ne_of_none e hD)]
      exact s2 _ _ (sm _ _ e)
    · rw [List.take_succ_eq_append_getElem hi2]
      exact (h2.imp fun v b r => hput D H2 ws _ v b hw2 (hst D _ _ v b r s2)).app (.cons (hput D H2 ws _ v _ hw2 r) .nil)
  · rintro H ⟨sm, ws, hw, h2⟩
    rw [List.take_of_length_le (by omega)] at h2
    exact hd D H ws hD sm hw h2
theorem gName_mono {i : Nat} {x : V} {σ : L2.St} {H : Hp} {A B : L2.St → Hp → Prop} (k : ∀ σ2 H2, A σ2 H2 → B σ2 H2) (h : gName i x σ H A) : gName i x σ H B := k _ _ h
theorem gTup_mono {K : PySem.W.Frag} {i j : Nat} {x : V} {σ : L2.St} {H : Hp} {A B : L2.St → Hp → Prop} (k : ∀ σ2 H2, A σ2 H2 → B σ2 H2) (h : gTup K 2 (gCons (gName i) (gCons (gName j) gNil)) x σ H A) : gTup K 2 (gCons (gName i) (gCons (gName j) gNil)) x σ H B := by
  obtain ⟨a, xs, e1, e2, e3, v, r, e4, v2, r2, e5, e6, h⟩ := h
  exact ⟨a, xs, e1, e2, e3, v, r, e4, v2, r2, e5, e6, k _ _ h⟩
theorem SqT.keptL {K : PySem.W.Frag} {H H' : Hp} {l q : Addr} {vs xs : List V} (hl : H l = some (.lst vs)) (d : Kept l H H') (h : SqT K H q xs) : SqT K H' q xs := by
  rcases h with h | h
  · left
    rcases h with h | ⟨o, h⟩
    · exact .inl (d _ _ (fun z => by rw [z, hl] at h; cases h) h)
    · exact .inr ⟨o, d _ _ (fun z => by rw [z, hl] at h; cases h) h⟩
  · exact .inr h
section
variable {X : Cx} {K : PySem.W.Frag} {T : String} {name : Str} {id : String} {r : V → List V → Hp → VK → Prop} {o e : Expr} {es : List Expr} {to : TE} {t : TA} {apos cpos : Pos}
theorem pe_bmK (hK : X.K = K) (pa : PlainAttrs T) (slot : PySem.Slot T name id) (hty : typeOf (.builtin id) = pure (.type "method_descriptor")) (hm : MtR X id r) (ho : PE X o to) (ha : PA X (e :: es) t)
    (hbase : attributeBase o name X.env (eval o X.env) = eval o X.env := by rfl)
    (hfew : ((backTo cpos (starEach (e :: es) X.env)).all (fun x => !x.1) && (backToKw cpos (keywordEach [] X.env)).all (fun x => x.1.isSome)
      && decide ((e :: es).length + ([] : List Keyword).length + (if ([] : List Keyword).isEmpty then 0 else 1) < 30)) = true := by rfl)
    (hline : (apos.endLine == cpos.line) = true := by rfl) (hs : starEach (e :: es) X.env = (false, eval e X.env) :: starEach es X.env := by rfl) (hplain : (backTo cpos (starEach es X.env)).any (·.1) = false := by rfl) :
    PE X (.Call (.Attribute o name apos) (e :: es) [] cpos) (tBM K T r to t) := by
  subst hK
  exact pe_bm pa slot hty hm ho ha hbase hfew hline hs hplain
end
def spNeedL : Sp := fun vs H Q _ => ∃ (n : Int), vs = [.int n] ∧ 1 ≤ n.natAbs ∧ n.natAbs ≤ 26 ∧ Q .non H
section
variable {P : Program} {w : World} {K : PySem.W.Frag} {mg : Str → Option Value} {base : Heap} {C : Addr}
theorem scNeedL : FnScope ["value"] ["value"] (defScope sNeedL) := ⟨rfl, rfl, rfl, by decide +kernel, rfl, by decide +kernel, by decide +kernel⟩
theorem ok_needL {f : Addr} {fd : FuncData} (F : Fun K "need_letter" "need_letter" sNeedL f fd) (GX : Cal P w K mg base "is_letter" 3 ["value"] spLetter) : FnOk P w K mg base CX0 4 f fd ["value"] spNeedL := by
  refine F.ok scNeedL (fun vs H Q E h => ?_) (fun cdv A outer s H vs Q E hr h => ?_)
  · obtain ⟨n, rfl, _⟩ := h
    rfl
  · obtain ⟨n, rfl, h1, h2, k⟩ := h
    refine ⟨_, pss_one (ps_if (pt_not (pt_val (pe_cal GX hr (by decide) (by rfl) (pa_cons (pv 0) pa_nil)))) (pss_one ps_never) pss_nil), ?_⟩
    refine ⟨_, rfl, .int n, _, rfl, .int n, _, rfl, ?_⟩
    rw [letter_ok ⟨h1, h2⟩]
    exact iteF k
end
def spExchM (K : PySem.W.Frag) (C : Addr) : Sp := fun vs H Q _ => ∃ (p q : Addr) (ns ms : List Int), vs = [.ref p, .ref q] ∧ WordAt K C H p ns ∧ WordAt K C H q ms ∧ ns.length + ms.length ≤ 250 ∧ Lts ns ∧ Lts ms ∧ NewW K C H Q (exch ns ms)
section
variable {P : Program} {w : World} {K : PySem.W.Frag} {mg : Str → Option Value} {base : Heap} {C : Addr}
theorem scExchM : FnScope ["one", "other"] ["one", "other"] (defScope sExchM) := ⟨rfl, rfl, rfl, by decide +kernel, rfl, by decide +kernel, by decide +kernel⟩
theorem ok_exchM {f : Addr} {fd : FuncData} (F : Fun K "exchange" "Word.exchange" sExchM f fd) (T : TxW K mg C) (M : MkW P w K mg base C) (GN : Cal P w K mg base "need_word" 1 ["value", "part"] (spNeedW K C)) (GE : Cal P w K mg base "exchange_letters" 2 ["one", "other"] (spExch K)) : FnOk P w K mg base CX0 6 f fd ["one", "other"] (spExchM K C) := by
  refine F.ok scExchM (fun vs H Q E h => ?_) (fun cdv A outer s H vs Q E hr h => ?_)
  · obtain ⟨p, q, ns, ms, rfl, _⟩ := h
    rfl
  · obtain ⟨p, q, ns, ms, rfl, hW, hV, ll, hn, hm, k⟩ := h
    refine ⟨_, pss_cons (ps_expr (pe_cal GN hr (by decide) (by rfl) (pa_cons (pv 0) (pa_cons pe_str pa_nil)))) (pss_cons (ps_expr (pe_cal GN hr (by decide) (by rfl) (pa_cons (pv 1) (pa_cons pe_str pa_nil))))
      (pss_one (ps_ret (pe_word M T hr (by decide) (by rfl) (pa_cons (pe_cal GE hr (by decide) (by rfl) (pa_cons (pe_fld (pv 0) rfl) (pa_cons (pe_fld (pv 1) rfl) pa_nil))) pa_nil))))), ?_⟩
    obtain ⟨dx, tl, tk, ks, w1, w2, _⟩ := id hW
    obtain ⟨dy, ul, uk, us, y1, y2, _⟩ := id hV
    refine ⟨_, rfl, p, _, ns, rfl, hW, _, rfl, q, _, ms, rfl, hV, _, rfl, p, C, dx, _, _, rfl, w1, T.cl, T.nL, wf_letters, _, rfl, q, C, dy, _, _, rfl, y1, T.cl, T.nL, wf_letters, tl, ul, ns, ms, rfl, w2, y2, by omega, by omega, fun r H1 s1 hr1 => ?_⟩
    exact make_word (.inr hr1) (by rw [exch_length]; omega) (hn.exch hm) fun x H' s' W => k x H' (s1.trans s') W
end
theorem as_lc {wi : TI} {g : TG} {tt : TT} {te : TE} {gg : TG} {vs : List Nat} {D : Ends} {σ : L2.St} {H : Hp}
    (h : wi σ H fun J H1 => tLc (fun _ H R => R J H) g tt te vs σ H1 fun z H4 => gg z σ H4 D.nx) : tAsg (tLc wi g tt te vs) gg D σ H := h
theorem at_set {σ : L2.St} {H : Hp} {v : V} {i : Nat} {f : L2.St → Hp → Prop} (h : f (σ.set i (some v)) H) : gName i v σ H f := h
theorem ixl {X : Cx} {K : PySem.W.Frag} (h : X.K = K) : IxR X (rIxL K) := h ▸ ix_list
theorem call_listK {X : Cx} {K : PySem.W.Frag} (h : X.K = K) : CallR X (.type "list") (fun xs H Q => ∃ p ys, xs = [.ref p] ∧ (SqL K H p ys ∨ SqT K H p ys) ∧ ∀ l, H l = none → Q (.ref l) (L2.upd H l (.lst ys))) := by
  subst h
  exact call_list_of
def toI : V → Int
  | .int i => i
  | _ => 0
theorem perm_iv {ys : List V} {ks0 : List Int} (h : ys.Perm (iv ks0)) : ∃ ks, ys = iv ks ∧ ks.Perm ks0 := by
  refine ⟨ys.map toI, ?_, ?_⟩
  · unfold iv
    rw [List.map_map]
    have : ∀ y ∈ ys, y = (V.int ∘ toI) y := fun y hy => by
      obtain ⟨i, _, rfl⟩ := List.mem_map.mp (h.mem_iff.mp hy)
      rfl
    have e := List.map_congr_left this
    rw [← e]
    simp
  · have := h.map toI
    have e : (iv ks0).map toI = ks0 := by
      unfold iv
      rw [List.map_map]
      have : (toI ∘ V.int) = id := rfl
      rw [this, List.map_id]
    rw [e] at this
    exact this
theorem erase_iv : ∀ (ks : List Int) (m : Nat), (iv ks).eraseIdx m = iv (ks.eraseIdx m)
  | [], _ => rfl
  | _ :: _, 0 => rfl
  | a :: t, m + 1 => by
    show V.int a :: (iv t).eraseIdx m = V.int a :: iv (t.eraseIdx m)
    rw [erase_iv t m]
theorem seq_at {j n : Nat} (h : j < n) : seqIndex? (j : Int) n = some j := by
  unfold seqIndex?
  have h1 : ¬ (j : Int) < 0 := by omega
  simp only [if_neg h1]
  rw [if_pos (by simp; omega), Int.toNat_natCast]
theorem cb_lc {r : List V → Hp → VK → Prop} {wi : TI} {g : TG} {tt : TT} {te : TE} {vs : List Nat} {σ : L2.St} {H : Hp} {Q : VK}
    (h : wi σ H fun J H1 => tLc (fun _ H R => R J H) g tt te vs σ H1 fun y H2 => r [y] H2 Q) : tCB r (tCons (tLc wi g tt te vs) tNil) σ H Q := h
/-! ### the methods that the law calls besides -/
abbrev sLenM : Stmt := inClass (top 35) 2
abbrev sStrM : Stmt := inClass (top 35) 3
abbrev sManyM : Stmt := inClass (top 35) 10
abbrev sReadM : Stmt := inClass (top 35) 12
abbrev sTold : Stmt := top 30
def spLenM (K : PySem.W.Frag) (C : Addr) : Sp := fun vs H Q _ => ∃ (p : Addr) (ns : List Int), vs = [.ref p] ∧ WordAt K C H p ns ∧ Q (.int (ns.length : Nat)) H
def spStrM (K : PySem.W.Frag) (C : Addr) : Sp := fun vs H Q _ => ∃ (p : Addr) (ns : List Int), vs = [.ref p] ∧ WordAt K C H p ns ∧ ns.length ≤ 500 ∧ Lts ns ∧ ∀ H', Same H H' → Q (.str (txt ns)) H'
def spManyM (K : PySem.W.Frag) (C : Addr) : Sp := fun vs H Q _ => ∃ (p : Addr) (i : Int) (ns : List Int), vs = [.ref p, .int i] ∧ WordAt K C H p ns ∧ 1 ≤ i.natAbs ∧ i.natAbs ≤ 26 ∧ Q (.int (ns.count i : Nat)) H
def spTold : Sp := fun vs H Q _ => ∃ ns : List Int, vs = [.str (txt ns)] ∧ Lts ns ∧ ns.length ≤ 500 ∧ ∀ p H', H p = none → Same H H' → H' p = some (.lst ((ns.map itm).map V.str)) → Q (.ref p) H'
def spReadM (K : PySem.W.Frag) (C : Addr) : Sp := fun vs H Q _ => ∃ ns : List Int, vs = [.str (txt ns)] ∧ Lts ns ∧ ns.length ≤ 500 ∧ NewW K C H Q ns
theorem all_iv {ws : List V} {ns : List Int} (h : All2 (fun v b => v = V.int b) ws ns) : ws = iv ns := by
  induction h with
  | nil => rfl
  | cons h _ ih => rw [h, ih]; rfl
theorem itm_dash {i : Int} (h1 : 1 ≤ i.natAbs) (h2 : i.natAbs ≤ 26) : itm i ≠ ⟨#[45]⟩ := by
  unfold itm
  split
  · intro e
    injection e with e
    injection e with e
    injection e with e
    omega
  · intro e
    injection e with e
    injection e with e
    injection e with _ e
    cases e
section
variable {P : Program} {w : World} {K : PySem.W.Frag} {mg : Str → Option Value} {base : Heap} {C : Addr}
theorem scLenM : FnScope ["self"] ["self"] (defScope sLenM) := ⟨rfl, rfl, rfl, by decide +kernel, rfl, by decide +kernel, by decide +kernel⟩
theorem ok_lenM {f : Addr} {fd : FuncData} (F : Fun K "__len__" "Word.__len__" sLenM f fd) (T : TxW K mg C) (hlen : mg "len" = none) : FnOk P w K mg base CX0 1 f fd ["self"] (spLenM K C) := by
  refine F.ok scLenM (fun vs H Q E h => ?_) (fun cdv A outer s H vs Q E hr h => ?_)
  · obtain ⟨p, ns, rfl, _⟩ := h
    rfl
  · obtain ⟨p, ns, rfl, hW, k⟩ := h
    refine ⟨_, pss_one (ps_ret (pe_callB call_len_seq (by rfl) hlen PySem.boot_len (pa_cons (pe_fld (pv 0) rfl) pa_nil))), ?_⟩
    obtain ⟨dx, tl, tk, ks, w1, w2, _⟩ := id hW
    refine ⟨_, rfl, p, C, dx, _, _, rfl, w1, T.cl, T.nL, wf_letters, tl, _, rfl, .inr w2.sq, ?_⟩
    rw [List.length_map]
    exact k
theorem scStrM : FnScope ["self", "letter"] ["self"] (defScope sStrM) := ⟨rfl, rfl, rfl, by decide +kernel, rfl, by decide +kernel, by decide +kernel⟩
theorem ok_strM {f : Addr} {fd : FuncData} (F : Fun K "__str__" "Word.__str__" sStrM f fd) (T : TxW K mg C) (GT : Cal P w K mg base "letter_text" 1 ["letter"] spLText) : FnOk P w K mg base CX0 2 f fd ["self"] (spStrM K C) := by
  refine F.ok scStrM (fun vs H Q E h => ?_) (fun cdv A outer s H vs Q E hr h => ?_)
  · obtain ⟨p, ns, rfl, _⟩ := h
    rfl
  · obtain ⟨p, ns, rfl, hW, ln, hl, k⟩ := h
    refine ⟨_, pss_cons (ps_if (pt_not (pt_truth (pe_fld (pv 0) rfl) (by intro _; rfl))) (pss_one (ps_ret pe_str)) pss_nil)
      (pss_one (ps_ret (pe_join pe_str (pe_lc (own := [("letter", 1)]) (g := gName 1) (tt := tYes) rfl scStrM.nd (pi_tup (pe_fld (pv 0) rfl)) (blkOk_by (N := ["self", "letter"]) (sc := defScope sStrM) (by decide +kernel)) (fun _ _ _ _ _ => pg_name (i := 1) scStrM.nd rfl (Or.inl rfl)) (fun _ _ _ _ _ => pts_nil)
        (fun _ _ _ _ _ => pe_cal GT hr (by decide) (by rfl) (pa_cons (pv 1) pa_nil)))))), ?_⟩
    obtain ⟨dx, tl, tk, ks, w1, w2, _⟩ := id hW
    refine ⟨_, rfl, p, C, dx, _, _, rfl, w1, T.cl, T.nL, wf_letters, _, .inr (.inl ⟨_, w2.sq, rfl⟩), ?_⟩
    by_cases h0 : ns = []
    · subst h0
      refine iteT ?_
      exact k H (Same.refl _)
    · have he : (iv ns).isEmpty = false := by
        cases ns with
        | nil => exact absurd rfl h0
        | cons => rfl
      rw [he]
      refine iteF ?_
      refine ⟨⟨_, rfl⟩, lc_in ?_⟩
      refine ⟨_, rfl, p, C, dx, _, _, rfl, w1, T.cl, T.nL, wf_letters, tl, rfl, ⟨_, w2.sq⟩, ?_⟩
      refine lcp (walk_tup (K := K) (a := tl) (xs := iv ns)) (fun _ => true) (fun x => match x with | .int i => .str (itm i) | _ => .non) (by rw [List.length_map]; omega) (fun H3 s3 => WR.Same.seqT s3 w2.sq) ?_ ?_
      · intro x hx H3 s3 Qy Qn ky kn
        obtain ⟨i, hi, rfl⟩ := List.mem_map.mp hx
        obtain ⟨i1, i2⟩ := hl i hi
        refine ⟨rfl, yes_te ?_⟩
        exact ⟨_, rfl, i, rfl, i1, i2, ky rfl H3 (Same.refl _)⟩
      · intro D H3 hD s3 h3
        have e : (((iv ns).filter fun _ => true).map fun x => match x with | .int i => V.str (itm i) | _ => .non) = (ns.map itm).map V.str := by
          rw [List.filter_eq_self.mpr (fun _ _ => rfl)]
          simp [iv, Function.comp_def]
        rw [e] at h3
        refine ⟨_, D, ns.map itm, rfl, rfl, .inl (SqL.of h3), ?_, ?_⟩
        · have hs : ∀ ms : List Int, ((ms.map itm).map (·.length)).sum ≤ 2 * ms.length := by
            intro ms
            induction ms with
            | nil => exact Nat.zero_le _
            | cons a r ih =>
              have := itm_len a
              simp only [List.map_cons, List.sum_cons, List.length_cons]
              omega
          have h1 := hs ns
          have h2 : (ns.map itm).length = ns.length := List.length_map ..
          rw [h2]
          show _ + ns.length * 1 ≤ _
          omega
        · have et : txt ns = Txt.join (Str.ofString " ") (ns.map itm) := by
            unfold txt
            rw [if_neg h0, space_eq]
          have := k H3 s3
          rw [et] at this
          exact this
theorem scManyM : FnScope ["self", "letter"] ["self", "letter"] (defScope sManyM) := ⟨rfl, rfl, rfl, by decide +kernel, rfl, by decide +kernel, by decide +kernel⟩
theorem ok_manyM {f : Addr} {fd : FuncData} (F : Fun K "many_of" "Word.many_of" sManyM f fd) (T : TxW K mg C) (GN : Cal P w K mg base "need_letter" 4 ["value"] spNeedL) : FnOk P w K mg base CX0 5 f fd ["self", "letter"] (spManyM K C) := by
  refine F.ok scManyM (fun vs H Q E h => ?_) (fun cdv A outer s H vs Q E hr h => ?_)
  · obtain ⟨p, i, ns, rfl, _⟩ := h
    rfl
  · obtain ⟨p, i, ns, rfl, hW, i1, i2, k⟩ := h
    refine ⟨_, pss_cons (ps_expr (pe_cal GN hr (by decide) (by rfl) (pa_cons (pv 1) pa_nil))) (pss_one (ps_ret (pe_mG (tyB_ok (K := K) rfl) PySem.F.plainAttrs_tuple PySem.F.slot_tuple_count PySem.F.type_tuple_count (mt_tcount (K := K) rfl) (pe_fld (pv 0) rfl) (pa_cons (pv 1) pa_nil)))), ?_⟩
    obtain ⟨dx, tl, tk, ks, w1, w2, _⟩ := id hW
    exact ⟨_, rfl, i, rfl, i1, i2, _, rfl, p, C, dx, _, _, rfl, w1, T.cl, T.nL, wf_letters, ⟨tl, _, rfl, w2⟩, _, rfl, tl, ns, i, rfl, rfl, w2.sq, k⟩
theorem scTold : FnScope ["text", "items"] ["text"] (defScope sTold) := ⟨rfl, rfl, rfl, by decide +kernel, rfl, by decide +kernel, by decide +kernel⟩
theorem ok_told {f : Addr} {fd : FuncData} (F : Fun K "items_told" "items_told" sTold f fd) (GI : Cal P w K mg base "items_of" 1 ["text"] spItems) (hlen : mg "len" = none) : FnOk P w K mg base CX0 2 f fd ["text"] spTold := by
  refine F.ok scTold (fun vs H Q E h => ?_) (fun cdv A outer s H vs Q E hr h => ?_)
  · obtain ⟨ns, rfl, _⟩ := h
    rfl
  · obtain ⟨ns, rfl, hl, ln, k⟩ := h
    refine ⟨_, pss_cons (ps_set (i := 1) scTold.nd rfl (Or.inl rfl) (pe_cal GI hr (by decide) (by rfl) (pa_cons (pv 0) pa_nil)))
      (pss_cons (ps_if (pt_cmpR op_ne (pe_ix ix_list (pv 1) pe_int (fun _ _ => rfl)) pe_str (nomark _)) (pss_one (ps_ret (pv 1))) pss_nil)
      (pss_cons (ps_if (pt_cmpR op_gt (pe_callB call_len_seq (by rfl) hlen PySem.boot_len (pa_cons (pv 1) pa_nil)) pe_int (nomark _)) (pss_one ps_never) pss_nil)
      (pss_one (ps_ret (pe_lst pa_nil))))), ?_⟩
    refine ⟨_, rfl, ns, rfl, hl, ln, fun p H1 hp0 s1 h1 => ?_⟩
    refine at_set ?_
    try dsimp only
    by_cases h0 : ns = []
    · subst h0
      rw [if_pos rfl] at h1
      refine ⟨_, rfl, p, _, _, _, rfl, rfl, SqL.of h1, atI_nat (j := 0) rfl, rfl, _, rfl, ?_⟩
      refine iteF' (by rw [dash_eq]; decide +kernel) ?_
      refine ⟨_, rfl, p, _, rfl, .inl (SqL.of h1), _, _, rfl, rfl, _, rfl, iteF' (by decide) ?_⟩
      exact ⟨Nat.zero_le _, fun q hq => k q _ (s1.free hq) (s1.trans (same_upd hq)) upd_same⟩
    · rw [if_neg h0] at h1
      cases ns with
      | nil => exact absurd rfl h0
      | cons a r =>
        obtain ⟨a1, a2⟩ := hl a List.mem_cons_self
        refine ⟨_, rfl, p, _, _, _, rfl, rfl, SqL.of h1, atI_nat (j := 0) rfl, rfl, _, rfl, ?_⟩
        refine iteT' ?_ ⟨_, rfl, k p H1 hp0 s1 h1⟩
        rw [dash_eq]
        have hd := itm_dash a1 a2
        have : ¬ (V.str (itm a) = V.str ⟨#[45]⟩) := fun q => hd (by injection q)
        simp [this]
theorem scReadM : FnScope ["text", "letters", "at", "letter", "item"] ["text"] (defScope sReadM) := ⟨rfl, rfl, rfl, by decide +kernel, rfl, by decide +kernel, by decide +kernel⟩
theorem ok_readM {f : Addr} {fd : FuncData} (F : Fun K "read" "Word.read" sReadM f fd) (T : TxW K mg C) (M : MkW P w K mg base C) (GT : Cal P w K mg base "items_told" 2 ["text"] spTold) (GL : Cal P w K mg base "letter_of" 1 ["item"] spLOf) (henum : mg "enumerate" = none) : FnOk P w K mg base CX0 6 f fd ["text"] (spReadM K C) := by
  refine F.ok scReadM (fun vs H Q E h => ?_) (fun cdv A outer s H vs Q E hr h => ?_)
  · obtain ⟨ns, rfl, _⟩ := h
    rfl
  · obtain ⟨ns, rfl, hl, ln, k⟩ := h
    obtain ⟨tk, mL⟩ := T.most
    refine ⟨_, pss_cons (ps_setLc (i := 1) (own := [("item", 4)]) (g := gName 4) (tt := tYes) rfl scReadM.nd rfl rfl (sw_true rfl rfl rfl (by decide +kernel)) (pi_list (pe_cal GT hr (by decide) (by rfl) (pa_cons (pv 0) pa_nil))) (blkOk_by (N := ["text", "letters", "at", "letter", "item"]) (sc := defScope sReadM) (by decide +kernel)) (fun _ _ _ _ _ => pg_name (i := 4) scReadM.nd rfl (Or.inl rfl)) (fun _ _ _ _ _ => pts_nil)
        (fun _ _ _ _ _ => pe_cal GL hr (by decide) (by rfl) (pa_cons (pv 4) pa_nil)))
      (pss_cons (ps_for PassesOwn.never rfl (pi_enum (by rfl) henum (pa_cons (pv 1) pa_nil)) (pg_tup (n := 2) rfl (pgs_cons (pg_name (i := 2) scReadM.nd rfl (Or.inl rfl)) (pgs_cons (pg_name (i := 3) scReadM.nd rfl (Or.inl rfl)) pgs_nil)))
        (pss_one (ps_if (PW.pt (pw_or (pt_cmpR op_isN (pv 3) pe_non (nomark _)) (pw_or1 (pt_cmpR op_eq (pv 2) (pe_glob (v := .int 500) (by rfl) mL ⟨_, rfl⟩) (nomark _))))) (pss_one ps_never) pss_nil)))
      (pss_one (ps_ret (pe_word M T hr (by decide) (by rfl) (pa_cons (pv 1) pa_nil))))), ?_⟩
    refine as_lc ?_
    refine ⟨_, rfl, ns, rfl, hl, ln, fun p H1 hp0 s1 h1 => ?_⟩
    refine ⟨p, rfl, ⟨_, SqL.of h1⟩, ?_⟩
    refine lcM (walk_list (K := K) (a := p) (xs := (ns.map itm).map V.str)) ns (fun _ _ v b => v = V.int b) (fun _ _ _ _ _ h _ => h) (fun _ _ _ _ _ _ _ h => h) (by rw [List.length_map, List.length_map]; omega) (by rw [List.length_map, List.length_map]) (fun H2 s2 => SqL.of (s2 _ _ h1)) ?_ (fun x σ1 H A B k h => gName_mono k h) ?_
    · intro i x b hx hb D H2 hD hus s2 Qy ky
      rw [List.getElem?_map, List.getElem?_map, hb] at hx
      obtain rfl := Option.some.inj hx
      obtain ⟨b1, b2⟩ := hl b (List.mem_of_getElem? hb)
      refine ⟨rfl, ?_⟩
      exact ⟨_, rfl, b, rfl, b1, b2, ky _ _ (Same.refl _) rfl⟩
    intro D H2 ws hD s2 h2 r2
    have ews : ws = iv ns := all_iv r2
    rw [ews] at h2
    refine at_set ?_
    try dsimp only
    refine ⟨_, rfl, D, _, rfl, SqL.of h2, ?_⟩
    refine for_it (walk_enum (K := K) (a := D) (xs := iv ns)) (fun i σ H' => ∃ v2 v3 : Option V, σ = [some (.str (txt ns)), some (.ref D), v2, v3, none] ∧ Same H2 H') ⟨none, none, rfl, Same.refl _⟩ (fun i σ H' _ ⟨_, _, _, s⟩ => SqL.of (s _ _ h2)) ?_ ?_
    · rintro i x σ H3 H4 hi ⟨v2, v3, rfl, sm⟩ ⟨T0, xi, yi, rfl, hT0, rfl, hx, hy⟩
      have hin : i < ns.length := by rw [List.length_map] at hi; exact hi
      obtain rfl := Option.some.inj hx
      have ey : yi = V.int ns[i] := by
        have hy : (iv ns)[i]? = some yi := hy
        rw [List.getElem?_map, List.getElem?_eq_getElem hin] at hy
        exact (Option.some.inj hy).symm
      subst ey
      refine ⟨T0, _, rfl, SqT.of upd_same, rfl, _, _, rfl, _, _, rfl, rfl, ?_⟩
      refine ⟨_, rfl, rfl, _, rfl, iteF' (decide_eq_false (fun z => nomatch z)) ?_⟩
      refine ⟨_, rfl, rfl, _, rfl, iteF' (decide_eq_false (fun z => ?_)) ?_⟩
      · injection z with z
        omega
      · exact ⟨_, _, rfl, sm.trans (same_upd hT0)⟩
    · rintro σ H3 ⟨v2, v3, rfl, sm⟩
      refine ⟨_, rfl, fun x dx nx ndx _ => make_at nx ndx (.inl (SqL.of (sm _ _ h2))) ln hl fun H4 s4 W4 => ?_⟩
      exact k x H4 (((s1.trans s2).trans sm).trans s4) W4
end

end W04
set_option Elab.async false
set_option linter.all false
set_option maxRecDepth 100000
set_option maxHeartbeats 1000000
namespace W04
open PySem L2 PySem.Spec PyProof.Rows WR WB
/-! ### o.m(k = v, ..) -/
structure MethK (P : Program) (w : World) (K : PySem.W.Frag) (mg : Str → Option Value) (base : Heap) (C : Addr) (m : Str) (ps ks : List Str) (sp : Sp) : Prop where
  ex : ∃ (f : Addr) (fd : FuncData), Meth K C m f ∧ FnOk P w K mg base CX0 6 f fd ps sp ∧ KBn K fd ps 1 ks (fun us ws => us ++ ws) (fun vs zs => vs ++ zs)
def tMethK (C : Addr) (m : Str) (sp : Sp) (n : Nat) (ta : TE) (tk : TA) : TE := fun σ H Q => ta σ H fun x H1 => ∃ a dx fs, x = .ref a ∧ H1 a = some (.ins C dx fs) ∧ fs.lookup m = none ∧ tk σ H1 fun zs H2 => zs.length = n ∧ sp (x :: zs) H2 Q E0
section
variable {X : Cx} {C : Addr} {o : Expr} {kws : List Keyword} {ta : TE} {tk : TA} {m : Str} {ps ks : List Str} {sp : Sp} {apos pos : Pos} {j : Nat}
theorem pe_wK {pl : Sem Bool} (M : MethK X.prog X.w X.K X.mg X.base C m ps ks sp) (c : Cls X.K C) (hr : Room j X.A) (hj : 6 ≤ j) (he : PE X o ta) (hkw : PK X kws tk)
    (hall : (backToKw pos (keywordEach kws X.env)).all (·.1.isSome) = true := by rfl) (hks : (backToKw pos (keywordEach kws X.env)).filterMap (·.1) = ks := by rfl)
    (hpl : ((backTo pos (starEach [] X.env)).any (·.1) || (backToKw pos (keywordEach kws X.env)).any (·.1.isNone)) = false := by rfl)
    (ht : eval (.Call (.Attribute o m apos) [] kws pos) X.env = (do
      let ov ← eval o X.env
      standAt apos.atName
      let (f, first) ← holding [ov] (getMethod ov m pl)
      callWith pos f first (backTo pos (starEach [] X.env)) (backToKw pos (keywordEach kws X.env))) := by rfl) :
    PE X (.Call (.Attribute o m apos) [] kws pos) (tMethK C m sp ks.length ta tk) := by
  obtain ⟨f, fd, hm, F, hb⟩ := M.ex
  constructor
  intro pins s σ H Q I h
  refine PySem.W.methodCall_KW (pl := pl) (thn (he.run pins s σ H _ I h) fun u s1 z => ?_) ht
  obtain ⟨x, H1, I1, rx, a, dx, fs, ex, ea, l, q⟩ := z
  subst ex
  obtain rfl : u = Value.ref a := rx
  refine getmeth_ok I1 ea c hm l (PySem.W.callWith_KW0 (first := [.ref a]) (h₀ := X.base) I1.ok.mod.kin hm.kp hall (thn (hkw.run pos pins s1 σ H1 _ I1 q) fun ws s3 y => ?_) hpl)
  obtain ⟨zs, H2, I3, rz, lz, q2⟩ := y
  refine ⟨I3.kIn, ?_⟩
  rw [hks]
  exact run_fnN (us := [.ref a]) (vs := [.ref a]) F (hr.mono hj) hb pass0 I3 (.cons rfl .nil) rz rfl lz q2
end
/-! ### the law's own small defs -/
abbrev sLetters : Stmt := top 40
abbrev sKindsL : Stmt := top 41
abbrev sTextL : Stmt := top 42
abbrev sConL : Stmt := top 43
abbrev sTurnL : Stmt := top 44
abbrev sIs : Stmt := top 45
structure TxX (mg : Str → Option Value) : Prop where
  range : mg "range" = none
  list : mg "list" = none
  len : mg "len" = none
  int : mg "int" = none
  abs : mg "abs" = none
  tuple : mg "tuple" = none
  repr : mg "repr" = none
  sorted : mg "sorted" = none
  set : mg "set" = none
  str : mg "str" = none
def KOk (ks : List Int) : Prop := ∀ k ∈ ks, 1 ≤ k ∧ k ≤ 26
def spLetters : Sp := fun vs H Q _ => ∃ (a c kp : Addr) (m n : Nat) (ks : List Int), vs = [.ref a, .int (m : Int), .ref kp] ∧ HandAt H a c n ∧ kp ≠ a ∧ H kp = some (.lst (iv ks)) ∧ 0 < ks.length ∧ ks.length ≤ 26 ∧ KOk ks ∧ m ≤ 600 ∧ n + 2 * m ≤ 9000 ∧
  ∀ p H' ls, H p = none → Drew a c (n + 2 * m) H H' → H' p = some (.lst (iv ls)) → ls.length = m → Lts ls → Q (.ref p) H'
def spKindsL : Sp := fun vs H Q _ => ∃ (a c : Addr) (n : Nat), vs = [.ref a] ∧ HandAt H a c n ∧ n ≤ 9000 ∧
  ∀ p H' ks, H p = none → Drew a c (n + 5) H H' → H' p = some (.lst (iv ks)) → 0 < ks.length → ks.length ≤ 4 → KOk ks → Q (.ref p) H'
def spTextL : Sp := fun vs H Q _ => ∃ (p : Addr) (ns : List Int), vs = [.ref p] ∧ H p = some (.lst (iv ns)) ∧ ns.length ≤ 500 ∧ Lts ns ∧ ∀ H', Same H H' → Q (.str (txt ns)) H'
def spConL : Sp := fun vs H Q _ => ∃ (p : Addr) (ns : List Int), vs = [.ref p] ∧ H p = some (.lst (iv ns)) ∧ ns.length ≤ 1000 ∧ NewL H Q (Fr.con ns)
def spTurnL : Sp := fun vs H Q _ => ∃ (p : Addr) (ns : List Int) (b : Int), vs = [.ref p, .int b] ∧ H p = some (.lst (iv ns)) ∧ ns.length ≤ 1000 ∧ NewL H Q (trn ns b)
def spIs (K : PySem.W.Frag) (C : Addr) : Sp := fun vs H Q _ => ∃ (x l : Addr) (ns : List Int), vs = [.ref x, .ref l] ∧ WordAt K C H x ns ∧ H l = some (.lst (iv ns)) ∧ ns.length ≤ 1000 ∧ ∀ H', Same H H' → Q (.bl true) H'
theorem trn_at {ns : List Int} {b : Int} {t : Nat} (ht : t < ns.length) : (trn ns b).getD t 0 = ns.getD ((t + b) % (ns.length : Int)).toNat 0 := by
  have h0 : ns ≠ [] := fun e => by rw [e] at ht; cases ht
  unfold trn
  rw [if_neg h0]
  have hp : (0 : Int) < (ns.length : Int) := by omega
  have m1 := Int.emod_nonneg b (show (ns.length : Int) ≠ 0 by omega)
  have m2 := Int.emod_lt_of_pos b hp
  rw [Lt.rot_getD (by omega) ht]
  unfold Lt.rd
  congr 1
  have e : ((((b % (ns.length : Int)).toNat + t) % ns.length : Nat) : Int) = (t + b) % (ns.length : Int) := by
    rw [Int.natCast_emod, Int.natCast_add, Int.toNat_of_nonneg m1, Int.emod_add_emod, Int.add_comm]
  omega
section
variable {P : Program} {w : World} {K : PySem.W.Frag} {mg : Str → Option Value} {base : Heap} {C : Addr}
abbrev nLetters : List Str := ["_law_jar_here", "_law_many", "_law_kinds_here", "_law_found", "_law_turn", "_law_kind"]
theorem scLetters : FnScope nLetters ["_law_jar_here", "_law_many", "_law_kinds_here"] (defScope sLetters) := ⟨rfl, rfl, rfl, by decide +kernel, rfl, by decide +kernel, by decide +kernel⟩
theorem ok_letters {f : Addr} {fd : FuncData} (F : Fun K "_law_letters" "_law_letters" sLetters f fd) (N : TxX mg) (GT : Cal P w K mg base "_law_draw" 1 ["_law_jar_here", "_law_many"] spTake) (GP : Cal P w K mg base "_law_pick" 2 ["_law_jar_here", "_law_some"] spPick) : FnOk P w K mg base CX0 3 f fd ["_law_jar_here", "_law_many", "_law_kinds_here"] spLetters := by
  refine F.ok scLetters (fun vs H Q E h => ?_) (fun cdv A outer s H vs Q E hr h => ?_)
  · obtain ⟨a, c, kp, m, n, ks, rfl, _⟩ := h
    rfl
  · obtain ⟨a, c, kp, m, n, ks, rfl, hH, hka, hk, k0, k26, hko, hm, hn, kq⟩ := h
    refine ⟨_, pss_cons (ps_set (i := 3) scLetters.nd rfl (Or.inl rfl) (pe_lst pa_nil))
      (pss_cons (ps_for PassesOwn.never rfl (pi_range1 (by rfl) N.range (pa_cons (pv 1) pa_nil)) (pg_name (i := 4) scLetters.nd rfl (Or.inl rfl))
        (pss_cons (ps_set (i := 5) scLetters.nd rfl (Or.inl rfl) (pe_cal GP hr (by decide) (by rfl) (pa_cons (pv 0) (pa_cons (pv 2) pa_nil))))
        (pss_one (ps_expr (pe_bm PySem.F.plainAttrs_list PySem.F.slot_list_append PySem.F.type_list_append mt_append (pv 3) (pa_cons (pe_ifExp (pt_cmpR op_eq (pe_cal GT hr (by decide) (by rfl) (pa_cons (pv 0) (pa_cons pe_int pa_nil))) pe_int (nomark _)) (pv 5) (pe_un un_neg (pv 5))) pa_nil))))))
      (pss_one (ps_ret (pv 3)))), ?_⟩
    refine ⟨Nat.zero_le _, fun l hl => ?_⟩
    have hla := hH.ne hl
    have hlc := hH.neC hl
    have nkl : kp ≠ l := ne_of_none hk hl
    refine ⟨_, rfl, m, rfl, by omega, by omega, ?_⟩
    have em : (((m : Nat) : Int)).toNat = m := Int.toNat_natCast m
    refine for_range (lo := 0) (n := (((m : Nat) : Int)).toNat) (fun i σ H' => ∃ v1 v2 ls, σ = [some (.ref a), some (.int (m : Int)), some (.ref kp), some (.ref l), v1, v2] ∧ Drew a c (n + 2 * i) H H' ∧ H' l = some (.lst (iv ls)) ∧ ls.length = i ∧ Lts ls)
      ⟨none, none, [], rfl, (Drew.refl hH).new hl, by rw [upd_same]; rfl, rfl, fun _ h => nomatch h⟩ ?_ ?_
    · rintro i σ H1 hi ⟨v1, v2, ls, rfl, d1, hL, hlen, hls⟩
      rw [em] at hi
      have hk1 := d1.2 _ _ hka hk
      refine ⟨_, rfl, _, rfl, a, c, kp, iv ks, n + 2 * i, rfl, d1.1, by omega, hka, hk1, by rw [List.length_map]; exact k0, by rw [List.length_map]; omega, fun v hv H2 d2 => ?_⟩
      obtain ⟨q, hq, rfl⟩ := List.mem_map.mp hv
      obtain ⟨q1, q2⟩ := hko q hq
      have hL2 := d2.2 _ _ hla hL
      refine at_set ?_
      refine ⟨_, rfl, .inl ⟨rfl, _, SqL.of hL2⟩, _, rfl, a, c, 2, n + 2 * i + 1, rfl, d2.1, by omega, by decide, by decide, fun H3 q' q0' q1' hH3 hK3 => ?_⟩
      have d3 : Drew a c (n + 2 * (i + 1)) H H3 := ⟨hH3, (d1.2.trans d2.2).trans hK3⟩
      have hL3 := hK3 _ _ hla hL2
      refine ⟨rfl, _, rfl, ?_⟩
      refine ite2 (fun _ => ?_) (fun _ => ?_)
      · refine ⟨_, rfl, l, _, _, rfl, rfl, hL3, Evl.sz_lt (by simp; omega), _, _, ls ++ [q], rfl, d3.put hl hla hlc, by rw [upd_same]; simp [iv], by simp [hlen], fun x hx => ?_⟩
        rcases List.mem_append.mp hx with h | h
        · exact hls x h
        · rw [List.mem_singleton.mp h]; omega
      · refine ⟨_, rfl, _, rfl, l, _, _, rfl, rfl, hL3, Evl.sz_lt (by simp; omega), _, _, ls ++ [-q], rfl, d3.put hl hla hlc, by rw [upd_same]; simp [iv], by simp [hlen], fun x hx => ?_⟩
        rcases List.mem_append.mp hx with h | h
        · exact hls x h
        · rw [List.mem_singleton.mp h]; omega
    · rintro σ H1 ⟨v1, v2, ls, rfl, d1, hL, hlen, hls⟩
      rw [em] at d1 hlen
      exact ⟨_, rfl, kq l H1 ls hl d1 hL hlen hls⟩
theorem scKindsL : FnScope ["_law_jar_here", "_law_left", "_law_found", "_law_turn"] ["_law_jar_here"] (defScope sKindsL) := ⟨rfl, rfl, rfl, by decide +kernel, rfl, by decide +kernel, by decide +kernel⟩
theorem ok_kindsL {f : Addr} {fd : FuncData} (F : Fun K "_law_kinds" "_law_kinds" sKindsL f fd) (N : TxX mg) (GT : Cal P w K mg base "_law_draw" 1 ["_law_jar_here", "_law_many"] spTake) : FnOk P w K mg base CX0 2 f fd ["_law_jar_here"] spKindsL := by
  refine F.ok scKindsL (fun vs H Q E h => ?_) (fun cdv A outer s H vs Q E hr h => ?_)
  · obtain ⟨a, c, n, rfl, _⟩ := h
    rfl
  · obtain ⟨a, c, n, rfl, hH, hn, k⟩ := h
    refine ⟨_, pss_cons (ps_par (i := 1) (j := 2) (by rfl) scKindsL.nd rfl rfl (by decide) rfl rfl (pa_cons (pe_listRg rfl (by rfl) N.list (prg_2 (by rfl) N.range pe_int pe_int)) (pa_cons (pe_lst pa_nil) pa_nil)) (by rfl))
      (pss_cons (ps_for PassesOwn.never rfl (pi_range1 (by rfl) N.range (pa_cons (pe_op op_add pe_int (pe_cal GT hr (by decide) (by rfl) (pa_cons (pv 0) (pa_cons pe_int pa_nil)))) pa_nil)) (pg_name (i := 3) scKindsL.nd rfl (Or.inl rfl))
        (pss_one (ps_expr (pe_bm PySem.F.plainAttrs_list PySem.F.slot_list_append PySem.F.type_list_append mt_append (pv 2) (pa_cons (pe_bm PySem.F.plainAttrs_list PySem.F.slot_list_pop PySem.F.type_list_pop mt_popAt (pv 1) (pa_cons (pe_cal GT hr (by decide) (by rfl) (pa_cons (pv 0) (pa_cons (pe_callB call_len_seq (by rfl) N.len PySem.boot_len (pa_cons (pv 1) pa_nil)) pa_nil))) pa_nil)) pa_nil)))))
      (pss_one (ps_ret (pv 2)))), ?_⟩
    refine ⟨1, 27, rfl, rfl, RgOk.of_le (by decide) (by decide) (by decide) (by decide), fun lf hlf => ?_⟩
    have erg : rgV 1 27 = iv ((List.range 26).map fun (i : Nat) => 1 + (i : Int)) := by
      unfold rgV iv
      rw [List.map_map]
      rfl
    have s1 := same_upd (o := .lst (rgV 1 27)) hlf
    have g1 : L2.upd H lf (.lst (rgV 1 27)) lf = some (.lst (iv ((List.range 26).map fun (i : Nat) => 1 + (i : Int)))) := by rw [upd_same, erg]
    obtain ⟨H1, e1⟩ : ∃ H1, H1 = L2.upd H lf (.lst (rgV 1 27)) := ⟨_, rfl⟩
    rw [← e1] at s1 g1 ⊢
    refine ⟨Nat.zero_le _, fun fo hfo => ⟨_, _, rfl, ?_⟩⟩
    have s2 := same_upd (o := .lst []) hfo
    have g2 : L2.upd H1 fo (.lst []) fo = some (.lst []) := upd_same
    have lfo : lf ≠ fo := ne_of_none g1 hfo
    have fo0 : H fo = none := s1.free hfo
    have hla := hH.ne hlf
    have hlc := hH.neC hlf
    have hfa := hH.ne fo0
    have hfc := hH.neC fo0
    have D2 : Drew a c n H (L2.upd H1 fo (.lst [])) := (Drew.refl hH).same (s1.trans s2)
    try dsimp only
    refine ⟨_, rfl, a, c, 4, n, rfl, D2.1, by omega, by decide, by decide, fun H3 q q0 q1 hH3 hK3 => ?_⟩
    obtain ⟨q, rfl⟩ : ∃ q' : Nat, q = (q' : Int) := ⟨q.toNat, by omega⟩
    have D3 : Drew a c (n + 1) H H3 := ⟨hH3, D2.2.trans hK3⟩
    have gl3 := hK3 _ _ hla (s2 _ _ g1)
    have gf3 := hK3 _ _ hfa g2
    refine ⟨_, _, rfl, rfl, 1 + (q : Int), rfl, by omega, by omega, ?_⟩
    have em : (1 + (q : Int)).toNat = 1 + q := by omega
    refine for_range (lo := 0) (n := (1 + (q : Int)).toNat) (fun i σ H' => ∃ (v : Option V) (us ys : List Int), σ = [some (.ref a), some (.ref lf), some (.ref fo), v] ∧ Drew a c (n + 1 + i) H H' ∧ H' lf = some (.lst (iv us)) ∧ H' fo = some (.lst (iv ys)) ∧ us.length + i = 26 ∧ ys.length = i ∧ KOk us ∧ KOk ys)
      ⟨none, _, [], rfl, D3, gl3, gf3, by rw [List.length_map, List.length_range], rfl, fun z hz => ?_, fun _ h => nomatch h⟩ ?_ ?_
    · obtain ⟨i, hi, rfl⟩ := List.mem_map.mp hz
      have := List.mem_range.mp hi
      omega
    · rintro i σ H4 hi ⟨v, us, ys, rfl, d4, hl4, hf4, hlen, hys, hus, hyk⟩
      rw [em] at hi
      refine ⟨_, rfl, .inl ⟨rfl, _, SqL.of hf4⟩, _, rfl, .inl ⟨rfl, _, SqL.of hl4⟩, _, rfl, _, rfl, lf, _, rfl, .inl (SqL.of hl4), a, c, ((us.length : Nat) : Int), n + 1 + i, congrArg (fun z => [V.ref a, V.int z]) (by show (((iv us).length : Nat) : Int) = _; rw [List.length_map]), d4.1, by omega, by omega, ?_, fun H5 j j0 j1 hH5 hK5 => ?_⟩
      · have : (((us.length : Nat) : Int)).natAbs ≤ 26 := by omega
        exact Nat.lt_of_le_of_lt this (by decide)
      have hl5 := hK5 _ _ hla hl4
      have hf5 := hK5 _ _ hfa hf4
      have d5 : Drew a c (n + 1 + (i + 1)) H H5 := ⟨hH5, d4.2.trans hK5⟩
      obtain ⟨j, rfl⟩ : ∃ j' : Nat, j = (j' : Int) := ⟨j.toNat, by omega⟩
      have hjl : j < us.length := by omega
      refine ⟨lf, iv us, (j : Int), j, V.int us[j], rfl, rfl, hl5, by omega, by omega, seq_at (by rw [List.length_map]; exact hjl), iv_get (List.getElem?_eq_getElem hjl), ?_⟩
      have hf6 : L2.upd H5 lf (.lst ((iv us).eraseIdx j)) fo = some (.lst (iv ys)) := by rw [upd_ne lfo.symm]; exact hf5
      refine ⟨fo, iv ys, _, rfl, rfl, hf6, Evl.sz_lt (by rw [List.length_map]; omega), ?_⟩
      refine ⟨_, us.eraseIdx j, ys ++ [us[j]], rfl, (d5.put hlf hla hlc).put fo0 hfa hfc, ?_, ?_, ?_, by rw [List.length_append, hys]; rfl, fun z hz => hus z (List.mem_of_mem_eraseIdx hz), fun z hz => ?_⟩
      · rw [upd_ne lfo, upd_same, erase_iv]
      · rw [upd_same]; simp [iv]
      · rw [List.length_eraseIdx_of_lt hjl]; omega
      · rcases List.mem_append.mp hz with h | h
        · exact hyk z h
        · rw [List.mem_singleton.mp h]
          exact hus _ (List.getElem_mem hjl)
    · rintro σ H4 ⟨v, us, ys, rfl, d4, hl4, hf4, hlen, hys, hus, hyk⟩
      rw [em] at d4 hys
      exact ⟨_, rfl, k fo H4 ys fo0 (d4.mono (by omega)) hf4 (by omega) (by omega) hyk⟩
end
end W04
set_option Elab.async false
set_option linter.all false
set_option maxRecDepth 100000
set_option maxHeartbeats 1000000
namespace W04
open PySem L2 PySem.Spec PyProof.Rows WR WB
theorem strs_nil (ss : List Str) : PyData.eqv (.list (ss.map .str)) (.list []) = decide (ss = []) := by
  cases ss with
  | nil => rfl
  | cons => rfl
theorem dp_strs {K : PySem.W.Frag} {H : Hp} : ∀ ss : List Str, DpAll K H (ss.map V.str) (ss.map PyData.str)
  | [] => .nil
  | s :: r => .cons (.str s) (dp_strs r)
theorem itm_ok {i : Int} (h2 : i.natAbs ≤ 26) : PyData.strOk (itm i) = true := by
  unfold PyData.strOk itm
  split
  · simp
    omega
  · simp
    omega
theorem shaped_strs {ss : List Str} (h : ∀ s ∈ ss, PyData.strOk s = true) : SeqAt.shaped (.list (ss.map .str)) = true := by
  have lay : ∀ ss : List Str, (∀ s ∈ ss, PyData.strOk s = true) → PyData.canLayAll0 (ss.map PyData.str) = true ∧ PyData.depthAll (ss.map PyData.str) = 0 := by
    intro ss
    induction ss with
    | nil => exact fun _ => ⟨rfl, rfl⟩
    | cons p r ih =>
      intro hh
      obtain ⟨h1, h2⟩ := ih fun s hs => hh s (List.mem_cons_of_mem _ hs)
      have h3 := hh p List.mem_cons_self
      exact ⟨by simp [PyData.canLayAll0, PyData.canLay0, h1, h3], by simp [PyData.depthAll, PyData.depth, h2]⟩
  obtain ⟨h1, h2⟩ := lay ss h
  simp [SeqAt.shaped, PyData.canLay0, PyData.depth, h1, h2]
theorem shaped_itms {ns : List Int} (h : Lts ns) : SeqAt.shaped (.list ((ns.map itm).map .str)) = true := shaped_strs fun s hs => by
  obtain ⟨i, hi, rfl⟩ := List.mem_map.mp hs
  exact itm_ok (h i hi).2
theorem str_add_nil (a : Str) : a ++ (Str.ofString "") = a := by
  have : (Str.ofString "") = ⟨#[]⟩ := by decide +kernel
  rw [this]
  cases a with
  | mk cps =>
    show Str.mk (cps ++ #[]) = _
    rw [Array.append_empty]
section
variable {P : Program} {w : World} {K : PySem.W.Frag} {mg : Str → Option Value} {base : Heap} {C : Addr}
theorem scTextL : FnScope ["_law_letters_here", "_law_signs", "_law_items", "_law_letter"] ["_law_letters_here"] (defScope sTextL) := ⟨rfl, rfl, rfl, by decide +kernel, rfl, by decide +kernel, by decide +kernel⟩
theorem ok_textL {f : Addr} {fd : FuncData} (F : Fun K "_law_text" "_law_text" sTextL f fd) (N : TxX mg) : FnOk P w K mg base CX0 1 f fd ["_law_letters_here"] spTextL := by
  refine F.ok scTextL (fun vs H Q E h => ?_) (fun cdv A outer s H vs Q E hr h => ?_)
  · obtain ⟨p, ns, rfl, _⟩ := h
    rfl
  · obtain ⟨p, ns, rfl, hp, ln, hl, k⟩ := h
    refine ⟨_, pss_cons (ps_par (i := 1) (j := 2) (by rfl) scTextL.nd rfl rfl (by decide) rfl rfl (pa_cons pe_str (pa_cons (pe_lst pa_nil) pa_nil)) (by rfl))
      (pss_cons (ps_for PassesOwn.never rfl (pi_list (pv 0)) (pg_name (i := 3) scTextL.nd rfl (Or.inl rfl))
        (pss_one (ps_expr (pe_bm PySem.F.plainAttrs_list PySem.F.slot_list_append PySem.F.type_list_append mt_append (pv 2) (pa_cons (pe_op op_add_str (pe_ix ix_str (pv 1) (pe_op op_sub (pe_callB call_abs (by rfl) N.abs (by decide +kernel) (pa_cons (pv 3) pa_nil)) pe_int) (fun _ _ => rfl)) (pe_ifExp (pt_cmpR op_gt (pv 3) pe_int (nomark _)) pe_str pe_str)) pa_nil)))))
      (pss_one (ps_ret (pe_ifExp (pt_cmpR (op_neD hr.units) (pv 2) (pe_lst pa_nil) (nomark _)) (pe_join pe_str (pv 2)) pe_str)))), ?_⟩
    refine ⟨Nat.zero_le _, fun l hl0 => ⟨_, _, rfl, ?_⟩⟩
    have s1 := same_upd (o := .lst []) hl0
    refine ⟨_, rfl, p, rfl, ⟨_, SqL.of (s1 _ _ hp)⟩, for_list (K := K) (a := p) (xs := iv ns) (fun i σ H' => ∃ v : Option V, σ = [some (.ref p), some (.str alphS), some (.ref l), v] ∧ Same H H' ∧ H' l = some (.lst (((ns.take i).map itm).map V.str)))
      ⟨none, rfl, s1, upd_same⟩ (fun i σ H1 _ ⟨_, _, s, _⟩ => SqL.of (s _ _ hp)) ?_ ?_⟩
    · rintro i y σ H1 hi ⟨v, rfl, sm, hL⟩
      obtain ⟨x, hx, rfl⟩ : ∃ x, ns[i]? = some x ∧ y = V.int x := by
        rw [List.getElem?_map] at hi
        cases e : ns[i]? with
        | none => rw [e] at hi; cases hi
        | some x => rw [e] at hi; exact ⟨x, rfl, (Option.some.inj hi).symm⟩
      have hil : i < ns.length := (List.getElem?_eq_some_iff.mp hx).1
      have ex : ns[i] = x := (List.getElem?_eq_some_iff.mp hx).2
      obtain ⟨i1, i26⟩ := hl x (List.mem_of_getElem? hx)
      have e1 : (if x < 0 then -x else x) - 1 = ((x.natAbs - 1 : Nat) : Int) := by split <;> omega
      have e2 : 97 + (x.natAbs - 1) = 96 + x.natAbs := by omega
      have fin : ∀ z : Str, z = itm x → ∃ l' xs y, V.ref l = .ref l' ∧ [V.str z] = [y] ∧ H1 l' = some (.lst xs) ∧ xs.length < sizeLine ∧ ∃ v : Option V, [some (V.ref p), some (.str alphS), some (.ref l), some (.int x)] = [some (.ref p), some (.str alphS), some (.ref l), v] ∧ Same H (L2.upd H1 l' (.lst (xs ++ [y]))) ∧ L2.upd H1 l' (.lst (xs ++ [y])) l = some (.lst (((ns.take (i + 1)).map itm).map V.str)) := by
        rintro z rfl
        refine ⟨l, _, _, rfl, rfl, hL, Evl.sz_lt (by simp; omega), _, rfl, fun b o e => ?_, ?_⟩
        · rw [upd_ne (ne_of_none e hl0)]
          exact sm _ _ e
        · rw [upd_same, List.take_succ_eq_append_getElem hil, ex]
          simp
      refine ⟨_, rfl, .inl ⟨rfl, _, SqL.of hL⟩, ?_⟩
      refine ⟨_, rfl, _, rfl, x, rfl, _, _, rfl, rfl, _, _, 96 + x.natAbs, rfl, rfl, alph_len, (by rw [e1]; exact atI_nat (by rw [alph_at _ (by omega), e2])), ?_⟩
      refine ⟨_, rfl, _, _, rfl, rfl, _, rfl, ?_⟩
      refine ite2 (fun hp => ?_) (fun hp => ?_)
      · have h0 : 0 < x := by have := of_decide_eq_true hp; omega
        refine ⟨_, _, rfl, rfl, (by show 1 ≤ sizeLine; decide), fin _ ?_⟩
        rw [str_add_nil]
        unfold itm
        rw [if_pos h0]
      · have h0 : ¬ 0 < x := fun z => hp (decide_eq_true (by omega))
        refine ⟨_, _, rfl, rfl, (by show 2 ≤ sizeLine; decide), fin _ ?_⟩
        unfold itm
        rw [if_neg h0, tick_eq]
        rfl
    · rintro σ H1 ⟨v, rfl, sm, hL⟩
      have el : (iv ns).length = ns.length := List.length_map ..
      rw [el, List.take_length] at hL
      refine ⟨_, rfl, Nat.zero_le _, fun q hq => ?_⟩
      have sq := same_upd (o := .lst []) hq
      refine ⟨_, .list [], .lst (SqL.of (sq _ _ hL)) (dp_strs _), .lst (SqL.of upd_same) .nil, shaped_itms hl, by decide, _, rfl, ?_⟩
      rw [strs_nil]
      by_cases h0 : ns = []
      · subst h0
        refine iteF ?_
        exact k _ (sm.trans sq)
      · have : ¬ ns.map itm = [] := fun e => h0 (List.map_eq_nil_iff.mp e)
        rw [decide_eq_false this]
        refine iteT ?_
        refine ⟨⟨_, rfl⟩, _, rfl, _, l, ns.map itm, rfl, rfl, .inl (SqL.of (sq _ _ hL)), ?_, ?_⟩
        · have hs : ∀ ms : List Int, ((ms.map itm).map (·.length)).sum ≤ 2 * ms.length := by
            intro ms
            induction ms with
            | nil => exact Nat.zero_le _
            | cons a r ih =>
              have := itm_len a
              simp only [List.map_cons, List.sum_cons, List.length_cons]
              omega
          have h1 := hs ns
          have h2 : (ns.map itm).length = ns.length := List.length_map ..
          rw [h2]
          show _ + ns.length * 1 ≤ _
          omega
        · have et : txt ns = Txt.join (Str.ofString " ") (ns.map itm) := by
            unfold txt
            rw [if_neg h0, space_eq]
          have := k _ (sm.trans sq)
          rw [et] at this
          exact this
theorem scConL : FnScope ["_law_letters_here", "_law_found", "_law_letter"] ["_law_letters_here"] (defScope sConL) := ⟨rfl, rfl, rfl, by decide +kernel, rfl, by decide +kernel, by decide +kernel⟩
theorem ok_conL {f : Addr} {fd : FuncData} (F : Fun K "_law_contrary" "_law_contrary" sConL f fd) : FnOk P w K mg base CX0 1 f fd ["_law_letters_here"] spConL := by
  refine F.ok scConL (fun vs H Q E h => ?_) (fun cdv A outer s H vs Q E hr h => ?_)
  · obtain ⟨p, ns, rfl, _⟩ := h
    rfl
  · obtain ⟨p, ns, rfl, hp, ln, k⟩ := h
    refine ⟨_, pss_cons (ps_set (i := 1) scConL.nd rfl (Or.inl rfl) (pe_lst pa_nil))
      (pss_cons (ps_for PassesOwn.never rfl (pi_list (pv 0)) (pg_name (i := 2) scConL.nd rfl (Or.inl rfl))
        (pss_one (ps_set (i := 1) scConL.nd rfl (Or.inl rfl) (pe_op op_cat (pe_lst (pa_cons (pe_un un_neg (pv 2)) pa_nil)) (pv 1)))))
      (pss_one (ps_ret (pv 1)))), ?_⟩
    refine ⟨Nat.zero_le _, fun l0 hl0 => ?_⟩
    have s0 := same_upd (o := .lst []) hl0
    refine ⟨_, rfl, p, rfl, ⟨_, SqL.of (s0 _ _ hp)⟩, for_list (K := K) (a := p) (xs := iv ns) (fun i σ H' => ∃ (l : Addr) (v : Option V), σ = [some (.ref p), some (.ref l), v] ∧ H l = none ∧ Same H H' ∧ H' l = some (.lst (iv (Fr.con (ns.take i)))))
      ⟨l0, none, rfl, hl0, s0, upd_same⟩ (fun i σ H1 _ ⟨_, _, _, _, s, _⟩ => SqL.of (s _ _ hp)) ?_ ?_⟩
    · rintro i y σ H1 hi ⟨l, v, rfl, hl, sm, hL⟩
      obtain ⟨x, hx, rfl⟩ : ∃ x, ns[i]? = some x ∧ y = V.int x := by
        rw [List.getElem?_map] at hi
        cases e : ns[i]? with
        | none => rw [e] at hi; cases hi
        | some x => rw [e] at hi; exact ⟨x, rfl, (Option.some.inj hi).symm⟩
      have hil : i < ns.length := (List.getElem?_eq_some_iff.mp hx).1
      have ex : ns[i] = x := (List.getElem?_eq_some_iff.mp hx).2
      refine ⟨_, rfl, _, rfl, by show 1 ≤ sizeLine; decide, fun t ht => ?_⟩
      have st := same_upd (o := .lst [.int (-x)]) ht
      refine ⟨_, rfl, t, l, _, _, rfl, rfl, upd_same, st _ _ hL, Evl.sz_of (by simp only [List.length_map, Fr.con_length, List.length_take, List.length_cons, List.length_nil]; omega), fun q hq => ?_⟩
      refine ⟨q, _, rfl, (sm.trans st).free hq, (sm.trans st).trans (same_upd hq), ?_⟩
      rw [upd_same, List.take_succ_eq_append_getElem hil, ex]
      simp [iv, Fr.con]
    · rintro σ H1 ⟨l, v, rfl, hl, sm, hL⟩
      have el : (iv ns).length = ns.length := List.length_map ..
      rw [el, List.take_length] at hL
      exact ⟨_, rfl, k l H1 hl sm hL⟩
abbrev nTurnL : List Str := ["_law_letters_here", "_law_by", "_law_many", "_law_at"]
theorem scTurnL : FnScope nTurnL ["_law_letters_here", "_law_by"] (defScope sTurnL) := ⟨rfl, rfl, rfl, by decide +kernel, rfl, by decide +kernel, by decide +kernel⟩
theorem ok_turnL {f : Addr} {fd : FuncData} (F : Fun K "_law_turned" "_law_turned" sTurnL f fd) (N : TxX mg) : FnOk P w K mg base CX0 1 f fd ["_law_letters_here", "_law_by"] spTurnL := by
  refine F.ok scTurnL (fun vs H Q E h => ?_) (fun cdv A outer s H vs Q E hr h => ?_)
  · obtain ⟨p, ns, b, rfl, _⟩ := h
    rfl
  · obtain ⟨p, ns, b, rfl, hp, ln, k⟩ := h
    refine ⟨_, pss_cons (ps_set (i := 2) scTurnL.nd rfl (Or.inr rfl) (pe_callB call_len_seq (by rfl) N.len PySem.boot_len (pa_cons (pv 0) pa_nil)))
      (pss_one (ps_ret (pe_lc (own := [("_law_at", 3)]) (g := gName 3) (tt := tYes) rfl scTurnL.nd (pi_range1 (by rfl) N.range (pa_cons (pv 2) pa_nil)) (blkOk_by (N := nTurnL) (sc := defScope sTurnL) (by decide +kernel)) (fun _ _ _ _ _ => pg_name (i := 3) scTurnL.nd rfl (Or.inl rfl)) (fun _ _ _ _ _ => pts_nil)
        (fun _ _ _ _ _ => pe_ix (ixl (K := K) rfl) (pv 0) (pe_op op_modN (pe_callTy call_int1 (by rfl) N.int (by decide +kernel) (pa_cons (pe_op op_add (pv 3) (pv 1)) pa_nil)) (pv 2)) (fun _ _ => rfl))))), ?_⟩
    refine ⟨_, rfl, p, _, rfl, .inl (SqL.of hp), ?_⟩
    have el : ((iv ns).length : Int) = (ns.length : Int) := by rw [List.length_map]
    refine at_set ?_
    try dsimp only
    rw [el]
    refine ret_e (lc_in ?_)
    refine ⟨_, rfl, (ns.length : Int), rfl, by omega, by omega, fun D hD => ?_⟩
    have sD := same_upd (o := .lst []) hD
    refine lc_range (lo := 0) (n := ((ns.length : Nat) : Int).toNat) (fun i H' => Same H H' ∧ H' D = some (.lst (iv ((trn ns b).take i)))) ⟨sD, by rw [upd_same]; rfl⟩ ?_ ?_
    · rintro i H1 hi ⟨sm, hDD⟩
      rw [Int.toNat_natCast] at hi
      have hil : i < ns.length := hi
      have hit : i < (trn ns b).length := by rw [trn_length]; exact hil
      have hpos : (0 : Int) < (ns.length : Int) := by omega
      have m1 := Int.emod_nonneg ((i : Int) + b) (show (ns.length : Int) ≠ 0 by omega)
      have m2 := Int.emod_lt_of_pos ((i : Int) + b) hpos
      have hj : (((i : Int) + b) % (ns.length : Int)).toNat < ns.length := by omega
      have hat := trn_at (ns := ns) (b := b) hil
      rw [List.getD_eq_getElem?_getD, List.getElem?_eq_getElem hit, List.getD_eq_getElem?_getD, List.getElem?_eq_getElem hj] at hat
      have hat : (trn ns b)[i] = ns[(((i : Int) + b) % (ns.length : Int)).toNat] := hat
      have hix : atI (iv ns) (((0 : Int) + (i : Nat) + b).fmod (ns.length : Int)) = some (V.int (trn ns b)[i]) := by
        have e : ((0 : Int) + (i : Nat) + b).fmod (ns.length : Int) = (((((i : Int) + b) % (ns.length : Int)).toNat : Nat) : Int) := by
          rw [Int.zero_add, Int.fmod_eq_emod_of_nonneg _ (by omega)]
          omega
        rw [e, hat]
        exact atI_nat (iv_get (List.getElem?_eq_getElem hj))
      refine ⟨rfl, yes_te ?_⟩
      refine ⟨_, rfl, _, rfl, _, rfl, _, _, rfl, rfl, .inl ⟨_, rfl, _, rfl, _, _, rfl, rfl, by omega, p, iv ns, _, _, rfl, rfl, SqL.of (sm _ _ hp), hix, ?_⟩⟩
      refine ⟨_, hDD, Evl.sz_lt (by rw [List.length_map, List.length_take, trn_length]; omega), fun c o e => ?_, ?_⟩
      · rw [upd_ne (ne_of_none e hD)]
        exact sm _ _ e
      · rw [upd_same, List.take_succ_eq_append_getElem hit]
        unfold iv
        rw [List.map_append]
        rfl
    · rintro H1 ⟨sm, hDD⟩
      rw [Int.toNat_natCast, List.take_of_length_le (by rw [trn_length]; exact Nat.le_refl _)] at hDD
      exact k D H1 hD sm hDD
theorem scIs : FnScope ["_law_word", "_law_letters_here"] ["_law_word", "_law_letters_here"] (defScope sIs) := ⟨rfl, rfl, rfl, by decide +kernel, rfl, by decide +kernel, by decide +kernel⟩
theorem ok_is {f : Addr} {fd : FuncData} (F : Fun K "_law_is" "_law_is" sIs f fd) (T : TxW K mg C) (N : TxX mg) (ML : MStr.Spe P w K mg base C "__len__" 1 (spLenM K C)) : FnOk P w K mg base CX0 4 f fd ["_law_word", "_law_letters_here"] (spIs K C) := by
  refine F.ok scIs (fun vs H Q E h => ?_) (fun cdv A outer s H vs Q E hr h => ?_)
  · obtain ⟨x, l, ns, rfl, _⟩ := h
    rfl
  · obtain ⟨x, l, ns, rfl, hW, hl, ln, k⟩ := h
    refine ⟨_, pss_cons (ps_if (PW.pt (pw_or (pt_not (pt_val (pe_callB call_isi (by rfl) T.isin (by decide +kernel) (pa_cons (pv 0) (pa_cons (pe_glob (v := .ref C) (by rfl) T.mgW rfl) pa_nil)))))
        (pw_or (pt_not (pt_val (pe_callB call_isi (by rfl) T.isin (by decide +kernel) (pa_cons (pe_fld (pv 0) rfl) (pa_cons (pe_bltn (v := .ty "tuple") (by rfl) N.tuple (by decide +kernel) rfl) pa_nil)))))
        (pw_or1 (pt_cmpR (op_neD hr.units) (pe_callTy call_list_of (by rfl) N.list (by decide +kernel) (pa_cons (pe_fld (pv 0) rfl) pa_nil)) (pv 1) (nomark _)))))) (pss_one (ps_ret pe_bl)) pss_nil)
      (pss_one (ps_ret (pe_chain op_eq op_eq (pe_callB (MStr.call_lenO ML hr (by decide)) (by rfl) N.len PySem.boot_len (pa_cons (pv 0) pa_nil)) (pe_fld (pv 0) rfl) (pe_callB call_len_seq (by rfl) N.len PySem.boot_len (pa_cons (pv 1) pa_nil))))), ?_⟩
    obtain ⟨dx, tl, tk, kk, w1, w2, _⟩ := id hW
    refine ⟨_, rfl, _, _, _, _, _, rfl, .own C, hW.tyx T, kit_self C, _, rfl, iteF ?_⟩
    refine ⟨_, rfl, x, C, dx, _, _, rfl, w1, T.cl, T.nL, wf_letters, _, _, _, _, _, rfl, .ty _, SqT.tyx w2.sq, kit_ty (a := "tuple") (b := "tuple") (r := true) (by decide +kernel), _, rfl, iteF ?_⟩
    refine ⟨_, rfl, x, C, dx, _, _, rfl, w1, T.cl, T.nL, wf_letters, tl, _, rfl, .inr w2.sq, fun q hq => ?_⟩
    have sq := same_upd (o := .lst (iv ns)) hq
    refine ⟨_, rfl, _, _, .lst (SqL.of upd_same) (dp_iv _), .lst (SqL.of (sq _ _ hl)) (dp_iv _), PySem.W.ke_shaped_ints _, PySem.W.ke_shaped_ints _, _, rfl, no_ne (by rw [eqvL_ints, decide_eq_true rfl]) ?_⟩
    have hW2 := hW.same sq
    obtain ⟨dx2, tl2, tk2, kk2, v1, v2, _⟩ := id hW2
    refine ⟨_, rfl, x, dx2, _, rfl, v1, x, ns, rfl, hW2, ns.length, rfl, by omega, ?_⟩
    refine ⟨_, rfl, x, C, dx2, _, _, rfl, v1, T.cl, T.nN, wf_length, rfl, _, rfl, iteT' (decide_eq_true rfl) ?_⟩
    refine ⟨_, rfl, l, _, rfl, .inl (SqL.of (sq _ _ hl)), rfl, ?_⟩
    have e : ((iv ns).length : Int) = (ns.length : Int) := by rw [List.length_map]
    rw [e, decide_eq_true rfl]
    exact k _ sq
end
end W04
set_option Elab.async false
set_option linter.all false
set_option maxRecDepth 100000
set_option maxHeartbeats 4000000
/-! set(a list of ints). -/
namespace WS
open PySem PySem.Spec PyProof.Rows L2
section
variable {P : Program} {w : World} {A : Around} {E : Value → Shared → Prop} {s : Shared}
/-- the heap with the new set, and with the walk of the list besides -/
abbrev hSet (w : World) (s : Shared) : Heap := s.heap.push (bareSet w)
abbrev hWalk (w : World) (s : Shared) (l : Addr) : Heap := (hSet w s).push { cls := .type "list_iterator", data := .fields #[.ref l, .int 0 0] }
theorem bare_zero {h : Heap} {a : Addr} {ns : List Int} (e : h.get? a = some (bareSet w)) : SetR w h a (fun j => decide (j ∈ ns.take 0)) 0 := setR_new_at e
/-- what set.__init__ leaves -/
def Filled (w : World) (s : Shared) (ns : List Int) (t : Shared) : Prop :=
  ∃ (g : Heap) (k m : Nat), t = { s with heap := g, toks := k } ∧ SetR w g s.heap.objs.size (fun j => decide (j ∈ ns)) m ∧ m ≤ ns.length ∧ ∀ b o, s.heap.get? b = some o → g.get? b = some o
theorem init_list {l : Addr} {its : Array Value} {ns : List Int} (quiet : A.handled = none) (hl : s.heap.IsList l its) (hit : IntsAre its.toList ns) (few : ns.length + 1 < scanBound) :
    wpAny (model P w) A (Builtin.«set.__init__» ⟨[.ref s.heap.objs.size, .ref l], []⟩) (fun r t => r = .done (.ret .none) ∧ Filled w s ns t) E { s with heap := hSet w s } := by
  have many : its.size = ns.length := by have z := hit.length; rwa [Array.length_toList] at z
  have new : (hSet w s).get? s.heap.objs.size = some (bareSet w) := Heap.get?_push_size _ rfl
  have old : ∀ {b o}, s.heap.get? b = some o → (hSet w s).get? b = some o := fun e => Heap.get?_push_of_some _ e
  have ty : Shared.TypeIs { s with heap := hSet w s } (.ref s.heap.objs.size) "set" := ⟨_, new, rfl⟩
  have hl1 : (hSet w s).IsList l its := hl.push _
  have lo : l < s.heap.objs.size := by obtain ⟨_, e, _⟩ := hl; exact Heap.lt_size e
  have sz : (hSet w s).objs.size = s.heap.objs.size + 1 := Heap.size_push ..
  obtain ⟨⟨c0, d0, x0, o0⟩, at0, cls0, n0, dat0⟩ := id hl1
  simp only at cls0 dat0
  subst cls0 dat0
  have u1 := PySem.F.sub_list_set
  have u2 := PySem.F.sub_list_frozenset
  have u3 : (Value.type "list" == Value.type "dict") = false := rfl
  unfold Builtin.«set.__init__» noKeywords Builtin.Frozenset.updateFrom
  generalize hid : pyIter = it
  wp_walk
  subst hid
  refine wpAny_pyIter_list hl1 (wpAny_bind (wpAny_runValue ?_))
  have off : s.heap.objs.size ∉ [(hSet w s).objs.size, l] := by
    intro m
    rcases List.mem_cons.mp m with m | m
    · exact absurd (m.trans sz) (Nat.ne_of_lt (Nat.lt_succ_self _))
    · exact absurd (List.mem_singleton.mp m).symm (Nat.ne_of_lt lo)
  have apart : l ≠ (hSet w s).objs.size := fun e => absurd (e.trans sz) (Nat.ne_of_lt (Nat.lt_succ_of_lt lo))
  refine set_update_ints (Walks.list (by simpa using quiet) _ l apart its).toS _ off ns many few (fun i v q => ?_) (its.size - 0) 0 { s with heap := hWalk w s l } (by omega) (Nat.zero_le _) ⟨⟨_, Heap.get?_push_size _ rfl, rfl, rfl⟩, hl1.push _⟩ ⟨0, Nat.le_refl 0, bare_zero (Heap.get?_push_of_some _ new)⟩ fun t m mv le S => ?_
  · have lt : i < ns.length := by rw [← many]; exact (Array.getElem?_eq_some_iff.mp q).1
    obtain ⟨k, e⟩ := hit.int_at i v (by rw [Array.getElem?_toList]; exact q)
    rw [List.getD_eq_getElem?_getD, List.getElem?_eq_getElem lt] at e
    exact ⟨_, k, List.getElem?_eq_getElem lt, e⟩
  · obtain ⟨g, q, d, k, z⟩ := t
    obtain rfl : q = s.gens := mv.gens
    obtain rfl : d = s.drawn := mv.drawn
    obtain rfl : z = s.os := mv.os
    refine wpAny_pure (wpAny_pure ⟨rfl, g, k, m, rfl, S, by rw [← many]; exact le, fun b o e => ?_⟩)
    have lb : b < s.heap.objs.size := Heap.lt_size e
    refine mv.heap b o (fun h => ?_) (Heap.get?_push_of_some _ (old e))
    rcases List.mem_cons.mp h with h | h
    · exact absurd h (Nat.ne_of_lt lb)
    · exact absurd ((List.mem_singleton.mp h).trans sz) (Nat.ne_of_lt (Nat.lt_succ_of_lt lb))
/-- set(xs) of a list of ints -/
theorem set_list {l : Addr} {its : Array Value} {ns : List Int} {Q : Value → Shared → Prop} (quiet : A.handled = none) (hl : s.heap.IsList l its) (hit : IntsAre its.toList ns) (few : ns.length + 1 < scanBound)
    (fin : ∀ t, Filled w s ns t → Q (.ref s.heap.objs.size) t) : wpAny (model P w) A (call (.type "set") [.ref l]) Q E s := by
  have F := PySem.F.called_set
  obtain ⟨top, below, mro⟩ := F.mro
  have f1 := F.made; have f2 := F.sub; have f3 := F.notType; have f4 := F.canCreate
  have f5 := PySem.F.typeCall_set_1 (.ref l)
  have new : (hSet w s).get? s.heap.objs.size = some (bareSet w) := Heap.get?_push_size _ rfl
  have ty : Shared.TypeIs { s with heap := hSet w s } (.ref s.heap.objs.size) "set" := ⟨_, new, rfl⟩
  have f6 := F.init.lookup; have f7 := F.init.bind (.ref s.heap.objs.size)
  refine wpAny_call (codeAny_of_tree (show wpAny _ _ (callAny (.type "set") _) _ _ _ from wpAny_pure ⟨Code.quiet_builtin _ (by decide +kernel), codeAny_builtin PySem.F.entry_type_call ?_⟩))
  rw [Around.under_plain (weight_type_call_type "set" [.ref l] []) rfl]
  repeat (any_goals (first | assumption | wp_step))
  refine codeAny_mono (code_set_led1 (.ref l) (E := E) (Q₁ := fun v t => v = .ref s.heap.objs.size ∧ t = { s with heap := hSet w s }) ⟨rfl, rfl⟩) ?_
  rintro (e | fl) t ht
  · exact ht
  cases fl with
  | next => exact ht.elim
  | brk => exact ht.elim
  | cont => exact ht.elim
  | ret v =>
  obtain ⟨rfl, rfl⟩ := ht
  repeat (any_goals (first | assumption | wp_step))
  refine codeAny_mono (codeAny_call_builtin (R := wants (fun v t => v = .none ∧ Filled w s ns t) E) F.init.plain PySem.F.entry_set_init (check_set_init_1 ty ?_)) ?_
  · refine wpAny_mono (init_list (by simpa using quiet) hl hit few) ?_ fun _ _ z => z
    rintro _ t ⟨rfl, z⟩
    exact ⟨rfl, z⟩
  rintro (e | fl) t ht
  · exact ht
  cases fl with
  | next => exact ht.elim
  | brk => exact ht.elim
  | cont => exact ht.elim
  | ret v =>
  obtain ⟨rfl, z⟩ := ht
  repeat (any_goals (first | assumption | wp_step))
  exact fin _ z
end
section
variable {X : Cx}
def rSetLI (K : PySem.W.Frag) (w : World) : List V → Hp → VK → Prop := fun xs H Q => ∃ (p : Addr) (ns : List Int), xs = [.ref p] ∧ SqL K H p (ns.map V.int) ∧ ns.length ≤ 1000 ∧
  ∀ (D : Addr) (L : List Int), H D = none → L.Nodup → (∀ k, k ∈ L ↔ k ∈ ns) → Q (.ref D) (upd H D (SetO w D (fun j => decide (j ∈ ns)) L.length))
theorem call_setLI (hc : X.calm = true) : CallR X (.type "set") (rSetLI X.K X.w) := by
  intro pins s σ H xs us Q I rel ask
  obtain ⟨p, ns, rfl, hs, few, q⟩ := ask
  obtain ⟨u, rfl, ru⟩ := vals1 rel
  cases ru
  obtain ⟨its, rv, pl, hlen⟩ := I.list hs
  refine set_list (ns := ns) (I.ok.hd hc) pl.isList (by simpa using ints_of_vals rv) (by unfold scanBound; omega) fun t ⟨g, k, m, e, S, le, keep⟩ => ?_
  subst e
  have J := I.laid (t' := k) keep (Nat.le_refl _) (setO_new S)
  obtain ⟨o, es, ep, tb, e1, e2, e3, e4, nd, mem, e5, e6, sz, _⟩ := S
  have z := q s.heap.objs.size (es.toList.map keyOf) (I.hok.fresh (Nat.le_refl _)) nd fun k => by rw [← mem k, decide_eq_true_eq]
  rw [List.length_map, Array.length_toList, sz] at z
  exact ⟨.ref _, _, J, rfl, z⟩
end
end WS
set_option Elab.async false
set_option linter.all false
set_option maxRecDepth 100000
set_option maxHeartbeats 1000000
namespace W04
open PySem L2 PySem.Spec PyProof.Rows WR WB
/-! ### a word held against what is no word -/
structure TxO (K : PySem.W.Frag) (C : Addr) : Prop where
  kS : PySem.W.kitOne K (.type "str") (.ref C) = some false
  kT : PySem.W.kitOne K (.type "tuple") (.ref C) = some false
  fS : PySem.W.notFirst K C (.type "str") = true
  fT : PySem.W.notFirst K C (.type "tuple") = true
def Alien (K : PySem.W.Frag) (H : Hp) (x : V) (t : String) : Prop := (t = "str" ∧ ∃ z, x = .str z) ∨ (t = "tuple" ∧ ∃ q xs, x = .ref q ∧ SqT K H q xs)
theorem Alien.ty {K : PySem.W.Frag} {H : Hp} {x : V} {t : String} (h : Alien K H x t) : TyX K H x (.type t) := by
  rcases h with ⟨rfl, z, rfl⟩ | ⟨rfl, q, xs, rfl, h⟩
  · exact .base (.str z)
  · exact SqT.tyx h
def spEqX (K : PySem.W.Frag) (C : Addr) : Sp := fun vs H Q _ => ∃ (p : Addr) (y : V) (t : String) (ns : List Int), vs = [.ref p, y] ∧ WordAt K C H p ns ∧ Alien K H y t ∧ Q (.bl false) H
structure EqX (P : Program) (w : World) (K : PySem.W.Frag) (mg : Str → Option Value) (base : Heap) (C : Addr) : Prop where
  ex : ∃ (f : Addr) (fd : FuncData), FnOk P w K mg base CX0 1 f fd ["self", "other"] (spEqX K C) ∧ PySem.W.findIn K (.ref C) "__eq__" = some (some (.ref f)) ∧ PySem.W.isFn K (.ref f) = true ∧ Binds K fd ["self", "other"] []
section
variable {P : Program} {w : World} {K : PySem.W.Frag} {mg : Str → Option Value} {base : Heap}
theorem ok_eqX {C f : Addr} {fd : FuncData} (F : Fun K "__eq__" "Word.__eq__" sEq f fd) (T : TxW K mg C) (O : TxO K C) : FnOk P w K mg base CX0 1 f fd ["self", "other"] (spEqX K C) := by
  refine F.ok scEq (fun vs H Q E h => ?_) (fun cdv A outer s H vs Q E hr h => ?_)
  · obtain ⟨p, y, t, ns, rfl, _⟩ := h
    rfl
  · obtain ⟨p, y, t, ns, rfl, W1, al, k⟩ := h
    refine ⟨_, pss_one (ps_ret (pe_and (pe_callB call_isi (by rfl) T.isin (by decide +kernel) (pa_cons (pv 1) (pa_cons (pe_glob (v := .ref C) (by rfl) T.mgW rfl) pa_nil)))
      (pe_one (pe_cmpR (op_eqD hr.units) (pe_fld (pv 0) rfl) (pe_fld (pv 1) rfl) (nomark _))))), ?_⟩
    have kk : PySem.W.kitOne K (.type t) (.ref C) = some false := by
      rcases al with ⟨rfl, _⟩ | ⟨rfl, _⟩
      · exact O.kS
      · exact O.kT
    refine ⟨_, rfl, _, _, _, _, _, rfl, .own C, al.ty, kk, _, rfl, ?_⟩
    exact iteF k
end
def rEqX (K : PySem.W.Frag) (C : Addr) : R2 := fun x y H Q => ∃ (p : Addr) (ns : List Int) (t : String), x = .ref p ∧ WordAt K C H p ns ∧ Alien K H y t ∧ Q (.bl false) H
section
variable {X : Cx} {C : Addr}
theorem op_eqX (M : EqX X.prog X.w X.K X.mg X.base C) (O : TxO X.K C) {j : Nat} (hr : Room j X.A) (hj : 1 ≤ j) : OpR X (compareOp .Eq) (rEqX X.K C) := by
  intro pins s σ H x y u v Q I rx ry d
  obtain ⟨f, fd, F, hs, hf, hb⟩ := M.ex
  obtain ⟨a, ns, t, rfl, W1, al, hq⟩ := d
  cases rx
  obtain ⟨dx, tl, tk, ks, ha, _⟩ := id W1
  obtain ⟨mA, J, _⟩ := ins_get I.hok ha
  obtain ⟨od, J, _⟩ := J.look
  obtain ⟨m, hF⟩ := I.fr
  have rm : Room 1 X.A := hr.mono hj
  have ty : PySem.W.Looks (model X.prog X.w) s.heap (typeOf v) (.type t) ∧ PySem.W.notFirst X.K C (.type t) = true := by
    rcases al with ⟨rfl, z, rfl⟩ | ⟨rfl, q, xs, rfl, h⟩
    · obtain ⟨tk, rfl⟩ := ry
      exact ⟨fun A Q E s _ q => wpAny_pure q, O.fS⟩
    · cases ry
      obtain ⟨its, rv, ⟨o, ho, hc, _⟩, _⟩ := I.tuple h
      refine ⟨fun A Q E s k q => wpAny_typeOf_ref (k _ _ ho) ?_, O.fT⟩
      rw [hc]
      exact q
  show wpAny (model X.prog X.w) X.A (richCompare .Eq (.ref a) v) (EP X pins σ Q) X.xe s
  refine PySem.W.cmp_K (op := .Eq) (tb := .type t) rm.units0 hF I.ok.mod.kin J ty.1 ty.2 hs hf ?_
  have hsp : spEqX X.K C [.ref a, y] H (fun v H' => ∃ c, v = .bl c ∧ Q (.bl c) H') E0 := ⟨a, y, t, ns, rfl, W1, al, _, rfl, hq⟩
  have e0 : Env0 X.prog X.w X.K X.mg X.base X.A X.stack s H := I.env0
  have hl := F.len _ _ _ _ hsp
  have r2 : Vals [V.ref a, y] [Value.ref a, v] := .cons rfl (.cons ry .nil)
  refine wpAny_call (codeAny_mono (F.run X.A X.stack s H ⟨[.ref a, v], []⟩ [.ref a, v] [.ref a, y] _ E0 rm e0 (by
    have := hb s [.ref a, v] I.kIn (by simpa using hl)
    simpa using this) r2 hsp) fun r s' hq => ?_)
  cases r with
  | error e => exact pass0 pins σ H s e s' I hq
  | ok fl =>
    cases fl with
    | ret w =>
      obtain ⟨z, H', I', rz, c, ez, q⟩ := I.after hq
      subst ez
      cases rz
      exact ⟨.bl c, H', I', rfl, q⟩
    | next => exact False.elim hq
    | brk => exact False.elim hq
    | cont => exact False.elim hq
end
/-! ### what the properties of a word say -/
theorem rd_at : ∀ {ns : List Int}, Fr.Rd ns ↔ ∀ t, t + 1 < ns.length → ns.getD (t + 1) 0 ≠ -ns.getD t 0
  | [] => by simp [Fr.Rd]
  | a :: r => by
    rw [Fr.rd_cons, rd_at (ns := r)]
    constructor
    · rintro ⟨h1, h2⟩ t ht
      cases t with
      | zero =>
        cases r with
        | nil => simp at ht
        | cons b r =>
          have := h1 b rfl
          simp
          omega
      | succ t =>
        have := h2 t (by simp at ht; omega)
        simpa using this
    · intro h
      refine ⟨fun b hb => ?_, fun t ht => ?_⟩
      · cases r with
        | nil => cases hb
        | cons c r =>
          obtain rfl : c = b := by simpa using hb
          have := h 0 (by simp)
          simp at this
          omega
      · have := h (t + 1) (by simp; omega)
        simpa using this
/-- the places of letters behind their contraries -/
def bads (ns : List Int) (i : Nat) : List Int := ((List.range i).filter fun t => decide (ns.getD (t + 1) 0 = -ns.getD t 0)).map fun (t : Nat) => 1 + (t : Int)
theorem bads_nil {ns : List Int} : bads ns (ns.length - 1) = [] ↔ Fr.Rd ns := by
  unfold bads
  rw [List.map_eq_nil_iff, List.filter_eq_nil_iff, rd_at]
  constructor
  · intro h t ht e
    exact h t (List.mem_range.mpr (by omega)) (decide_eq_true e)
  · intro h t ht e
    exact h t (by have := List.mem_range.mp ht; omega) (of_decide_eq_true e)
theorem bads_succ {ns : List Int} {i : Nat} : bads ns (i + 1) = bads ns i ++ (if ns.getD (i + 1) 0 = -ns.getD i 0 then [1 + (i : Int)] else []) := by
  unfold bads
  rw [List.range_succ, List.filter_append, List.map_append]
  congr 1
  by_cases h : ns.getD (i + 1) 0 = -ns.getD i 0
  · rw [if_pos h, List.filter_cons, if_pos (decide_eq_true h)]
    rfl
  · rw [if_neg h, List.filter_cons, if_neg (fun z => h (of_decide_eq_true z))]
    rfl
theorem bads_len {ns : List Int} {i : Nat} : (bads ns i).length ≤ i := by
  unfold bads
  rw [List.length_map]
  exact Nat.le_trans (List.length_filter_le _ _) (by rw [List.length_range]; exact Nat.le_refl _)
theorem cy_at {ns : List Int} (nz : Fr.NZ ns) : Fr.Cy ns ↔ Fr.Rd ns ∧ (ns.length < 2 ∨ ns.getD 0 0 ≠ -ns.getD (ns.length - 1) 0) := by
  unfold Fr.Cy
  refine and_congr_right fun _ => ?_
  cases ns with
  | nil => simp
  | cons a r =>
    have e : (a :: r).getLast? = some ((a :: r).getD ((a :: r).length - 1) 0) := by
      rw [List.getLast?_eq_getElem?, List.getD_eq_getElem?_getD]
      have : (a :: r).length - 1 < (a :: r).length := by simp
      rw [List.getElem?_eq_getElem this]
      rfl
    have h0 : (a :: r).getD 0 0 = a := rfl
    rw [e, h0]
    constructor
    · intro h
      exact .inr (h a _ rfl rfl)
    · rintro (h | h) x y hx hy
      · cases r with
        | nil =>
          obtain rfl : a = x := by simpa using hx
          obtain rfl : a = y := by simpa using hy
          have := nz a List.mem_cons_self
          omega
        | cons b r =>
          simp only [List.length_cons] at h
          omega
      · obtain rfl : a = x := by simpa using hx
        have : (a :: r).getD ((a :: r).length - 1) 0 = y := Option.some.inj hy
        rw [← this]
        exact h
/-- sorted, with the same members -/
theorem sorted_uniq : ∀ {xs ys : List Int}, xs.Pairwise (· < ·) → ys.Pairwise (· < ·) → (∀ k : Int, k ∈ xs ↔ k ∈ ys) → xs = ys
  | [], [], _, _, _ => rfl
  | [], y :: ys, _, _, h => absurd ((h y).mpr List.mem_cons_self) (by simp)
  | x :: xs, [], _, _, h => absurd ((h x).mp List.mem_cons_self) (by simp)
  | x :: xs, y :: ys, h1, h2, h => by
    obtain ⟨a1, b1⟩ := List.pairwise_cons.mp h1
    obtain ⟨a2, b2⟩ := List.pairwise_cons.mp h2
    have e : x = y := by
      rcases List.mem_cons.mp ((h x).mp List.mem_cons_self) with e | m
      · exact e
      · rcases List.mem_cons.mp ((h y).mpr List.mem_cons_self) with e | m2
        · exact e.symm
        · have := a2 _ m
          have := a1 _ m2
          omega
    subst e
    congr 1
    refine sorted_uniq b1 b2 fun k => ?_
    constructor
    · intro m
      rcases List.mem_cons.mp ((h k).mp (List.mem_cons_of_mem _ m)) with e | m2
      · have := a1 _ m
        omega
      · exact m2
    · intro m
      rcases List.mem_cons.mp ((h k).mpr (List.mem_cons_of_mem _ m)) with e | m2
      · have := a2 _ m
        omega
      · exact m2
theorem SqB.keptL {K : PySem.W.Frag} {H H' : Hp} {l q : Addr} {vs xs : List V} (hl : H l = some (.lst vs)) (d : Kept l H H') (h : SqB K H q xs) : SqB K H' q xs := by
  refine ⟨SqT.keptL hl d h.sq, ?_⟩
  obtain ⟨o, u, e, z⟩ := h.bare
  refine ⟨o, u, d _ _ (fun c => ?_) e, z⟩
  subst c
  rw [hl] at e
  cases e
theorem WordAt.keptL {K : PySem.W.Frag} {C : Addr} {H H' : Hp} {l p : Addr} {vs : List V} {ns : List Int} (hl : H l = some (.lst vs)) (d : Kept l H H') (h : WordAt K C H p ns) : WordAt K C H' p ns := by
  obtain ⟨dx, tl, tk, ks, h1, h2, h3, h4⟩ := h
  refine ⟨dx, tl, tk, ks, d _ _ (fun c => ?_) h1, SqB.keptL hl d h2, SqT.keptL hl d h3, h4⟩
  subst c
  rw [hl] at h1
  cases h1
end W04
set_option Elab.async false
set_option linter.all false
set_option maxRecDepth 100000
set_option maxHeartbeats 1000000
namespace W04
open PySem L2 PySem.Spec PyProof.Rows WR WB
abbrev sKeptR : Stmt := top 46
structure MkWK (P : Program) (w : World) (K : PySem.W.Frag) (mg : Str → Option Value) (base : Heap) (C : Addr) : Prop where
  ex : ∃ (f : Addr) (fd : FuncData), Mk K C f ∧ FnOk P w K mg base CX0 4 f fd ["self", "letters"] (spInit K C) ∧ KBn K fd ["self", "letters"] 1 ["letters"] (fun us ws => us ++ ws) (fun vs zs => vs ++ zs)
/-- a staticmethod of the class C -/
structure SMw (P : Program) (w : World) (K : PySem.W.Frag) (mg : Str → Option Value) (base : Heap) (C : Addr) (m : Str) (ps ks : List Str) (gV : List V → List V) (sp : Sp) : Prop where
  ex : ∃ (mc : Value) (p g : Addr) (fd : FuncData) (gg : List Value → List Value), MStat.SMet K C mc m p g ∧ FnOk P w K mg base CX0 6 g fd ps sp ∧ Binds K fd ps [] ∧ KBn K fd ps 0 ks (fun _ ws => gg ws) (fun _ zs => gV zs)
section
variable {X : Cx} {C : Addr} {o e : Expr} {es : List Expr} {ta tk : TA} {te : TE} {t : TA} {m : Str} {ps ks : List Str} {gV : List V → List V} {sp : Sp} {apos p pos : Pos} {kws : List Keyword} {j : Nat}
theorem pe_mkK (M : MkWK X.prog X.w X.K X.mg X.base C) (T : TxW X.K X.mg C) (hr : Room j X.A) (hkj : 5 ≤ j) (hg : Gl X "Word") (hkw : PK X kws tk)
    (hall : (backToKw pos (keywordEach kws X.env)).all (·.1.isSome) = true := by rfl) (hks : (backToKw pos (keywordEach kws X.env)).filterMap (·.1) = (["letters"] : List Str) := by rfl)
    (hpl : ((backTo pos (starEach [] X.env)).any (·.1) || (backToKw pos (keywordEach kws X.env)).any (·.1.isNone)) = false := by rfl) :
    PE X (.Call (.Name "Word" p) [] kws pos) (tMakeK C 0 1 (spInit X.K C) (fun vs zs => vs ++ zs) E0 tNil tk) := by
  obtain ⟨f, fd, M, F, hb⟩ := M.ex
  exact pe_makeK0 M F (hr.mono hkj) hg T.mgW hb pass0 hkw hall hks (by decide) hpl
theorem pe_sw {pl : Sem Bool} (M : SMw X.prog X.w X.K X.mg X.base C m ps ks gV sp) (hr : Room j X.A) (hj : 6 ≤ j) (he : PE X o te) (ha : PA X (e :: es) t)
    (hst : starEach (e :: es) X.env = (false, eval e X.env) :: starEach es X.env := by rfl) (hpl : (backTo pos (starEach es X.env)).any (·.1) = false := by rfl)
    (ht : eval (.Call (.Attribute o m apos) (e :: es) [] pos) X.env = (do
      let ov ← eval o X.env
      standAt apos.atName
      let (f, first) ← holding [ov] (getMethod ov m pl)
      callWith pos f first (backTo pos (starEach (e :: es) X.env)) (backToKw pos (keywordEach [] X.env))) := by rfl) :
    PE X (.Call (.Attribute o m apos) (e :: es) [] pos) (MStat.tSMeth C sp te t) := by
  obtain ⟨mc, p, g, fd, gg, hm, F, hb, _⟩ := M.ex
  exact MStat.pe_smeth he hm F (hr.mono hj) hb ha hst hpl ht
theorem pe_swK {pl : Sem Bool} (M : SMw X.prog X.w X.K X.mg X.base C m ps ks gV sp) (hr : Room j X.A) (hj : 6 ≤ j) (he : PE X o te) (hkw : PK X kws tk)
    (hall : (backToKw pos (keywordEach kws X.env)).all (·.1.isSome) = true := by rfl) (hks : (backToKw pos (keywordEach kws X.env)).filterMap (·.1) = ks := by rfl)
    (hpl : ((backTo pos (starEach [] X.env)).any (·.1) || (backToKw pos (keywordEach kws X.env)).any (·.1.isNone)) = false := by rfl)
    (ht : eval (.Call (.Attribute o m apos) [] kws pos) X.env = (do
      let ov ← eval o X.env
      standAt apos.atName
      let (f, first) ← holding [ov] (getMethod ov m pl)
      callWith pos f first (backTo pos (starEach [] X.env)) (backToKw pos (keywordEach kws X.env))) := by rfl) :
    PE X (.Call (.Attribute o m apos) [] kws pos) (MStat.tSMethK C sp gV ks.length te tk) := by
  obtain ⟨mc, p, g, fd, gg, hm, F, _, hb⟩ := M.ex
  exact MStat.pe_smethK he hm F (hr.mono hj) hb hkw hall hks hpl ht
end
theorem op_lc {r : R2} {wi : TI} {g : TG} {tt : TT} {te tb : TE} {vs : List Nat} {σ : L2.St} {H : Hp} {Q : VK}
    (h : wi σ H fun J H1 => tLc (fun _ H R => R J H) g tt te vs σ H1 fun x H2 => tb σ H2 fun y H3 => r x y H3 Q) : tOp r (tLc wi g tt te vs) tb σ H Q := h
theorem as_op_lc {r : R2} {wi : TI} {g gg : TG} {tt : TT} {te tb : TE} {vs : List Nat} {D : Ends} {σ : L2.St} {H : Hp}
    (h : wi σ H fun J H1 => tLc (fun _ H R => R J H) g tt te vs σ H1 fun x H2 => tb σ H2 fun y H3 => r x y H3 fun z H4 => gg z σ H4 D.nx) : tAsg (tOp r (tLc wi g tt te vs) tb) gg D σ H := h
theorem nx_op_lc {r : R2} {wi : TI} {g gg : TG} {tt : TT} {te tb : TE} {vs : List Nat} {D : Ends} {σ : L2.St} {H : Hp} {Cc : TS} {b1 b2 : L2.St → Hp → Prop} {rt : VK}
    (h : wi σ H fun J H1 => tLc (fun _ H R => R J H) g tt te vs σ H1 fun x H2 => tb σ H2 fun y H3 => r x y H3 fun z H4 => gg z σ H4 (Cc D)) : tNext { nx := tSeq (tAsg (tOp r (tLc wi g tt te vs) tb) gg) Cc D, rt := rt, bk := b1, ct := b2 } σ H := h
theorem cb3_lc {r1 r2 r3 : List V → Hp → VK → Prop} {wi : TI} {g : TG} {tt : TT} {te : TE} {vs : List Nat} {σ : L2.St} {H : Hp} {Q : VK}
    (h : wi σ H fun J H1 => tLc (fun _ H R => R J H) g tt te vs σ H1 fun y H2 => r3 [y] H2 fun z H3 => r2 [z] H3 fun u H4 => r1 [u] H4 Q) : tCB r1 (tCons (tCB r2 (tCons (tCB r3 (tCons (tLc wi g tt te vs) tNil)) tNil)) tNil) σ H Q := h
theorem lc_h {J : It} {g : TG} {tt : TT} {te : TE} {vs : List Nat} {σ : L2.St} {H : Hp} {Q : VK} (h : tLc (fun _ H R => R J H) g tt te vs σ H Q) : ∀ D, H D = none → ∃ W : Nat → Nat → Hp → Prop, (∃ m, W 0 m (L2.upd H D (.lst []))) ∧ ∀ i m H, W i m H →
  (J.stop i H ∧ Q (.ref D) H) ∨ (J.go i H ∧ ∃ Nx : Hp → Prop, (∀ H', Nx H' → ∃ m', m' < m ∧ W (i + 1) m' H') ∧ ∀ x H', J.yld i H x H' → g x (wipe σ vs) H' fun σ2 H2 => wipe σ2 vs = wipe σ vs ∧ tt σ2 H2 fun b H3 =>
    if b = true then te σ2 H3 fun y H4 => ∃ acc, H4 D = some (.lst acc) ∧ acc.length < sizeLine ∧ Nx (L2.upd H4 D (.lst (acc ++ [y]))) else Nx H3) := h
theorem units65' {j : Nat} {A : Around} (hr : Room j A) (h : 1 ≤ j) : A.units + 40 < cLine := by
  have := units65 hr h
  omega
theorem bools_ok (b c : Bool) : (PyData.list [.bool b, .bool c]).showable = true ∧ (PyData.list [.bool b, .bool c]).hasDict = false ∧ (PyData.list [.bool b, .bool c]).depth ≤ 30 ∧ (PyData.list [.bool b, .bool c]).shown.length ≤ sizeLine := by
  cases b <;> cases c <;> decide +kernel
abbrev tBad (K : PySem.W.Frag) : TT := tTest (tOp rEq (tOp (rIxL K) (tVar 1) (tVar 5)) (tUn (rU fun i => .int (-i)) (tOp (rIxL K) (tVar 1) (tOp (rI0 fun i j => .int (i - j)) (tVar 5) (tC (.int 1))))))
theorem and_val {ta tb : TE} {σ : L2.St} {H : Hp} {Q : VK} (cl rb : Bool) (h1 : ∀ Q' : VK, Q' (.bl cl) H → ta σ H Q') (h2 : cl = true → ∀ Q' : VK, Q' (.bl rb) H → tb σ H Q') (h0 : cl = false → rb = false) (k : Q (.bl rb) H) : tAndV ta tb σ H Q := by
  refine h1 _ ⟨cl, rfl, ?_⟩
  cases cl with
  | true => exact iteT (h2 rfl _ k)
  | false =>
    rw [h0 rfl] at k
    exact iteF k
theorem last_iv {ns : List Int} (h : ns ≠ []) : atI (iv ns) (-1) = some (V.int (ns.getD (ns.length - 1) 0)) := by
  have e : ns = ns.dropLast ++ [ns.getLast h] := (List.dropLast_concat_getLast h).symm
  have g : ns.getD (ns.length - 1) 0 = ns.getLast h := by
    rw [List.getLast_eq_getElem, List.getD_eq_getElem?_getD, List.getElem?_eq_getElem (show ns.length - 1 < ns.length by have := List.length_pos_iff.mpr h; omega)]
    rfl
  rw [g]
  have := atI_last (iv ns.dropLast) (V.int (ns.getLast h))
  have e2 : iv ns.dropLast ++ [V.int (ns.getLast h)] = iv ns := by
    conv => rhs; rw [e]
    unfold iv
    rw [List.map_append]
    rfl
  rw [e2] at this
  exact this
theorem first_iv {ns : List Int} (h : ns ≠ []) : atI (iv ns) 0 = some (V.int (ns.getD 0 0)) := by
  cases ns with
  | nil => exact absurd rfl h
  | cons a r => exact atI_nat (j := 0) rfl
def spKeptR : Sp := fun vs H Q _ => ∃ (a c p : Addr) (ns : List Int) (n : Nat), vs = [.ref a, .ref p] ∧ HandAt H a c n ∧ p ≠ a ∧ H p = some (.lst (iv ns)) ∧ ns.length ≤ 90 ∧ Lts ns ∧ n ≤ 5000 ∧ ∀ H', Drew a c (n + 2) H H' → Q (.bl true) H'
abbrev nKeptR : List Str := ["_law_jar_here", "_law_letters_here", "_law_told", "_law_many", "_law_word", "_law_at", "_law_close", "_law_text_here", "_law_other", "_law_letter"]
/-- what the word's promises tell the law -/
structure AllW (P : Program) (w : World) (K : PySem.W.Frag) (mg : Str → Option Value) (base : Heap) (C : Addr) : Prop where
  mkw : MkW P w K mg base C
  mkK : MkWK P w K mg base C
  eq : EqW P w K mg base C
  eqx : EqX P w K mg base C
  ne : PySem.W.findIn K (.ref C) "__ne__" = some (some (.builtin "object.__ne__"))
  odd : TxO K C
  str : MStr.Spe P w K mg base C "__str__" 2 (spStrM K C)
  read : SMw P w K mg base C "read" ["text"] ["text"] id (spReadM K C)
structure LawC (P : Program) (w : World) (K : PySem.W.Frag) (mg : Str → Option Value) (base : Heap) (C : Addr) : Prop where
  draw : Cal P w K mg base "_law_draw" 1 ["_law_jar_here", "_law_many"] spTake
  pick : Cal P w K mg base "_law_pick" 2 ["_law_jar_here", "_law_some"] spPick
  is : Cal P w K mg base "_law_is" 4 ["_law_word", "_law_letters_here"] (spIs K C)
  text : Cal P w K mg base "_law_text" 1 ["_law_letters_here"] spTextL
section
variable {P : Program} {w : World} {K : PySem.W.Frag} {mg : Str → Option Value} {base : Heap} {C : Addr}
theorem scKeptR : FnScope nKeptR ["_law_jar_here", "_law_letters_here"] (defScope sKeptR) := ⟨rfl, rfl, rfl, by decide +kernel, rfl, by decide +kernel, by decide +kernel⟩
theorem ok_keptR {f : Addr} {fd : FuncData} (F : Fun K "_law_kept_right" "_law_kept_right" sKeptR f fd) (T : TxW K mg C) (N : TxX mg) (W : AllW P w K mg base C) (L : LawC P w K mg base C) : RG.FnG P w K mg base 8 f fd ["_law_jar_here", "_law_letters_here"] spKeptR := by
  refine RG.Fun.okG F scKeptR (fun vs H Q E h => ?_) (fun cdv A outer s H vs Q E hg hr h => ?_)
  · obtain ⟨a, c, p, ns, n, rfl, _⟩ := h
    rfl
  · obtain ⟨a, c, p, ns, n, rfl, hH, hpa, hp, ln, hl, hn, k⟩ := h
    refine ⟨_, pss_cons (ps_par (i := 2) (j := 3) (by rfl) scKeptR.nd rfl rfl (by decide) rfl rfl (pa_cons (pe_callTy call_list_of (by rfl) N.list (by decide +kernel) (pa_cons (pv 1) pa_nil)) (pa_cons (pe_callB call_len_seq (by rfl) N.len PySem.boot_len (pa_cons (pv 1) pa_nil)) pa_nil)) (by rfl))
      (pss_cons (ps_set (i := 4) scKeptR.nd rfl (Or.inl rfl) (pe_mkK W.mkK T hr (by decide) (by rfl) (pk_cons (pv 2) pk_nil)))
      (pss_cons (ps_expr (pe_bm PySem.F.plainAttrs_list PySem.F.slot_list_append PySem.F.type_list_append mt_append (pv 2) (pa_cons pe_int pa_nil)))
      (pss_cons (ps_if (PW.pt (pw_or (pt_not (pt_val (pe_cal L.is hr (by decide) (by rfl) (pa_cons (pv 4) (pa_cons (pv 1) pa_nil)))))
          (pw_or1 (pt_not (pt_val (pe_cal L.is hr (by decide) (by rfl) (pa_cons (pe_word W.mkw T hr (by decide) (by rfl) (pa_cons (pe_callTy call_tupB (by rfl) N.tuple (by decide +kernel) (pa_cons (pv 1) pa_nil)) pa_nil)) (pa_cons (pv 1) pa_nil)))))))) (pss_one (ps_ret pe_bl)) pss_nil)
      (pss_cons (ps_set (i := 6) scKeptR.nd rfl (Or.inl rfl) (pe_cmpR (op_eqD hr.units) (pe_lc (own := [("_law_at", 5)]) (g := gName 5) (tt := tBad K) rfl scKeptR.nd (pi_range2 (by rfl) N.range (pa_cons pe_int (pa_cons (pv 3) pa_nil)))
          (blkOk_by (N := nKeptR) (sc := defScope sKeptR) (by decide +kernel)) (fun _ _ _ _ _ => pg_name (i := 5) scKeptR.nd rfl (Or.inl rfl)) (fun _ _ _ _ _ => pts_one (pt_cmpR op_eq (pe_ix (ixl (K := K) rfl) (pv 1) (pv 5) (fun _ _ => rfl)) (pe_un un_neg (pe_ix (ixl (K := K) rfl) (pv 1) (pe_op op_sub (pv 5) pe_int) (fun _ _ => rfl))) (nomark _))) (fun _ _ _ _ _ => pv 5)) (pe_lst pa_nil) (nomark _)))
      (pss_cons (ps_if (pt_cmpR op_ne (pe_callB (RG.call_repr hg (units65' hr (by decide))) (by rfl) N.repr (by decide +kernel) (pa_cons (pe_lst (pa_cons (pe_fld (pv 4) rfl) (pa_cons (pe_fld (pv 4) rfl) pa_nil))) pa_nil))
          (pe_callB (RG.call_repr hg (units65' hr (by decide))) (by rfl) N.repr (by decide +kernel) (pa_cons (pe_lst (pa_cons (pv 6) (pa_cons (pe_and (pv 6) (pe_one (pe_or (pe_cmpR op_lt (pv 3) pe_int (nomark _)) (pe_one (pe_cmpR op_ne (pe_ix ix_list (pv 1) pe_int (fun _ _ => rfl)) (pe_un un_neg (pe_ix ix_list (pv 1) (pe_un un_neg pe_int) (fun _ _ => rfl))) (nomark _)))))) pa_nil))) pa_nil)) (nomark _)) (pss_one (ps_ret pe_bl)) pss_nil)
      (pss_cons (ps_if (pt_cmpR (op_neD hr.units) (pe_fld (pv 4) rfl) (pe_callTy call_tupB (by rfl) N.tuple (by decide +kernel) (pa_cons (pe_callB (cr_sortedSet rfl) (by rfl) N.sorted (by decide +kernel) (pa_cons (pe_callTy (WS.call_setLI rfl) (by rfl) N.set (by decide +kernel) (pa_cons (pe_lc (own := [("_law_letter", 9)]) (g := gName 9) (tt := tYes) rfl scKeptR.nd (pi_list (pv 1))
          (blkOk_by (N := nKeptR) (sc := defScope sKeptR) (by decide +kernel)) (fun _ _ _ _ _ => pg_name (i := 9) scKeptR.nd rfl (Or.inl rfl)) (fun _ _ _ _ _ => pts_nil) (fun _ _ _ _ _ => pe_callB call_abs (by rfl) N.abs (by decide +kernel) (pa_cons (pv 9) pa_nil))) pa_nil)) pa_nil)) pa_nil)) (nomark _)) (pss_one (ps_ret pe_bl)) pss_nil)
      (pss_cons (ps_set (i := 7) scKeptR.nd rfl (Or.inl rfl) (pe_cal L.text hr (by decide) (by rfl) (pa_cons (pv 1) pa_nil)))
      (pss_cons (ps_if (PW.pt (pw_or (pt_cmpR op_ne (pe_callTy (MStr.call_strO W.str hr (by decide)) (by rfl) N.str (by decide +kernel) (pa_cons (pv 4) pa_nil)) (pv 7) (nomark _))
          (pw_or (pt_cmpR (op_neW W.eq W.ne T.cm hr (by decide)) (pe_sw W.read hr (by decide) (pe_glob (v := .ref C) (by rfl) T.mgW rfl) (pa_cons (pv 7) pa_nil)) (pv 4) (nomark _))
          (pw_or1 (pt_cmpR op_ne (pe_callTy (MStr.call_strO W.str hr (by decide)) (by rfl) N.str (by decide +kernel) (pa_cons (pe_swK W.read hr (by decide) (pe_glob (v := .ref C) (by rfl) T.mgW rfl) (pk_cons (pv 7) pk_nil)) pa_nil)) (pv 7) (nomark _)))))) (pss_one (ps_ret pe_bl)) pss_nil)
      (pss_cons (ps_par (i := 5) (j := 8) (by rfl) scKeptR.nd rfl rfl (by decide) rfl rfl (pa_cons (pe_cal L.draw hr (by decide) (by rfl) (pa_cons (pv 0) (pa_cons (pe_op op_add (pv 3) pe_int) pa_nil))) (pa_cons (pe_cal L.pick hr (by decide) (by rfl) (pa_cons (pv 0) (pa_cons (pe_lst (pa_cons pe_int (pa_cons (pe_un un_neg pe_int) (pa_cons pe_int (pa_cons (pe_un un_neg pe_int) (pa_cons pe_int pa_nil)))))) pa_nil))) pa_nil)) (by rfl))
      (pss_cons (ps_if (PW.pt (pw_or (pt_cmpR (op_eqW W.eq hr (by decide)) (pv 4) (pe_word W.mkw T hr (by decide) (by rfl) (pa_cons (pe_op op_cat (pe_op op_cat (pe_slice sl_list (pv 1) po_none (po_some (pv 5))) (pe_lst (pa_cons (pv 8) pa_nil))) (pe_slice sl_list (pv 1) (po_some (pv 5)) po_none)) pa_nil)) (nomark _))
          (pw_or (pt_cmpR (op_eqX W.eqx W.odd hr (by decide)) (pv 4) (pe_callTy call_tupB (by rfl) N.tuple (by decide +kernel) (pa_cons (pv 1) pa_nil)) (nomark _))
          (pw_or (pt_cmpR (op_eqX W.eqx W.odd hr (by decide)) (pv 4) (pv 7) (nomark _))
          (pw_or1 (pt_cmpR (op_neW W.eq W.ne T.cm hr (by decide)) (pe_word W.mkw T hr (by decide) (by rfl) (pa_cons (pv 1) pa_nil)) (pv 4) (nomark _))))))) (pss_one (ps_ret pe_bl)) pss_nil)
      (pss_one (ps_ret (pe_or (pe_cmpR op_eq (pv 3) pe_int (nomark _)) (pe_one (pe_and (pe_cmpR (op_neW W.eq W.ne T.cm hr (by decide)) (pv 4) (pe_word W.mkw T hr (by decide) (by rfl) (pa_cons (pe_op op_cat (pe_lst (pa_cons (pe_un un_neg (pe_ix ix_list (pv 1) pe_int (fun _ _ => rfl))) pa_nil)) (pe_slice sl_list (pv 1) (po_some pe_int) po_none)) pa_nil)) (nomark _))
          (pe_one (pe_cmpR (op_neW W.eq W.ne T.cm hr (by decide)) (pv 4) (pe_word W.mkw T hr (by decide) (by rfl) (pa_cons (pe_slice sl_list (pv 1) (po_some pe_int) po_none) pa_nil)) (nomark _)))))))))))))))))), ?_⟩
    -- a list of them, a word of it
    refine ⟨_, rfl, p, _, rfl, .inl (SqL.of hp), fun l hl0 => ?_⟩
    have s0 := same_upd (o := .lst (iv ns)) hl0
    refine ⟨_, rfl, p, _, rfl, .inl (SqL.of (s0 _ _ hp)), _, _, rfl, ?_⟩
    have g0 : L2.upd H l (.lst (iv ns)) l = some (.lst (iv ns)) := upd_same
    obtain ⟨H0, e0⟩ : ∃ H0, H0 = L2.upd H l (.lst (iv ns)) := ⟨_, rfl⟩
    rw [← e0] at s0 g0 ⊢
    try dsimp only
    have el : ((iv ns).length : Int) = (ns.length : Int) := by rw [List.length_map]
    rw [el]
    refine ⟨_, rfl, rfl, rfl, fun x dx nx ndx _ => make_at nx ndx (.inl (SqL.of g0)) (by omega) hl fun H1 s1 W1 => ?_⟩
    have g1 := s1 _ _ g0
    refine at_set ?_
    try dsimp only
    refine ⟨_, rfl, .inl ⟨rfl, _, SqL.of g1⟩, l, _, _, rfl, rfl, g1, Evl.sz_lt (by rw [List.length_map]; omega), ?_⟩
    have W2 := W1.keptL (H' := L2.upd H1 l (.lst (iv ns ++ [.int 1]))) g1 Kept.upd
    have s2 : Same H (L2.upd H1 l (.lst (iv ns ++ [.int 1]))) := same_put (s0.trans s1) hl0
    obtain ⟨H2, e2⟩ : ∃ H2, H2 = L2.upd H1 l (.lst (iv ns ++ [.int 1])) := ⟨_, rfl⟩
    rw [← e2] at s2 W2 ⊢
    clear e2 e0 W1 s1 s0 g0 g1
    -- is it as it should
    refine ⟨_, rfl, _, rfl, x, p, ns, rfl, W2, s2 _ _ hp, by omega, fun H3 s3 => ⟨_, rfl, iteF ?_⟩⟩
    have s23 := s2.trans s3
    refine ⟨_, rfl, p, _, rfl, .inl ⟨SqL.of (s23 _ _ hp), fun q H4 s4 B4 y dy ny ndy _ => make_at ny ndy (.inr B4) (by omega) hl fun H5 s5 W5 => ?_⟩⟩
    have s25 := (s23.trans s4).trans s5
    refine ⟨_, rfl, y, p, ns, rfl, W5, s25 _ _ hp, by omega, fun H6 s6 => ⟨_, rfl, iteF ?_⟩⟩
    have s26 := s25.trans s6
    have W6 := (((W2.same s3).same s4).same s5).same s6
    clear W5 W2 s25 s23
    -- whether it is short
    refine nx_op_lc ?_
    refine ⟨_, rfl, 1, (ns.length : Int), rfl, (by omega), fun D hD => ?_⟩
    have sD := same_upd (o := .lst []) hD
    have eN : (((ns.length : Nat) : Int) - 1).toNat = ns.length - 1 := by omega
    refine lc_range (lo := 1) (n := (((ns.length : Nat) : Int) - 1).toNat) (fun i H' => Same H6 H' ∧ H' D = some (.lst (iv (bads ns i)))) ⟨sD, by rw [upd_same]; rfl⟩ ?_ ?_
    · rintro i H7 hi ⟨sm, hDD⟩
      rw [eN] at hi
      have hp7 := sm _ _ (s26 _ _ hp)
      have i1 : (1 : Int) + (i : Nat) = ((i + 1 : Nat) : Int) := by omega
      have i2 : (1 : Int) + (i : Nat) - 1 = ((i : Nat) : Int) := by omega
      have a1 : atI (iv ns) ((1 : Int) + (i : Nat)) = some (V.int (ns.getD (i + 1) 0)) := by
        rw [i1]
        refine atI_nat (iv_get ?_)
        rw [List.getD_eq_getElem?_getD, List.getElem?_eq_getElem (show i + 1 < ns.length by omega)]
        rfl
      have a2 : atI (iv ns) ((1 : Int) + (i : Nat) - 1) = some (V.int (ns.getD i 0)) := by
        rw [i2]
        refine atI_nat (iv_get ?_)
        rw [List.getD_eq_getElem?_getD, List.getElem?_eq_getElem (show i < ns.length by omega)]
        rfl
      refine ⟨rfl, ?_⟩
      refine ⟨_, rfl, _, rfl, p, _, _, _, rfl, rfl, SqL.of hp7, a1, _, rfl, _, rfl, _, _, rfl, rfl, p, _, _, _, rfl, rfl, SqL.of hp7, a2, _, rfl, rfl, _, rfl, ?_⟩
      refine ite2 (fun hb => ?_) (fun hb => ?_)
      · have eb : ns.getD (i + 1) 0 = -ns.getD i 0 := by
          have := of_decide_eq_true hb
          injection this
        refine ⟨_, rfl, _, hDD, Evl.sz_lt (by rw [List.length_map]; have := bads_len (ns := ns) (i := i); omega), fun b o e => ?_, ?_⟩
        · rw [upd_ne (ne_of_none e hD)]
          exact sm _ _ e
        · rw [upd_same, bads_succ, if_pos eb]
          unfold iv
          rw [List.map_append]
          rfl
      · have eb : ¬ ns.getD (i + 1) 0 = -ns.getD i 0 := fun e => hb (decide_eq_true (by rw [e]))
        refine ⟨sm, ?_⟩
        rw [bads_succ, if_neg eb, List.append_nil]
        exact hDD
    · rintro H7 ⟨sm, hDD⟩
      rw [eN] at hDD
      refine ⟨Nat.zero_le _, fun e9 he9 => ?_⟩
      have s9 := same_upd (o := .lst []) he9
      refine ⟨.list ((bads ns (ns.length - 1)).map .int), .list ([].map .int), .lst (SqL.of (s9 _ _ hDD)) (dp_iv _), .lst (SqL.of upd_same) .nil, PySem.W.ke_shaped_ints _, by decide, ?_⟩
      refine at_set ?_
      try dsimp only
      have ecl : PyData.eqv (.list ((bads ns (ns.length - 1)).map .int)) (.list ([].map .int)) = decide (Fr.shr ns = ns) := by
        rw [eqvL_ints]
        exact decide_eq_decide.mpr (bads_nil.trans Fr.shr_iff.symm)
      rw [ecl]
      have s29 := (s26.trans sm).trans s9
      have W9 := (W6.same sm).same s9
      obtain ⟨H8, e8⟩ : ∃ H8, H8 = L2.upd H7 e9 (.lst []) := ⟨_, rfl⟩
      rw [← e8] at s29 W9 ⊢
      clear e8 s9 hDD W6 s26 sm
      have crb : decide (Fr.shr ns = ns) = false → decide (Fr.rnd ns = ns) = false := fun h => by
        refine decide_eq_false fun z => of_decide_eq_false h ?_
        exact Fr.shr_iff.mpr ((Fr.rnd_iff hl.nz).mp z).1
      have hp8 := s29 _ _ hp
      obtain ⟨dx9, tl, tk, ks, w1, w2, w3, w4⟩ := id W9
      have bok := bools_ok (decide (Fr.shr ns = ns)) (decide (Fr.rnd ns = ns))
      refine ⟨_, rfl, x, C, dx9, _, _, rfl, w1, T.cl, T.nS, wf_short, _, rfl, x, C, dx9, _, _, rfl, w1, T.cl, T.nR, wf_round, by show 2 ≤ sizeLine; decide, fun u1 hu1 => ?_⟩
      have t1 := same_upd (o := .lst [.bl (decide (Fr.shr ns = ns)), .bl (decide (Fr.rnd ns = ns))]) hu1
      have gU : L2.upd H8 u1 (.lst [.bl (decide (Fr.shr ns = ns)), .bl (decide (Fr.rnd ns = ns))]) u1 = some (.lst [.bl (decide (Fr.shr ns = ns)), .bl (decide (Fr.rnd ns = ns))]) := upd_same
      obtain ⟨HU, eU⟩ : ∃ HU, HU = L2.upd H8 u1 (.lst [.bl (decide (Fr.shr ns = ns)), .bl (decide (Fr.rnd ns = ns))]) := ⟨_, rfl⟩
      rw [← eU] at t1 gU ⊢
      clear eU
      refine ⟨u1, .list [.bool (decide (Fr.shr ns = ns)), .bool (decide (Fr.rnd ns = ns))], rfl, .lst (SqL.of gU) (.cons (.bl _) (.cons (.bl _) .nil)), bok.1, bok.2.1, bok.2.2.1, bok.2.2.2, ?_⟩
      refine ⟨_, rfl, ?_⟩
      refine and_val (decide (Fr.shr ns = ns)) (decide (Fr.rnd ns = ns)) (fun Q' kq => ⟨_, rfl, kq⟩) (fun hc Q' kq => ?_) crb ?_
      · have rd := Fr.shr_iff.mp (of_decide_eq_true hc)
        have cy := cy_at hl.nz
        refine ⟨_, rfl, _, _, rfl, rfl, _, rfl, ?_⟩
        refine ite2 (fun hb => ?_) (fun hb => ?_)
        · have h2 : ns.length < 2 := by have := of_decide_eq_true hb; omega
          rw [decide_eq_true ((Fr.rnd_iff hl.nz).mpr (cy.mpr ⟨rd, .inl h2⟩))] at kq
          exact kq
        · have h2 : ¬ ns.length < 2 := fun z => hb (decide_eq_true (by omega))
          have n0 : ns ≠ [] := fun z => h2 (by rw [z]; decide)
          refine ⟨_, rfl, p, _, _, _, rfl, rfl, SqL.of (t1 _ _ hp8), first_iv n0, _, rfl, _, rfl, p, _, _, _, rfl, rfl, SqL.of (t1 _ _ hp8), last_iv n0, _, rfl, rfl, ?_⟩
          have e : decide (Fr.rnd ns = ns) = !decide (V.int (ns.getD 0 0) = V.int (-ns.getD (ns.length - 1) 0)) := by
            rw [← decide_not]
            refine decide_eq_decide.mpr ((Fr.rnd_iff hl.nz).trans (cy.trans ?_))
            constructor
            · rintro ⟨_, z | z⟩ q
              · exact h2 z
              · exact z (by injection q)
            · intro z
              exact ⟨rd, .inr fun q => z (by rw [q])⟩
          rw [e] at kq
          exact kq
      refine ⟨by show 2 ≤ sizeLine; decide, fun u2 hu2 => ?_⟩
      have t2 := same_upd (o := .lst [.bl (decide (Fr.shr ns = ns)), .bl (decide (Fr.rnd ns = ns))]) hu2
      refine ⟨u2, .list [.bool (decide (Fr.shr ns = ns)), .bool (decide (Fr.rnd ns = ns))], rfl, .lst (SqL.of upd_same) (.cons (.bl _) (.cons (.bl _) .nil)), bok.1, bok.2.1, bok.2.2.1, bok.2.2.2, ?_⟩
      refine ⟨rfl, _, rfl, no_ne (decide_eq_true rfl) ?_⟩
      have s2A := (s29.trans t1).trans t2
      have WA := (W9.same t1).same t2
      obtain ⟨HA, eA⟩ : ∃ HA, HA = L2.upd HU u2 (.lst [.bl (decide (Fr.shr ns = ns)), .bl (decide (Fr.rnd ns = ns))]) := ⟨_, rfl⟩
      rw [← eA] at s2A WA ⊢
      clear eA t1 t2 gU s29 hp8 w1 w2 w3 w4 W9
      -- its kinds
      obtain ⟨dxA, tlA, tkA, ksA, w1, w2, w3, w4⟩ := id WA
      refine ⟨_, rfl, x, C, dxA, _, _, rfl, w1, T.cl, T.nK, wf_kinds, ?_⟩
      refine cb3_lc ?_
      refine ⟨_, rfl, p, rfl, ⟨_, SqL.of (s2A _ _ hp)⟩, ?_⟩
      refine lcp (walk_list (xs := iv ns)) (fun _ => true) (fun x => .int (match x with | .int i => (i.natAbs : Int) | _ => 0)) (by rw [List.length_map]; omega) (fun HB s => SqL.of (s _ _ (s2A _ _ hp))) ?_ ?_
      · intro x hx HB s Qy Qn ky kn
        obtain ⟨i, hi, rfl⟩ := List.mem_map.mp hx
        refine ⟨rfl, yes_te ⟨_, rfl, i, rfl, ?_⟩⟩
        have e : (if i < 0 then -i else i) = (i.natAbs : Int) := by split <;> omega
        rw [e]
        exact ky rfl HB (fun _ _ e => e)
      · intro D1 HB hD1 sB gB
        have gB2 : HB D1 = some (.lst ((ns.map fun i => (i.natAbs : Int)).map V.int)) := by
          rw [gB, List.filter_eq_self.mpr (fun _ _ => rfl), List.map_map, List.map_map]
          rfl
        refine ⟨D1, ns.map fun i => (i.natAbs : Int), rfl, SqL.of gB2, by rw [List.length_map]; omega, fun S1 L1 hS1 nd1 mem1 => ?_⟩
        have few : L1.length ≤ 26 := pigeon 26 L1 nd1 fun k hk => by
          obtain ⟨i, hi, rfl⟩ := List.mem_map.mp ((mem1 k).mp hk)
          have := hl i hi
          omega
        have sS := same_upd (o := SetO w S1 (fun j => decide (j ∈ ns.map fun i => (i.natAbs : Int))) L1.length) hS1
        refine ⟨S1, _, _, rfl, upd_same, by omega, fun kz u3 up mem2 _ hu3 => ?_⟩
        have sU := same_upd (o := .lst (kz.map V.int)) hu3
        refine ⟨u3, _, rfl, .inl ⟨SqL.of upd_same, fun t5 HC sC BC => ?_⟩⟩
        have sAC := ((sB.trans sS).trans sU).trans sC
        have ek : ksA = kz := sorted_uniq w4.1 up fun k => by
          rw [w4.2, mem2, decide_eq_true_eq, List.mem_map]
          constructor
          · rintro ⟨z, hz, rfl⟩
            exact ⟨z, hz, rfl⟩
          · rintro ⟨z, hz, rfl⟩
            exact ⟨z, hz, rfl⟩
        refine ⟨_, _, .tup (WR.Same.seqT sAC w3) (dp_iv _), .tup BC.sq (dp_iv _), shaped_ints _, shaped_ints _, _, rfl, no_ne (by rw [eqv_ints]; exact decide_eq_true ek) ?_⟩
        have s2C := s2A.trans sAC
        have WC := WA.same sAC
        clear sAC ek BC sC sU sS gB2 gB sB w1 w2 w3 w4 WA s2A
        have hpC := s2C _ _ hp
        -- its text
        refine ⟨_, rfl, p, ns, rfl, hpC, by omega, hl, fun HD sD => ?_⟩
        refine at_set ?_
        try dsimp only
        have WD := WC.same sD
        obtain ⟨dxD, tlD, tkD, ksD, w1, _⟩ := id WD
        refine ⟨_, rfl, x, dxD, _, rfl, w1, x, ns, rfl, WD, by omega, hl, fun HE sE => ⟨_, rfl, ?_⟩⟩
        refine ⟨_, rfl, rfl, _, rfl, no_ne (decide_eq_true rfl) ?_⟩
        have WE := WD.same sE
        refine ⟨rfl, _, rfl, ns, rfl, hl, by omega, fun z1 HF sF WF => ?_⟩
        refine ⟨_, rfl, z1, x, ns, ns, rfl, rfl, WF, WE.same sF, _, rfl, no_ne (decide_eq_true rfl) ?_⟩
        refine ⟨rfl, _, rfl, rfl, ns, rfl, hl, by omega, fun z2 HG sG WG => ?_⟩
        obtain ⟨dxG, tlG, tkG, ksG, v1, _⟩ := id WG
        refine ⟨z2, dxG, _, rfl, v1, z2, ns, rfl, WG, by omega, hl, fun HI sI => ⟨_, rfl, ?_⟩⟩
        refine ⟨_, rfl, rfl, _, rfl, no_ne (decide_eq_true rfl) ?_⟩
        have s2I := ((((s2C.trans sD).trans sE).trans sF).trans sG).trans sI
        have WI := ((WE.same sF).same sG).same sI
        clear v1 WG WF WE WD w1 WC hpC s2C sI sG sF sE sD
        -- one letter more
        refine ⟨_, rfl, _, rfl, _, _, rfl, rfl, a, c, _, n, rfl, hH.same s2I, by omega, by omega, ?_, fun HJ q q0 q1 hHJ hKJ => ?_⟩
        · have : ((ns.length : Int) + 1).natAbs ≤ 100 := by omega
          exact Nat.lt_of_le_of_lt this (by decide)
        obtain ⟨q, rfl⟩ : ∃ q' : Nat, q = (q' : Int) := ⟨q.toNat, by omega⟩
        have hq : q ≤ ns.length := by omega
        have dJ : Drew a c (n + 1) HI HJ := ⟨hHJ, hKJ⟩
        have WJ := WI.drew (hH.same s2I) dJ
        refine ⟨_, rfl, _, rfl, _, rfl, by show 5 ≤ sizeLine; decide, fun u5 hu5 => ?_⟩
        have s5 := same_upd (o := .lst [.int 1, .int (-1), .int 26, .int (-26), .int 7]) hu5
        have D5 : Drew a c (n + 1) H (L2.upd HJ u5 (.lst [.int 1, .int (-1), .int 26, .int (-26), .int 7])) := (((Drew.refl hH).same s2I).trans dJ).same s5
        refine ⟨a, c, u5, [.int 1, .int (-1), .int 26, .int (-26), .int 7], n + 1, rfl, D5.1, by omega, hHJ.ne hu5, upd_same, by decide, by decide, fun v hv HK dK => ?_⟩
        obtain ⟨b, rfl, hb⟩ : ∃ b : Int, v = .int b ∧ 1 ≤ b.natAbs ∧ b.natAbs ≤ 26 := by
          simp only [List.mem_cons, List.not_mem_nil, or_false] at hv
          rcases hv with rfl | rfl | rfl | rfl | rfl
          · exact ⟨1, rfl, by decide⟩
          · exact ⟨-1, rfl, by decide⟩
          · exact ⟨26, rfl, by decide⟩
          · exact ⟨-26, rfl, by decide⟩
          · exact ⟨7, rfl, by decide⟩
        have WK := (WJ.same s5).drew D5.1 dK
        have DK : Drew a c (n + 2) H HK := D5.trans dK
        have hpK := DK.2 _ _ hpa hp
        clear dK D5 s5 WJ dJ hKJ hHJ s2I WI hu5 hv
        refine ⟨_, _, rfl, ?_⟩
        try dsimp only
        refine ⟨_, rfl, _, rfl, _, rfl, _, rfl, p, _, rfl, SqL.of hpK, fun y1 hy1 => ?_⟩
        have z1 := same_upd (o := .lst (cutV (iv ns) none (some ((q : Nat) : Int)))) hy1
        refine ⟨_, rfl, by show 1 ≤ sizeLine; decide, fun y2 hy2 => ?_⟩
        have z2 := z1.trans (same_upd (o := .lst [.int b]) hy2)
        refine ⟨y1, y2, _, _, rfl, rfl, (same_upd (o := .lst [.int b]) hy2) _ _ upd_same, upd_same, ?_, fun y3 hy3 => ?_⟩
        · rw [cut_to hq]
          exact Evl.sz_of (by simp only [List.length_map, List.length_take, List.length_cons, List.length_nil]; omega)
        have h3 : L2.upd (L2.upd (L2.upd HK y1 (.lst (cutV (iv ns) none (some ((q : Nat) : Int))))) y2 (.lst [.int b])) y3 (.lst (cutV (iv ns) none (some ((q : Nat) : Int)) ++ [.int b])) y3 = some (.lst (iv (ns.take q ++ [b]))) := by
          rw [upd_same, cut_to hq]
          unfold iv
          rw [List.map_append]
          rfl
        have z3 := z2.trans (same_upd (o := .lst (cutV (iv ns) none (some ((q : Nat) : Int)) ++ [.int b])) hy3)
        obtain ⟨HL, eL⟩ : ∃ HL, HL = L2.upd (L2.upd (L2.upd HK y1 (.lst (cutV (iv ns) none (some ((q : Nat) : Int))))) y2 (.lst [.int b])) y3 (.lst (cutV (iv ns) none (some ((q : Nat) : Int)) ++ [.int b])) := ⟨_, rfl⟩
        rw [← eL] at h3 z3 ⊢
        clear eL z2 z1
        refine ⟨_, rfl, _, rfl, _, rfl, p, _, rfl, SqL.of (z3 _ _ hpK), fun y4 hy4 => ?_⟩
        have z4 := same_upd (o := .lst (cutV (iv ns) (some ((q : Nat) : Int)) none)) hy4
        refine ⟨y3, y4, _, _, rfl, rfl, z4 _ _ h3, upd_same, ?_, fun y5 hy5 => ?_⟩
        · rw [cut_from hq]
          exact Evl.sz_of (by simp only [List.length_map, List.length_append, List.length_take, List.length_drop, List.length_cons, List.length_nil]; omega)
        have h5 : L2.upd (L2.upd HL y4 (.lst (cutV (iv ns) (some ((q : Nat) : Int)) none))) y5 (.lst (iv (ns.take q ++ [b]) ++ cutV (iv ns) (some ((q : Nat) : Int)) none)) y5 = some (.lst (iv (ns.take q ++ [b] ++ ns.drop q))) := by
          rw [upd_same, cut_from hq]
          unfold iv
          rw [← List.map_append]
        have z5 := z4.trans (same_upd (o := .lst (iv (ns.take q ++ [b]) ++ cutV (iv ns) (some ((q : Nat) : Int)) none)) hy5)
        have lm : (ns.take q ++ [b] ++ ns.drop q).length = ns.length + 1 := by
          simp only [List.length_append, List.length_take, List.length_drop, List.length_cons, List.length_nil]
          omega
        have hm : Lts (ns.take q ++ [b] ++ ns.drop q) := by
          intro z hz
          rcases List.mem_append.mp hz with hz | hz
          · rcases List.mem_append.mp hz with hz | hz
            · exact hl z (List.mem_of_mem_take hz)
            · rw [List.mem_singleton.mp hz]
              exact hb
          · exact hl z (List.mem_of_mem_drop hz)
        refine fun x3 dx3 nx3 ndx3 _ => make_at nx3 ndx3 (.inl (SqL.of h5)) (by omega) hm fun HM sM WM => ?_
        have sKM := (z3.trans z5).trans sM
        have WM0 := WK.same sKM
        refine ⟨x, x3, ns, _, rfl, rfl, WM0, WM, _, rfl, iteF' (decide_eq_false fun e => ?_) ?_⟩
        · have := congrArg List.length e
          omega
        have DM := DK.same sKM
        have hpM := sKM _ _ hpK
        clear hm lm z5 h5 z4 z3 h3 WM sM sKM WK DK hpK
        -- no word
        refine ⟨_, rfl, _, rfl, p, _, rfl, .inl ⟨SqL.of hpM, fun t6 HN sN BN => ?_⟩⟩
        have WN := WM0.same sN
        refine ⟨x, ns, "tuple", rfl, WN, .inr ⟨rfl, t6, _, rfl, BN.sq⟩, _, rfl, iteF ?_⟩
        refine ⟨_, rfl, _, rfl, x, ns, "str", rfl, WN, .inl ⟨rfl, _, rfl⟩, _, rfl, iteF ?_⟩
        have hpN := sN _ _ hpM
        refine ⟨_, rfl, fun x4 dx4 nx4 ndx4 _ => make_at nx4 ndx4 (.inl (SqL.of hpN)) (by omega) hl fun HO sO WO => ?_⟩
        have WO0 := WN.same sO
        refine ⟨_, rfl, x4, x, ns, ns, rfl, rfl, WO, WO0, _, rfl, no_ne (decide_eq_true rfl) ?_⟩
        have DO := (DM.same sN).same sO
        have hpO := sO _ _ hpN
        clear WO WN hpN BN sN hpM DM WM0 sO
        -- none of fewer or other letters
        refine ⟨_, rfl, rfl, _, rfl, ?_⟩
        refine ite2 (fun _ => k _ DO) (fun h0 => ?_)
        have n0 : ns ≠ [] := fun z => h0 (by rw [z]; rfl)
        refine ⟨_, rfl, _, rfl, p, _, _, _, rfl, rfl, SqL.of hpO, first_iv n0, _, rfl, by show 1 ≤ sizeLine; decide, fun y6 hy6 => ?_⟩
        have z6 := same_upd (o := .lst [.int (-ns.getD 0 0)]) hy6
        refine ⟨_, rfl, _, rfl, p, _, rfl, SqL.of (z6 _ _ hpO), fun y7 hy7 => ?_⟩
        have z7 := same_upd (o := .lst (cutV (iv ns) (some 1) none)) hy7
        have pos : 1 ≤ ns.length := by have := List.length_pos_iff.mpr n0; omega
        have ec : cutV (iv ns) (some 1) none = iv (ns.drop 1) := cut_from (j := 1) pos
        refine ⟨y6, y7, _, _, rfl, rfl, z7 _ _ upd_same, upd_same, ?_, fun y8 hy8 => ?_⟩
        · rw [ec]
          exact Evl.sz_of (by simp only [List.length_map, List.length_drop, List.length_cons, List.length_nil]; omega)
        have h8 : L2.upd (L2.upd (L2.upd HO y6 (.lst [.int (-ns.getD 0 0)])) y7 (.lst (cutV (iv ns) (some 1) none))) y8 (.lst ([.int (-ns.getD 0 0)] ++ cutV (iv ns) (some 1) none)) y8 = some (.lst (iv ([-ns.getD 0 0] ++ ns.drop 1))) := by
          rw [upd_same, ec]
          rfl
        have z8 := (z6.trans z7).trans (same_upd (o := .lst ([.int (-ns.getD 0 0)] ++ cutV (iv ns) (some 1) none)) hy8)
        have hg0 : 1 ≤ (ns.getD 0 0).natAbs ∧ (ns.getD 0 0).natAbs ≤ 26 := by
          cases ns with
          | nil => exact absurd rfl n0
          | cons z r => exact hl z List.mem_cons_self
        have hm : Lts ([-ns.getD 0 0] ++ ns.drop 1) := by
          intro z hz
          rcases List.mem_append.mp hz with hz | hz
          · rw [List.mem_singleton.mp hz]
            omega
          · exact hl z (List.mem_of_mem_drop hz)
        refine fun x5 dx5 nx5 ndx5 _ => make_at nx5 ndx5 (.inl (SqL.of h8)) (by simp only [List.length_append, List.length_drop, List.length_cons, List.length_nil]; omega) hm fun HR sR WR => ?_
        have sOR := z8.trans sR
        have WR0 := WO0.same sOR
        refine ⟨x, x5, ns, _, rfl, rfl, WR0, WR, _, rfl, ?_⟩
        refine iteT' ?_ ?_
        · rw [decide_eq_false (fun e => ?_)]
          · rfl
          · cases ns with
            | nil => exact n0 rfl
            | cons z r =>
              have : z = -z := by injection e
              have := (hl z List.mem_cons_self).1
              omega
        have DR := DO.same sOR
        have hpR := sOR _ _ hpO
        refine ⟨_, rfl, _, rfl, _, rfl, p, _, rfl, SqL.of hpR, fun y9 hy9 => ?_⟩
        have z9 := same_upd (o := .lst (cutV (iv ns) (some 1) none)) hy9
        have h9 : L2.upd HR y9 (.lst (cutV (iv ns) (some 1) none)) y9 = some (.lst (iv (ns.drop 1))) := by rw [upd_same, ec]
        refine fun x6 dx6 nx6 ndx6 _ => make_at nx6 ndx6 (.inl (SqL.of h9)) (by rw [List.length_drop]; omega) (fun z hz => hl z (List.mem_of_mem_drop hz)) fun HS sS WS => ?_
        refine ⟨x, x6, ns, _, rfl, rfl, (WR0.same z9).same sS, WS, ?_⟩
        rw [decide_eq_false (fun e => ?_)]
        · exact k _ ((DR.same z9).same sS)
        · have := congrArg List.length e
          rw [List.length_drop] at this
          omega
end
end W04
set_option Elab.async false
set_option linter.all false
set_option maxRecDepth 100000
set_option maxHeartbeats 1000000
namespace W04
open PySem L2 PySem.Spec PyProof.Rows WR WB
abbrev sMadeR : Stmt := top 47
structure MadW (P : Program) (w : World) (K : PySem.W.Frag) (mg : Str → Option Value) (base : Heap) (C : Addr) : Prop where
  con : MethW P w K mg base C "contrary" ["self"] (spOne K C Fr.con)
  thn : MethW P w K mg base C "then" ["self", "other"] (spThen K C)
  thnK : MethK P w K mg base C "then" ["self", "other"] ["other"] (spThen K C)
  tms : MethW P w K mg base C "times" ["self", "number"] (spTimes K C)
  tmsK : MethK P w K mg base C "times" ["self", "number"] ["number"] (spTimes K C)
  trn : MethW P w K mg base C "turned" ["self", "by"] (spTurned K C)
  trnK : MethK P w K mg base C "turned" ["self", "by"] ["by"] (spTurned K C)
  manyK : MethK P w K mg base C "many_of" ["self", "letter"] ["letter"] (spManyM K C)
  exch : SMw P w K mg base C "exchange" ["one", "other"] ["other", "one"] List.reverse (spExchM K C)
structure LawD (P : Program) (w : World) (K : PySem.W.Frag) (mg : Str → Option Value) (base : Heap) : Prop where
  con : Cal P w K mg base "_law_contrary" 1 ["_law_letters_here"] spConL
  trn : Cal P w K mg base "_law_turned" 1 ["_law_letters_here", "_law_by"] spTurnL
theorem nm7 : ¬ (("many_of" : Str) = "letters") ∧ ¬ (("many_of" : Str) = "length") ∧ ¬ (("many_of" : Str) = "kinds") ∧ ¬ (("many_of" : Str) = "is_short") ∧ ¬ (("many_of" : Str) = "is_short_round") := by decide +kernel
/-- what stands while the law looks -/
def Five (K : PySem.W.Frag) (C : Addr) (x y p q b : Addr) (ns ms : List Int) (H : Hp) : Prop := WordAt K C H x ns ∧ WordAt K C H y ms ∧ H p = some (.lst (iv ns)) ∧ H q = some (.lst (iv ms)) ∧ H b = some (.lst (iv (Fr.con ns)))
theorem Five.same {K : PySem.W.Frag} {C x y p q b : Addr} {ns ms : List Int} {H H' : Hp} (h : Five K C x y p q b ns ms H) (s : Same H H') : Five K C x y p q b ns ms H' :=
  ⟨h.1.same s, h.2.1.same s, s _ _ h.2.2.1, s _ _ h.2.2.2.1, s _ _ h.2.2.2.2⟩
theorem Five.drew {K : PySem.W.Frag} {C x y p q b a c : Addr} {ns ms : List Int} {n m : Nat} {H H' : Hp} (h : Five K C x y p q b ns ms H) (hH : HandAt H a c n) (d : Drew a c m H H') (hp : p ≠ a) (hq : q ≠ a) (hb : b ≠ a) : Five K C x y p q b ns ms H' :=
  ⟨h.1.drew hH d, h.2.1.drew hH d, d.2 _ _ hp h.2.2.1, d.2 _ _ hq h.2.2.2.1, d.2 _ _ hb h.2.2.2.2⟩
def cutI (ns : List Int) (lo hi : Option Int) : List Int := (ns.drop (HT.sIx ns.length 0 lo)).take (HT.sIx ns.length ns.length hi - HT.sIx ns.length 0 lo)
theorem cut_iv {ns : List Int} {lo hi : Option Int} : cutV (iv ns) lo hi = iv (cutI ns lo hi) := by
  unfold cutV cutI
  rw [List.length_map]
  unfold iv
  rw [List.map_take, List.map_drop]
theorem cutI_mem {ns : List Int} {lo hi : Option Int} {z : Int} (h : z ∈ cutI ns lo hi) : z ∈ ns := List.mem_of_mem_drop (List.mem_of_mem_take h)
theorem cutI_len {ns : List Int} {lo hi : Option Int} : (cutI ns lo hi).length ≤ ns.length := by
  unfold cutI
  rw [List.length_take, List.length_drop]
  omega
theorem cnt_len (ns : List Int) (j : Int) : (((iv ns).filter fun x => decide (x = V.int j)).map fun _ => V.int 1).length = ns.count j := by
  rw [List.length_map]
  induction ns with
  | nil => rfl
  | cons a r ih =>
    rw [List.count_cons]
    show (List.filter _ (V.int a :: iv r)).length = _
    by_cases h : a = j
    · subst h
      rw [List.filter_cons_of_pos (by simp)]
      simp [ih]
    · rw [List.filter_cons_of_neg (by simpa using h), ih]
      simp [h]
theorem rep_iv (v : Int) (ns : List Int) (h : 0 < v) : (List.replicate v.toNat (iv ns)).flatten = iv (tms v ns) := by
  rw [rep_flat]
  unfold tms
  rw [if_pos h]
  congr 2
  omega
theorem rep_ivc (v : Int) (ns : List Int) (h : ¬ 0 < v) : (List.replicate (-v).toNat (iv (Fr.con ns))).flatten = iv (tms v ns) := by
  rw [rep_flat]
  unfold tms
  rw [if_neg h]
  congr 2
  omega
def spMadeR : Sp := fun vs H Q _ => ∃ (a c p q : Addr) (ns ms : List Int) (n : Nat), vs = [.ref a, .ref p, .ref q] ∧ HandAt H a c n ∧ p ≠ a ∧ q ≠ a ∧ H p = some (.lst (iv ns)) ∧ H q = some (.lst (iv ms)) ∧ ns.length ≤ 90 ∧ ms.length ≤ 10 ∧ Lts ns ∧ Lts ms ∧ n ≤ 5000 ∧
  ∀ H', Drew a c (n + 5) H H' → Q (.bl true) H'
abbrev nMadeR : List Str := ["_law_jar_here", "_law_letters_here", "_law_others", "_law_word", "_law_other", "_law_many", "_law_back", "_law_number", "_law_due", "_law_by", "_law_letter", "_law_each"]
section
variable {P : Program} {w : World} {K : PySem.W.Frag} {mg : Str → Option Value} {base : Heap} {C : Addr}
theorem scMadeR : FnScope nMadeR ["_law_jar_here", "_law_letters_here", "_law_others"] (defScope sMadeR) := ⟨rfl, rfl, rfl, by decide +kernel, rfl, by decide +kernel, by decide +kernel⟩
theorem ok_madeR {f : Addr} {fd : FuncData} (F : Fun K "_law_made_right" "_law_made_right" sMadeR f fd) (T : TxW K mg C) (N : TxX mg) (W : AllW P w K mg base C) (M : MadW P w K mg base C) (L : LawC P w K mg base C) (D : LawD P w K mg base) : FnOk P w K mg base CX0 7 f fd ["_law_jar_here", "_law_letters_here", "_law_others"] spMadeR := by
  refine F.ok scMadeR (fun vs H Q E h => ?_) (fun cdv A outer s H vs Q E hr h => ?_)
  · obtain ⟨a, c, p, q, ns, ms, n, rfl, _⟩ := h
    rfl
  · obtain ⟨a, c, p, q, ns, ms, n, rfl, hH, hpa, hqa, hp, hq, ln, lm, hl, hm, hn, k⟩ := h
    refine ⟨_, pss_cons (ps_par3 (i := 3) (j := 4) (l := 5) (by rfl) scMadeR.nd rfl rfl rfl (by decide) (by decide) (by decide) rfl rfl rfl (pa_cons (pe_word W.mkw T hr (by decide) (by rfl) (pa_cons (pv 1) pa_nil)) (pa_cons (pe_word W.mkw T hr (by decide) (by rfl) (pa_cons (pv 2) pa_nil)) (pa_cons (pe_callB call_len_seq (by rfl) N.len PySem.boot_len (pa_cons (pv 1) pa_nil)) pa_nil))) (by rfl))
      (pss_cons (ps_set (i := 6) scMadeR.nd rfl (Or.inl rfl) (pe_cal D.con hr (by decide) (by rfl) (pa_cons (pv 1) pa_nil)))
      (pss_cons (ps_if (PW.pt (pw_or (pt_not (pt_val (pe_cal L.is hr (by decide) (by rfl) (pa_cons (pe_w0 M.con T.cl hr (by decide) (pv 3)) (pa_cons (pv 6) pa_nil)))))
          (pw_or (pt_not (pt_val (pe_cal L.is hr (by decide) (by rfl) (pa_cons (pe_wK M.thnK T.cl hr (by decide) (pv 3) (pk_cons (pv 4) pk_nil)) (pa_cons (pe_op op_cat (pv 1) (pv 2)) pa_nil)))))
          (pw_or1 (pt_not (pt_val (pe_cal L.is hr (by decide) (by rfl) (pa_cons (pe_w1 M.thn T.cl hr (by decide) (pv 4) (pa_cons (pv 3) pa_nil)) (pa_cons (pe_op op_cat (pv 2) (pv 1)) pa_nil))))))))) (pss_one (ps_ret pe_bl)) pss_nil)
      (pss_cons (ps_for PassesOwn.never rfl (pi_tup (pe_tup (pa_cons (pe_un un_neg pe_int) (pa_cons (pe_un un_neg pe_int) (pa_cons pe_int (pa_cons pe_int (pa_cons (pe_op op_add pe_int (pe_cal L.draw hr (by decide) (by rfl) (pa_cons (pv 0) (pa_cons pe_int pa_nil)))) pa_nil))))))) (pg_name (i := 7) scMadeR.nd rfl (Or.inl rfl))
        (pss_cons (ps_set (i := 8) scMadeR.nd rfl (Or.inl rfl) (pe_ifExp (pt_cmpR op_gt (pv 7) pe_int (nomark _)) (pe_op op_rep (pv 1) (pv 7)) (pe_op op_rep (pv 6) (pe_un un_neg (pv 7)))))
        (pss_one (ps_if (pt_not (pt_val (pe_cal L.is hr (by decide) (by rfl) (pa_cons (pe_wK M.tmsK T.cl hr (by decide) (pv 3) (pk_cons (pv 7) pk_nil)) (pa_cons (pv 8) pa_nil))))) (pss_one (ps_ret pe_bl)) pss_nil))))
      (pss_cons (ps_for PassesOwn.never rfl (pi_tup (pe_tup (pa_cons pe_int (pa_cons pe_int (pa_cons (pe_un un_neg pe_int) (pa_cons (pe_op op_sub (pe_cal L.draw hr (by decide) (by rfl) (pa_cons (pv 0) (pa_cons pe_int pa_nil))) pe_int) (pa_cons (pe_op op_add (pe_op op_pow pe_int pe_int) (pe_cal L.draw hr (by decide) (by rfl) (pa_cons (pv 0) (pa_cons pe_int pa_nil)))) pa_nil))))))) (pg_name (i := 9) scMadeR.nd rfl (Or.inl rfl))
        (pss_one (ps_if (pt_not (pt_val (pe_cal L.is hr (by decide) (by rfl) (pa_cons (pe_wK M.trnK T.cl hr (by decide) (pv 3) (pk_cons (pv 9) pk_nil)) (pa_cons (pe_cal D.trn hr (by decide) (by rfl) (pa_cons (pv 1) (pa_cons (pv 9) pa_nil))) pa_nil))))) (pss_one (ps_ret pe_bl)) pss_nil)))
      (pss_cons (ps_if (pt_not (pt_val (pe_cal L.is hr (by decide) (by rfl) (pa_cons (pe_swK M.exch hr (by decide) (pe_glob (v := .ref C) (by rfl) T.mgW rfl) (pk_cons (pv 4) (pk_cons (pv 3) pk_nil))) (pa_cons (pe_op op_cat (pe_op op_cat (pe_op op_cat (pv 1) (pv 2)) (pv 6)) (pe_cal D.con hr (by decide) (by rfl) (pa_cons (pv 2) pa_nil))) pa_nil))))) (pss_one (ps_ret pe_bl)) pss_nil)
      (pss_cons (ps_for PassesOwn.never rfl (pi_list (pe_op op_cat (pe_op op_cat (pe_slice sl_list (pv 1) po_none (po_some pe_int)) (pe_slice sl_list (pv 2) po_none (po_some pe_int))) (pe_lst (pa_cons (pe_op op_add (pe_cal L.draw hr (by decide) (by rfl) (pa_cons (pv 0) (pa_cons pe_int pa_nil))) pe_int) (pa_cons (pe_op op_sub (pe_un un_neg pe_int) (pe_cal L.draw hr (by decide) (by rfl) (pa_cons (pv 0) (pa_cons pe_int pa_nil)))) pa_nil))))) (pg_name (i := 10) scMadeR.nd rfl (Or.inr rfl))
        (pss_one (ps_if (pt_cmpR op_ne (pe_wK M.manyK T.cl hr (by decide) (pv 3) (pk_cons (pv 10) pk_nil)) (pe_callB call_len_seq (by rfl) N.len PySem.boot_len (pa_cons (pe_lc (own := [("_law_each", 11)]) (g := gName 11) (tt := tTest (tOp rEq (tVar 11) (tVar 10))) rfl scMadeR.nd (pi_list (pv 1)) (blkOk_by (N := nMadeR) (sc := defScope sMadeR) (by decide +kernel)) (fun _ _ _ _ _ => pg_name (i := 11) scMadeR.nd rfl (Or.inl rfl))
            (fun _ _ _ _ _ => pts_one (pt_cmpR op_eq (pv 11) (pv 10) (nomark _))) (fun _ _ _ _ _ => pe_int)) pa_nil)) (nomark _)) (pss_one (ps_ret pe_bl)) pss_nil)))
      (pss_one (ps_ret (pe_and (pe_cal L.is hr (by decide) (by rfl) (pa_cons (pv 3) (pa_cons (pv 1) pa_nil))) (pe_one (pe_cal L.is hr (by decide) (by rfl) (pa_cons (pv 4) (pa_cons (pv 2) pa_nil))))))))))))), ?_⟩
    refine ⟨_, rfl, fun x dx nx ndx _ => make_at nx ndx (.inl (SqL.of hp)) (by omega) hl fun H1 s1 W1 => ?_⟩
    refine ⟨_, rfl, fun y dy ny ndy _ => make_at ny ndy (.inl (SqL.of (s1 _ _ hq))) (by omega) hm fun H2 s2 V2 => ?_⟩
    have s02 := s1.trans s2
    have W2 := W1.same s2
    refine ⟨_, rfl, p, _, rfl, .inl (SqL.of (s02 _ _ hp)), _, _, _, rfl, ?_⟩
    try dsimp only
    have el : ((iv ns).length : Int) = (ns.length : Int) := by rw [List.length_map]
    rw [el]
    refine ⟨_, rfl, p, ns, rfl, s02 _ _ hp, by omega, fun bk H3 nb s3 hb => ?_⟩
    refine at_set ?_
    try dsimp only
    have s03 := s02.trans s3
    have hba : bk ≠ a := hH.ne (s02.free nb)
    have F3 : Five K C x y p q bk ns ms H3 := ⟨W2.same s3, V2.same s3, s03 _ _ hp, s03 _ _ hq, hb⟩
    clear s1 s2 s3 W1 W2 V2 s02 hb nb
    -- the contrary
    obtain ⟨d1, f1, c1, c2⟩ := F3.1.no nm1
    refine ⟨_, rfl, x, d1, f1, rfl, c1, c2, x, ns, rfl, F3.1, by omega, hl, fun z1 H4 s4 X4 => ?_⟩
    refine ⟨_, rfl, z1, bk, Fr.con ns, rfl, X4, s4 _ _ F3.2.2.2.2, by rw [Fr.con_length]; omega, fun H5 s5 => ⟨_, rfl, iteF ?_⟩⟩
    have F5 := (F3.same s4).same s5
    have s05 := (s03.trans s4).trans s5
    clear c1 c2 s4 X4 s5 F3 s03
    -- one behind the other
    obtain ⟨d2, f2, c1, c2⟩ := F5.1.no nm4
    refine ⟨_, rfl, x, d2, f2, rfl, c1, c2, _, rfl, rfl, x, y, ns, ms, rfl, F5.1, F5.2.1, by omega, hl, hm, fun z2 H6 s6 X6 => ?_⟩
    have F6 := F5.same s6
    refine ⟨_, rfl, _, rfl, p, q, _, _, rfl, rfl, F6.2.2.1, F6.2.2.2.1, Evl.sz_of (by simp only [List.length_map]; omega), fun u1 hu1 => ?_⟩
    have t1 := same_upd (o := .lst (iv ns ++ iv ms)) hu1
    refine ⟨z2, u1, ns ++ ms, rfl, X6.same t1, by rw [upd_same]; unfold iv; rw [List.map_append], by rw [List.length_append]; omega, fun H7 s7 => ⟨_, rfl, iteF ?_⟩⟩
    have F7 := (F6.same t1).same s7
    have s07 := ((s05.trans s6).trans t1).trans s7
    clear c1 c2 s6 X6 t1 s7 F6 F5 s05
    obtain ⟨d3, f3, c1, c2⟩ := F7.2.1.no nm4
    refine ⟨_, rfl, y, d3, f3, rfl, c1, c2, _, rfl, y, x, ms, ns, rfl, F7.2.1, F7.1, by omega, hm, hl, fun z3 H8 s8 X8 => ?_⟩
    have F8 := F7.same s8
    refine ⟨_, rfl, _, rfl, q, p, _, _, rfl, rfl, F8.2.2.2.1, F8.2.2.1, Evl.sz_of (by simp only [List.length_map]; omega), fun u2 hu2 => ?_⟩
    have t2 := same_upd (o := .lst (iv ms ++ iv ns)) hu2
    refine ⟨z3, u2, ms ++ ns, rfl, X8.same t2, by rw [upd_same]; unfold iv; rw [List.map_append], by rw [List.length_append]; omega, fun H9 s9 => ⟨_, rfl, iteF ?_⟩⟩
    have F9 := (F8.same t2).same s9
    have s09 := ((s07.trans s8).trans t2).trans s9
    clear c1 c2 s8 X8 t2 s9 F8 F7 s07
    -- some times
    refine ⟨_, rfl, _, rfl, _, rfl, a, c, 4, n, rfl, hH.same s09, by omega, by decide, by decide, fun HA r r0 r1 hHA hKA => ?_⟩
    have dA : Drew a c (n + 1) H9 HA := ⟨hHA, hKA⟩
    have FA := F9.drew (hH.same s09) dA hpa hqa hba
    have DA : Drew a c (n + 1) H HA := ((Drew.refl hH).same s09).trans dA
    clear dA hKA hHA F9 s09
    refine ⟨_, _, rfl, rfl, by show 5 ≤ sizeLine; decide, fun tp htp => ?_⟩
    have sT := same_upd (o := .tup [.int (-3), .int (-1), .int 0, .int 1, .int (2 + r)]) htp
    have gT : L2.upd HA tp (.tup [.int (-3), .int (-1), .int 0, .int 1, .int (2 + r)]) tp = some (.tup [.int (-3), .int (-1), .int 0, .int 1, .int (2 + r)]) := upd_same
    have DB := DA.same sT
    have FB := FA.same sT
    refine ⟨tp, rfl, ⟨_, SqT.of gT⟩, ?_⟩
    obtain ⟨HB, eB⟩ : ∃ HB, HB = L2.upd HA tp (.tup [.int (-3), .int (-1), .int 0, .int 1, .int (2 + r)]) := ⟨_, rfl⟩
    rw [← eB] at gT DB FB ⊢
    clear eB sT FA DA
    refine for_tup (K := K) (a := tp) (xs := [.int (-3), .int (-1), .int 0, .int 1, .int (2 + r)]) (fun i σ H' => ∃ v7 v8 : Option V, σ = [some (.ref a), some (.ref p), some (.ref q), some (.ref x), some (.ref y), some (.int (ns.length : Int)), some (.ref bk), v7, v8, none, none, none] ∧ Same HB H')
      ⟨none, none, rfl, Same.refl HB⟩ (fun i σ H' _ ⟨_, _, _, s⟩ => WR.Same.seqT s (SqT.of gT)) ?_ ?_
    · rintro i xv σ H' hi ⟨v7, v8, rfl, sm⟩
      obtain ⟨v, rfl, hv⟩ : ∃ v : Int, xv = .int v ∧ v.natAbs ≤ 5 := by
        have := List.mem_of_getElem? hi
        simp only [List.mem_cons, List.not_mem_nil, or_false] at this
        rcases this with rfl | rfl | rfl | rfl | rfl
        · exact ⟨_, rfl, by decide⟩
        · exact ⟨_, rfl, by decide⟩
        · exact ⟨_, rfl, by decide⟩
        · exact ⟨_, rfl, by decide⟩
        · exact ⟨_, rfl, by omega⟩
      have FF := FB.same sm
      have hb5 : ns.length * v.natAbs ≤ 500 := Nat.le_trans (Nat.mul_le_mul ln hv) (by decide)
      have lt5 : (tms v ns).length ≤ 1000 := by rw [tms_len, Nat.mul_comm]; omega
      refine ⟨_, rfl, _, _, rfl, rfl, _, rfl, ?_⟩
      refine ite2 (fun h => ?_) (fun h => ?_)
      · have hv0 : 0 < v := by have := of_decide_eq_true h; omega
        refine ⟨_, rfl, _, rfl, p, v, _, rfl, rfl, FF.2.2.1, by omega, by omega, ?_, fun u hu => ?_⟩
        · rw [List.length_map]
          refine Evl.sz_of ?_
          have : v.toNat = v.natAbs := by omega
          rw [this]
          omega
        rw [rep_iv v ns hv0]
        have su := same_upd (o := .lst (iv (tms v ns))) hu
        refine at_set ?_
        try dsimp only
        have FU := FF.same su
        obtain ⟨d4, f4, c1, c2⟩ := FU.1.no nm5
        refine ⟨_, rfl, x, d4, f4, rfl, c1, c2, _, rfl, rfl, x, v, ns, rfl, FU.1, by omega, hb5, hl, fun z HC sC XC => ?_⟩
        refine ⟨_, rfl, z, u, tms v ns, rfl, XC, sC _ _ upd_same, lt5, fun HD sD => ⟨_, rfl, iteF ?_⟩⟩
        exact ⟨_, _, rfl, ((sm.trans su).trans sC).trans sD⟩
      · have hv0 : ¬ 0 < v := fun z => h (decide_eq_true (by omega))
        refine ⟨_, rfl, _, rfl, _, rfl, bk, -v, _, rfl, rfl, FF.2.2.2.2, by omega, by omega, ?_, fun u hu => ?_⟩
        · rw [List.length_map, Fr.con_length]
          refine Evl.sz_of ?_
          have : (-v).toNat = v.natAbs := by omega
          rw [this]
          omega
        rw [rep_ivc v ns hv0]
        have su := same_upd (o := .lst (iv (tms v ns))) hu
        refine at_set ?_
        try dsimp only
        have FU := FF.same su
        obtain ⟨d4, f4, c1, c2⟩ := FU.1.no nm5
        refine ⟨_, rfl, x, d4, f4, rfl, c1, c2, _, rfl, rfl, x, v, ns, rfl, FU.1, by omega, hb5, hl, fun z HC sC XC => ?_⟩
        refine ⟨_, rfl, z, u, tms v ns, rfl, XC, sC _ _ upd_same, lt5, fun HD sD => ⟨_, rfl, iteF ?_⟩⟩
        exact ⟨_, _, rfl, ((sm.trans su).trans sC).trans sD⟩
    · rintro σ H' ⟨v7, v8, rfl, sm⟩
      have FC := FB.same sm
      have DC := DB.same sm
      clear sm gT htp DB FB
      obtain ⟨HC, rfl⟩ : ∃ HC, HC = H' := ⟨_, rfl⟩
      -- turned
      refine ⟨_, rfl, _, rfl, a, c, 99, n + 1, rfl, DC.1, by omega, by decide, by decide, fun HD e e0 e1 hHD hKD => ?_⟩
      have dD : Drew a c (n + 2) HC HD := ⟨hHD, hKD⟩
      have FD := FC.drew DC.1 dD hpa hqa hba
      have DD := DC.trans dD
      refine ⟨_, _, rfl, rfl, ?_⟩
      refine ⟨_, _, rfl, rfl, ⟨by decide, by decide, by decide⟩, _, rfl, a, c, 1000, n + 2, rfl, DD.1, by omega, by decide, by decide, fun HE g g0 g1 hHE hKE => ?_⟩
      have dE : Drew a c (n + 3) HD HE := ⟨hHE, hKE⟩
      have FE := FD.drew DD.1 dE hpa hqa hba
      have DE := DD.trans dE
      clear dE dD hKE hHE hKD hHD FD FC DD DC
      refine ⟨_, _, rfl, rfl, by show 5 ≤ sizeLine; decide, fun tp2 htp => ?_⟩
      obtain ⟨bys, ebys, hbys⟩ : ∃ bys : List V, bys = [.int 0, .int 1, .int (-1), .int (e - 49), .int ((10 : Int) ^ (20 : Int).toNat + g)] ∧ ∀ v ∈ bys, ∃ z : Int, v = .int z := by
        refine ⟨_, rfl, fun v hv => ?_⟩
        simp only [List.mem_cons, List.not_mem_nil, or_false] at hv
        rcases hv with rfl | rfl | rfl | rfl | rfl
        · exact ⟨_, rfl⟩
        · exact ⟨_, rfl⟩
        · exact ⟨_, rfl⟩
        · exact ⟨_, rfl⟩
        · exact ⟨_, rfl⟩
      rw [← ebys]
      have sT := same_upd (o := .tup bys) htp
      have gT : L2.upd HE tp2 (.tup bys) tp2 = some (.tup bys) := upd_same
      have DB := DE.same sT
      have FB := FE.same sT
      refine ⟨tp2, rfl, ⟨_, SqT.of gT⟩, ?_⟩
      obtain ⟨HB, eB⟩ : ∃ HB, HB = L2.upd HE tp2 (.tup bys) := ⟨_, rfl⟩
      rw [← eB] at gT DB FB ⊢
      clear eB sT FE DE
      refine for_tup (K := K) (a := tp2) (xs := bys) (fun i σ H' => ∃ v9 : Option V, σ = [some (.ref a), some (.ref p), some (.ref q), some (.ref x), some (.ref y), some (.int (ns.length : Int)), some (.ref bk), v7, v8, v9, none, none] ∧ Same HB H')
        ⟨none, rfl, Same.refl HB⟩ (fun i σ H' _ ⟨_, _, s⟩ => WR.Same.seqT s (SqT.of gT)) ?_ ?_
      · rintro i xv σ H' hi ⟨v9, rfl, sm⟩
        obtain ⟨v, rfl⟩ := hbys _ (List.mem_of_getElem? hi)
        have FF := FB.same sm
        obtain ⟨d4, f4, c1, c2⟩ := FF.1.no nm6
        refine ⟨_, rfl, x, d4, f4, rfl, c1, c2, _, rfl, rfl, x, v, ns, rfl, FF.1, by omega, hl, fun z H1 t1 X1 => ?_⟩
        refine ⟨_, rfl, _, rfl, p, ns, v, rfl, t1 _ _ FF.2.2.1, by omega, fun u H2 nu t2 hu => ?_⟩
        refine ⟨z, u, trn ns v, rfl, X1.same t2, hu, by rw [trn_length]; omega, fun H3 t3 => ⟨_, rfl, iteF ?_⟩⟩
        exact ⟨_, rfl, ((sm.trans t1).trans t2).trans t3⟩
      · rintro σ H' ⟨v9, rfl, sm⟩
        have FC := FB.same sm
        have DC := DB.same sm
        clear sm gT htp DB FB
        -- exchanged
        refine ⟨rfl, _, rfl, _, rfl, rfl, x, y, ns, ms, rfl, FC.1, FC.2.1, by omega, hl, hm, fun z4 HG sG XG => ?_⟩
        have FG := FC.same sG
        refine ⟨_, rfl, _, rfl, p, q, _, _, rfl, rfl, FG.2.2.1, FG.2.2.2.1, Evl.sz_of (by simp only [List.length_map]; omega), fun u1 hu1 => ?_⟩
        have t1 := same_upd (o := .lst (iv ns ++ iv ms)) hu1
        have F1 := FG.same t1
        refine ⟨_, rfl, u1, bk, _, _, rfl, rfl, upd_same, F1.2.2.2.2, Evl.sz_of (by simp only [List.length_map, List.length_append, Fr.con_length]; omega), fun u2 hu2 => ?_⟩
        have t2 := same_upd (o := .lst (iv ns ++ iv ms ++ iv (Fr.con ns))) hu2
        refine ⟨_, rfl, q, ms, rfl, (F1.same t2).2.2.2.1, by omega, fun u3 HI nu3 t3 hu3 => ?_⟩
        refine ⟨u2, u3, _, _, rfl, rfl, t3 _ _ upd_same, hu3, Evl.sz_of (by simp only [List.length_map, List.length_append, Fr.con_length]; omega), fun u4 hu4 => ?_⟩
        have t4 := same_upd (o := .lst (iv ns ++ iv ms ++ iv (Fr.con ns) ++ iv (Fr.con ms))) hu4
        have tt := ((t1.trans t2).trans t3).trans t4
        refine ⟨z4, u4, exch ns ms, rfl, XG.same tt, by rw [upd_same]; unfold exch iv; rw [List.map_append, List.map_append, List.map_append], by rw [exch_length]; omega, fun HJ sJ => ⟨_, rfl, iteF ?_⟩⟩
        have FJ := (FG.same tt).same sJ
        have DJ := ((DC.same sG).same tt).same sJ
        clear tt t4 t3 t2 F1 t1 FG XG sG FC DC sJ
        -- how many of them
        refine ⟨_, rfl, _, rfl, p, _, rfl, SqL.of FJ.2.2.1, fun l1 hl1 => ?_⟩
        have t1 := same_upd (o := .lst (cutV (iv ns) none (some 3))) hl1
        refine ⟨_, rfl, _, rfl, q, _, rfl, SqL.of (FJ.same t1).2.2.2.1, fun l2 hl2 => ?_⟩
        have t2 := same_upd (o := .lst (cutV (iv ms) none (some 2))) hl2
        refine ⟨l1, l2, _, _, rfl, rfl, t2 _ _ upd_same, upd_same, ?_, fun l3 hl3 => ?_⟩
        · rw [cut_iv, cut_iv]
          have b1 := cutI_len (ns := ns) (lo := none) (hi := some 3)
          have b2 := cutI_len (ns := ms) (lo := none) (hi := some 2)
          exact Evl.sz_of (by simp only [List.length_map]; omega)
        have t3 := same_upd (o := .lst (cutV (iv ns) none (some 3) ++ cutV (iv ms) none (some 2))) hl3
        have g3 : L2.upd (L2.upd (L2.upd HJ l1 (.lst (cutV (iv ns) none (some 3)))) l2 (.lst (cutV (iv ms) none (some 2)))) l3 (.lst (cutV (iv ns) none (some 3) ++ cutV (iv ms) none (some 2))) l3 = some (.lst (iv (cutI ns none (some 3) ++ cutI ms none (some 2)))) := by
          rw [upd_same, cut_iv, cut_iv]
          unfold iv
          rw [List.map_append]
        have t03 := (t1.trans t2).trans t3
        obtain ⟨HK, eK⟩ : ∃ HK, HK = L2.upd (L2.upd (L2.upd HJ l1 (.lst (cutV (iv ns) none (some 3)))) l2 (.lst (cutV (iv ms) none (some 2)))) l3 (.lst (cutV (iv ns) none (some 3) ++ cutV (iv ms) none (some 2))) := ⟨_, rfl⟩
        rw [← eK] at g3 t03 ⊢
        have FK := FJ.same t03
        have DK := DJ.same t03
        clear eK t03 t3 t2 t1 FJ DJ
        have l3a : l3 ≠ a := fun z => by
          obtain ⟨cs, i, r, hA, _⟩ := DK.1
          rw [z, hA] at g3
          have := Option.some.inj g3
          injection this with this
          cases hh : cutI ns none (some 3) ++ cutI ms none (some 2) with
          | nil => rw [hh] at this; cases this
          | cons b r => rw [hh] at this; cases this
        refine ⟨_, rfl, a, c, 26, n + 3, rfl, DK.1, by omega, by decide, by decide, fun HL e2 e20 e21 hHL hKL => ?_⟩
        have dL : Drew a c (n + 4) HK HL := ⟨hHL, hKL⟩
        have FL := FK.drew DK.1 dL hpa hqa hba
        have DL := DK.trans dL
        have gL := hKL _ _ l3a g3
        refine ⟨_, _, rfl, rfl, ?_⟩
        refine ⟨_, rfl, _, rfl, a, c, 26, n + 4, rfl, DL.1, by omega, by decide, by decide, fun HM e3 e30 e31 hHM hKM => ?_⟩
        have dM : Drew a c (n + 5) HL HM := ⟨hHM, hKM⟩
        have FM := FL.drew DL.1 dM hpa hqa hba
        have DM := DL.trans dM
        have gM := hKM _ _ l3a gL
        clear dM dL FL DL gL FK DK g3 hKM hKL hHM hHL
        refine ⟨_, _, rfl, rfl, by show 2 ≤ sizeLine; decide, fun l4 hl4 => ?_⟩
        have t4 := same_upd (o := .lst [.int (e2 + 1), .int (-1 - e3)]) hl4
        have ljs : (cutI ns none (some 3) ++ cutI ms none (some 2) ++ [e2 + 1, -1 - e3]).length ≤ 200 := by
          have b1 := cutI_len (ns := ns) (lo := none) (hi := some 3)
          have b2 := cutI_len (ns := ms) (lo := none) (hi := some 2)
          simp only [List.length_append, List.length_cons, List.length_nil]
          omega
        have hjs : Lts (cutI ns none (some 3) ++ cutI ms none (some 2) ++ [e2 + 1, -1 - e3]) := by
          intro z hz
          rcases List.mem_append.mp hz with hz | hz
          · rcases List.mem_append.mp hz with hz | hz
            · exact hl z (cutI_mem hz)
            · exact hm z (cutI_mem hz)
          · simp only [List.mem_cons, List.not_mem_nil, or_false] at hz
            rcases hz with rfl | rfl <;> omega
        refine ⟨l3, l4, _, _, rfl, rfl, t4 _ _ gM, upd_same, ?_, fun l5 hl5 => ?_⟩
        · refine Evl.sz_of ?_
          simp only [List.length_append, List.length_cons, List.length_nil, List.length_map] at ljs ⊢
          omega
        have t5 := same_upd (o := .lst (iv (cutI ns none (some 3) ++ cutI ms none (some 2)) ++ [.int (e2 + 1), .int (-1 - e3)])) hl5
        have g5 : L2.upd (L2.upd HM l4 (.lst [.int (e2 + 1), .int (-1 - e3)])) l5 (.lst (iv (cutI ns none (some 3) ++ cutI ms none (some 2)) ++ [.int (e2 + 1), .int (-1 - e3)])) l5 = some (.lst (iv (cutI ns none (some 3) ++ cutI ms none (some 2) ++ [e2 + 1, -1 - e3]))) := by
          rw [upd_same]
          unfold iv
          rw [List.map_append (l₂ := [e2 + 1, -1 - e3])]
          rfl
        have FN := (FM.same t4).same t5
        have DN := (DM.same t4).same t5
        obtain ⟨HN, eN⟩ : ∃ HN, HN = L2.upd (L2.upd HM l4 (.lst [.int (e2 + 1), .int (-1 - e3)])) l5 (.lst (iv (cutI ns none (some 3) ++ cutI ms none (some 2)) ++ [.int (e2 + 1), .int (-1 - e3)])) := ⟨_, rfl⟩
        rw [← eN] at g5 FN DN ⊢
        clear eN t5 t4 FM DM
        obtain ⟨js, ejs⟩ : ∃ js, js = cutI ns none (some 3) ++ cutI ms none (some 2) ++ [e2 + 1, -1 - e3] := ⟨_, rfl⟩
        rw [← ejs] at ljs hjs g5
        refine ⟨l5, rfl, ⟨_, SqL.of g5⟩, ?_⟩
        refine for_list (K := K) (a := l5) (xs := iv js) (fun i σ H' => ∃ v10 : Option V, σ = [some (.ref a), some (.ref p), some (.ref q), some (.ref x), some (.ref y), some (.int (ns.length : Int)), some (.ref bk), v7, v8, v9, v10, none] ∧ Same HN H')
          ⟨none, rfl, Same.refl HN⟩ (fun i σ H' _ ⟨_, _, s⟩ => SqL.of (s _ _ g5)) ?_ ?_
        · rintro i xv σ H' hi ⟨v10, rfl, sm⟩
          obtain ⟨j, hj, rfl⟩ := List.mem_map.mp (List.mem_of_getElem? hi)
          obtain ⟨j1, j26⟩ := hjs j hj
          have FF := FN.same sm
          obtain ⟨d4, f4, c1, c2⟩ := FF.1.no nm7
          refine ⟨_, rfl, x, d4, f4, rfl, c1, c2, _, rfl, rfl, x, j, ns, rfl, FF.1, j1, j26, ?_⟩
          refine cb_lc ?_
          refine ⟨_, rfl, p, rfl, ⟨_, SqL.of FF.2.2.1⟩, ?_⟩
          refine lcp (walk_list (xs := iv ns)) (fun x => decide (x = V.int j)) (fun _ => V.int 1) (by rw [List.length_map]; omega) (fun HB s => SqL.of (s _ _ FF.2.2.1)) ?_ ?_
          · intro z hz HB s Qy Qn ky kn
            obtain ⟨i, hi, rfl⟩ := List.mem_map.mp hz
            refine ⟨rfl, ?_⟩
            refine ⟨_, rfl, _, rfl, rfl, _, rfl, ?_⟩
            refine ite2 (fun h => ?_) (fun h => ?_)
            · exact ky h HB (fun _ _ e => e)
            · exact kn (by simpa using h) HB (fun _ _ e => e)
          · intro D1 HO hD1 sO gO
            refine ⟨D1, _, rfl, .inl (SqL.of gO), rfl, _, rfl, no_ne (decide_eq_true (by rw [cnt_len])) ?_⟩
            exact ⟨_, rfl, sm.trans sO⟩
        · rintro σ H' ⟨v10, rfl, sm⟩
          have FF := FN.same sm
          refine ⟨_, rfl, _, rfl, x, p, ns, rfl, FF.1, FF.2.2.1, by omega, fun HP sP => ⟨_, rfl, iteT ?_⟩⟩
          have FP := FF.same sP
          refine ⟨_, rfl, _, rfl, y, q, ms, rfl, FP.2.1, FP.2.2.2.1, by omega, fun HQ sQ => ?_⟩
          exact k _ (((DN.same sm).same sP).same sQ)
end
end W04
set_option Elab.async false
set_option linter.all false
set_option maxRecDepth 100000
set_option maxHeartbeats 1000000
namespace W04
open PySem L2 PySem.Spec PyProof.Rows WR WB
abbrev sGreat : Stmt := top 48
structure LawE (P : Program) (w : World) (K : PySem.W.Frag) (mg : Str → Option Value) (base : Heap) : Prop where
  letters : Cal P w K mg base "_law_letters" 3 ["_law_jar_here", "_law_many", "_law_kinds_here"] spLetters
  kinds : Cal P w K mg base "_law_kinds" 2 ["_law_jar_here"] spKindsL
def spGreat : Sp := fun vs H Q _ => ∃ (a c kp : Addr) (n : Nat) (ks : List Int), vs = [.ref a, .ref kp] ∧ HandAt H a c n ∧ kp ≠ a ∧ H kp = some (.lst (iv ks)) ∧ 0 < ks.length ∧ ks.length ≤ 26 ∧ KOk ks ∧ n ≤ 6000 ∧ ∀ H', Q (.bl true) H'
abbrev nGreat : List Str := ["_law_jar_here", "_law_kinds_here", "_law_part", "_law_most", "_law_rest", "_law_whole", "_law_text_here", "_law_none"]
theorem tms_nil (v : Int) : tms v [] = [] := by
  unfold tms
  rw [Fr.con_nil, Fr.rep_nil]
  exact ite_self _
section
variable {P : Program} {w : World} {K : PySem.W.Frag} {mg : Str → Option Value} {base : Heap} {C : Addr}
theorem scGreat : FnScope nGreat ["_law_jar_here", "_law_kinds_here"] (defScope sGreat) := ⟨rfl, rfl, rfl, by decide +kernel, rfl, by decide +kernel, by decide +kernel⟩
theorem ok_great {f : Addr} {fd : FuncData} (F : Fun K "_law_great_right" "_law_great_right" sGreat f fd) (T : TxW K mg C) (N : TxX mg) (W : AllW P w K mg base C) (M : MadW P w K mg base C) (L : LawC P w K mg base C) (D : LawD P w K mg base) (Z : LawE P w K mg base) : FnOk P w K mg base CX0 7 f fd ["_law_jar_here", "_law_kinds_here"] spGreat := by
  refine F.ok scGreat (fun vs H Q E h => ?_) (fun cdv A outer s H vs Q E hr h => ?_)
  · obtain ⟨a, c, kp, n, ks, rfl, _⟩ := h
    rfl
  · obtain ⟨a, c, kp, n, ks, rfl, hH, hka, hk, k0, k26, hko, hn, k⟩ := h
    refine ⟨_, pss_cons (ps_set (i := 2) scGreat.nd rfl (Or.inl rfl) (pe_cal Z.letters hr (by decide) (by rfl) (pa_cons (pv 0) (pa_cons (pe_cal L.pick hr (by decide) (by rfl) (pa_cons (pv 0) (pa_cons (pe_lst (pa_cons pe_int (pa_cons pe_int (pa_cons pe_int (pa_cons pe_int (pa_cons pe_int (pa_cons pe_int (pa_cons pe_int pa_nil)))))))) pa_nil))) (pa_cons (pv 1) pa_nil)))))
      (pss_cons (ps_set (i := 3) scGreat.nd rfl (Or.inl rfl) (pe_callTy call_int1 (by rfl) N.int (by decide +kernel) (pa_cons (pe_op op_fdiv pe_int (pe_callB call_len_seq (by rfl) N.len PySem.boot_len (pa_cons (pv 2) pa_nil))) pa_nil)))
      (pss_cons (ps_set (i := 4) scGreat.nd rfl (Or.inl rfl) (pe_cal Z.letters hr (by decide) (by rfl) (pa_cons (pv 0) (pa_cons (pe_op op_sub pe_int (pe_op op_mul (pv 3) (pe_callB call_len_seq (by rfl) N.len PySem.boot_len (pa_cons (pv 2) pa_nil)))) (pa_cons (pv 1) pa_nil)))))
      (pss_cons (ps_if (pt_not (pt_val (pe_cal L.is hr (by decide) (by rfl) (pa_cons (pe_w1 M.thn T.cl hr (by decide) (pe_w1 M.tms T.cl hr (by decide) (pe_word W.mkw T hr (by decide) (by rfl) (pa_cons (pv 2) pa_nil)) (pa_cons (pe_un un_neg (pv 3)) pa_nil)) (pa_cons (pe_word W.mkw T hr (by decide) (by rfl) (pa_cons (pv 4) pa_nil)) pa_nil))
          (pa_cons (pe_op op_cat (pe_op op_rep (pe_cal D.con hr (by decide) (by rfl) (pa_cons (pv 2) pa_nil)) (pv 3)) (pv 4)) pa_nil))))) (pss_one (ps_ret pe_bl)) pss_nil)
      (pss_cons (ps_set (i := 5) scGreat.nd rfl (Or.inl rfl) (pe_op op_cat (pe_op op_rep (pv 2) (pv 3)) (pv 4)))
      (pss_cons (ps_set (i := 6) scGreat.nd rfl (Or.inl rfl) (pe_cal L.text hr (by decide) (by rfl) (pa_cons (pv 5) pa_nil)))
      (pss_cons (ps_if (PW.pt (pw_or (pt_cmpR (op_neD hr.units) (pe_fld (pe_sw W.read hr (by decide) (pe_glob (v := .ref C) (by rfl) T.mgW rfl) (pa_cons (pv 6) pa_nil)) rfl) (pe_callTy call_tupB (by rfl) N.tuple (by decide +kernel) (pa_cons (pv 5) pa_nil)) (nomark _))
          (pw_or (pt_cmpR op_ne (pe_callTy (MStr.call_strO W.str hr (by decide)) (by rfl) N.str (by decide +kernel) (pa_cons (pe_word W.mkw T hr (by decide) (by rfl) (pa_cons (pv 5) pa_nil)) pa_nil)) (pv 6) (nomark _))
          (pw_or1 (pt_not (pt_val (pe_cal L.is hr (by decide) (by rfl) (pa_cons (pe_w1 M.trn T.cl hr (by decide) (pe_word W.mkw T hr (by decide) (by rfl) (pa_cons (pv 5) pa_nil)) (pa_cons (pe_un un_neg pe_int) pa_nil)) (pa_cons (pe_cal D.trn hr (by decide) (by rfl) (pa_cons (pv 5) (pa_cons (pe_un un_neg pe_int) pa_nil))) pa_nil))))))))) (pss_one (ps_ret pe_bl)) pss_nil)
      (pss_cons (ps_set (i := 7) scGreat.nd rfl (Or.inl rfl) (pe_word W.mkw T hr (by decide) (by rfl) (pa_cons (pe_lst pa_nil) pa_nil)))
      (pss_one (ps_ret (pe_and (pe_cal L.is hr (by decide) (by rfl) (pa_cons (pe_w1 M.tms T.cl hr (by decide) (pv 7) (pa_cons (pe_op op_pow pe_int pe_int) pa_nil)) (pa_cons (pe_lst pa_nil) pa_nil)))
        (pe_and (pe_cal L.is hr (by decide) (by rfl) (pa_cons (pe_w1 M.tms T.cl hr (by decide) (pv 7) (pa_cons (pe_un un_neg (pe_op op_pow pe_int pe_int)) pa_nil)) (pa_cons (pe_lst pa_nil) pa_nil)))
        (pe_and (pe_cal L.is hr (by decide) (by rfl) (pa_cons (pe_w1 M.trn T.cl hr (by decide) (pv 7) (pa_cons (pe_un un_neg pe_int) pa_nil)) (pa_cons (pe_lst pa_nil) pa_nil)))
        (pe_one (pe_cal L.is hr (by decide) (by rfl) (pa_cons (pe_w1 M.thn T.cl hr (by decide) (pe_word W.mkw T hr (by decide) (by rfl) (pa_cons (pv 5) pa_nil)) (pa_cons (pv 7) pa_nil)) (pa_cons (pv 5) pa_nil)))))))))))))))), ?_⟩
    refine ⟨_, rfl, _, rfl, by show 7 ≤ sizeLine; decide, fun u0 hu0 => ?_⟩
    have s0 := same_upd (o := .lst [.int 1, .int 2, .int 3, .int 7, .int 100, .int 250, .int 499]) hu0
    refine ⟨a, c, u0, [.int 1, .int 2, .int 3, .int 7, .int 100, .int 250, .int 499], n, rfl, hH.same s0, by omega, hH.ne hu0, upd_same, by decide, by decide, fun v hv H1 d1 => ?_⟩
    obtain ⟨m, rfl, m1, m5⟩ : ∃ m : Nat, v = .int (m : Int) ∧ 1 ≤ m ∧ m ≤ 499 := by
      simp only [List.mem_cons, List.not_mem_nil, or_false] at hv
      rcases hv with rfl | rfl | rfl | rfl | rfl | rfl | rfl
      · exact ⟨1, rfl, by decide, by decide⟩
      · exact ⟨2, rfl, by decide, by decide⟩
      · exact ⟨3, rfl, by decide, by decide⟩
      · exact ⟨7, rfl, by decide, by decide⟩
      · exact ⟨100, rfl, by decide, by decide⟩
      · exact ⟨250, rfl, by decide, by decide⟩
      · exact ⟨499, rfl, by decide, by decide⟩
    have D1 : Drew a c (n + 1) H H1 := ((Drew.refl hH).same s0).trans d1
    refine ⟨_, rfl, a, c, kp, m, n + 1, ks, rfl, D1.1, hka, D1.2 _ _ hka hk, k0, k26, hko, by omega, by omega, fun pp H2 ps npp d2 gpp lps hps => ?_⟩
    have D2 := D1.trans d2
    refine at_set ?_
    try dsimp only
    clear s0 d1 d2 hu0 hv
    refine ⟨_, rfl, pp, _, rfl, .inl (SqL.of gpp), _, _, rfl, rfl, ⟨by rw [List.length_map]; omega, by rw [List.length_map]; omega⟩, .inl ⟨_, rfl, ?_⟩⟩
    refine at_set ?_
    try dsimp only
    obtain ⟨mo, emo, hmo⟩ : ∃ mo : Nat, (500 : Int) / ((iv ps).length : Int) = (mo : Int) ∧ mo = 500 / m := ⟨500 / m, by rw [List.length_map, lps]; rfl, rfl⟩
    rw [emo]
    have hmm : mo * m ≤ 500 := by rw [hmo]; exact Nat.div_mul_le_self 500 m
    have mo1 : mo ≤ 500 := by rw [hmo]; exact Nat.div_le_self ..
    have ppa : pp ≠ a := D1.1.ne npp
    have er : (500 : Int) - (mo : Int) * ((iv ps).length : Int) = ((500 - mo * m : Nat) : Int) := by
      rw [List.length_map, lps]
      have : ((mo * m : Nat) : Int) = (mo : Int) * (m : Int) := Int.natCast_mul ..
      omega
    refine ⟨_, rfl, _, rfl, _, rfl, pp, _, rfl, .inl (SqL.of gpp), _, _, rfl, rfl, .inl ⟨by omega, by omega⟩, _, _, rfl, rfl, _, rfl, a, c, kp, 500 - mo * m, n + 1 + 2 * m, ks, congrArg (fun z => [V.ref a, V.int z, V.ref kp]) er, D2.1, hka, D2.2 _ _ hka hk, k0, k26, hko, by omega, by omega, fun rr H3 rs nrr d3 grr lrs hrs => ?_⟩
    have D3 := D2.trans d3
    have gp3 := d3.2 _ _ ppa gpp
    refine at_set ?_
    try dsimp only
    clear d3 gpp D2 D1 er
    have hwm : mo * ps.length + rs.length = 500 := by rw [lps, lrs]; omega
    clear emo hmo lrs
    have hmp : ps.length * mo ≤ 500 := by rw [Nat.mul_comm]; omega
    have ltm : ∀ v : Int, v.natAbs = mo → (tms v ps).length = mo * ps.length := fun v hv => by rw [tms_len, hv]
    have ltc : ∀ v : Int, v.natAbs = mo → Lts (tms v ps) := fun v _ => hps.tms v
    -- the whole, turned about
    refine ⟨_, rfl, fun x dx nx ndx _ => make_at nx ndx (.inl (SqL.of gp3)) (by omega) hps fun H4 s4 X4 => ?_⟩
    obtain ⟨d1, f1, c1, c2⟩ := X4.no nm5
    refine ⟨x, d1, f1, rfl, c1, c2, _, rfl, _, rfl, x, -(mo : Int), ps, rfl, X4, by omega, by rw [Int.natAbs_neg, Int.natAbs_natCast]; exact hmp, hps, fun y H5 s5 Y5 => ?_⟩
    obtain ⟨d2, f2, c3, c4⟩ := Y5.no nm4
    have s35 := s4.trans s5
    have en : (-(mo : Int)).natAbs = mo := by omega
    have l1 := ltm (-(mo : Int)) en
    refine ⟨y, d2, f2, rfl, c3, c4, _, rfl, fun z dz nz ndz _ => make_at nz ndz (.inl (SqL.of (s35 _ _ grr))) (by omega) hrs fun H6 s6 Z6 => ?_⟩
    have s36 := s35.trans s6
    refine ⟨y, z, tms (-(mo : Int)) ps, rs, rfl, Y5.same s6, Z6, by omega, ltc _ en, hrs, fun u H7 s7 U7 => ?_⟩
    have s37 := s36.trans s7
    refine ⟨_, rfl, pp, ps, rfl, s37 _ _ gp3, by omega, fun l1 H8 nl1 s8 g8 => ?_⟩
    have s38 := s37.trans s8
    have ec : (List.replicate (mo : Int).toNat (iv (Fr.con ps))).flatten = iv (tms (-(mo : Int)) ps) := by
      have := rep_ivc (-(mo : Int)) ps (by omega)
      rw [Int.neg_neg] at this
      exact this
    refine ⟨_, rfl, l1, (mo : Int), _, rfl, rfl, g8, by omega, by omega, ?_, fun l2 hl2 => ?_⟩
    · rw [List.length_map, Fr.con_length, Int.toNat_natCast]
      exact Evl.sz_of (by omega)
    rw [ec]
    have t1 := same_upd (o := .lst (iv (tms (-(mo : Int)) ps))) hl2
    refine ⟨_, rfl, l2, rr, _, _, rfl, rfl, upd_same, t1 _ _ (s38 _ _ grr), Evl.sz_of (by simp only [List.length_map]; omega), fun l3 hl3 => ?_⟩
    have t2 := t1.trans (same_upd (o := .lst (iv (tms (-(mo : Int)) ps) ++ iv rs)) hl3)
    refine ⟨u, l3, tms (-(mo : Int)) ps ++ rs, rfl, (U7.same s8).same t2, by rw [upd_same]; unfold iv; rw [List.map_append], by rw [List.length_append]; omega, fun H9 s9 => ⟨_, rfl, iteF ?_⟩⟩
    have s39 := (s38.trans t2).trans s9
    have gp9 := s39 _ _ gp3
    have gr9 := s39 _ _ grr
    clear s9 t2 t1 ec s38 g8 s8 s37 U7 s7 s36 Z6 s6 s35 Y5 s5 X4 s4 c1 c2 c3 c4
    -- the whole
    obtain ⟨wh, ewh⟩ : ∃ wh, wh = Fr.rep mo ps ++ rs := ⟨_, rfl⟩
    have lw : wh.length = 500 := by rw [ewh, List.length_append, Fr.rep_length]; omega
    have hw : Lts wh := by
      have : Fr.rep mo ps = tms (mo : Int) ps ∨ mo = 0 := by
        by_cases h0 : mo = 0
        · exact .inr h0
        · left
          unfold tms
          rw [if_pos (by omega), Int.natAbs_natCast]
      rcases this with e | e
      · rw [ewh, e]
        exact (hps.tms _).app hrs
      · rw [ewh, e, Fr.rep_zero]
        exact hrs
    refine ⟨_, rfl, _, rfl, pp, (mo : Int), _, rfl, rfl, gp9, by omega, by omega, ?_, fun l4 hl4 => ?_⟩
    · rw [List.length_map, Int.toNat_natCast]
      exact Evl.sz_of (by omega)
    rw [Int.toNat_natCast, rep_flat]
    have t4 := same_upd (o := .lst (iv (Fr.rep mo ps))) hl4
    refine ⟨_, rfl, l4, rr, _, _, rfl, rfl, upd_same, t4 _ _ gr9, ?_, fun l5 hl5 => ?_⟩
    · refine Evl.sz_of ?_
      rw [List.length_map, List.length_map, Fr.rep_length]
      omega
    refine at_set ?_
    try dsimp only
    have g5 : L2.upd (L2.upd H9 l4 (.lst (iv (Fr.rep mo ps)))) l5 (.lst (iv (Fr.rep mo ps) ++ iv rs)) l5 = some (.lst (iv wh)) := by
      rw [upd_same, ewh]
      unfold iv
      rw [List.map_append]
    obtain ⟨HA, eA⟩ : ∃ HA, HA = L2.upd (L2.upd H9 l4 (.lst (iv (Fr.rep mo ps)))) l5 (.lst (iv (Fr.rep mo ps) ++ iv rs)) := ⟨_, rfl⟩
    rw [← eA] at g5 ⊢
    clear eA t4 gr9 gp9
    -- its text
    refine ⟨_, rfl, l5, wh, rfl, g5, by omega, hw, fun HB sB => ?_⟩
    refine at_set ?_
    try dsimp only
    refine ⟨rfl, _, rfl, wh, rfl, hw, by omega, fun z1 HC sC XC => ?_⟩
    obtain ⟨dx1, tl1, tk1, ks1, w1, w2, _⟩ := id XC
    refine ⟨z1, C, dx1, _, _, rfl, w1, T.cl, T.nL, wf_letters, ?_⟩
    have sAC := sB.trans sC
    refine ⟨_, rfl, l5, _, rfl, .inl ⟨SqL.of (sAC _ _ g5), fun q1 HD sD BD => ?_⟩⟩
    refine ⟨_, _, .tup (SqB.same sD w2).sq (dp_iv _), .tup BD.sq (dp_iv _), shaped_ints _, shaped_ints _, _, rfl, no_ne (by rw [eqv_ints]; exact decide_eq_true rfl) ?_⟩
    have sAD := sAC.trans sD
    refine ⟨_, rfl, fun x2 dx2 nx2 ndx2 _ => make_at nx2 ndx2 (.inl (SqL.of (sAD _ _ g5))) (by omega) hw fun HE sE XE => ?_⟩
    obtain ⟨dx3, tl3, tk3, ks3, v1, _⟩ := id XE
    refine ⟨x2, dx3, _, rfl, v1, x2, wh, rfl, XE, by omega, hw, fun HF sF => ⟨_, rfl, ?_⟩⟩
    refine ⟨_, rfl, rfl, _, rfl, no_ne (decide_eq_true rfl) ?_⟩
    have sAF := (sAD.trans sE).trans sF
    clear v1 XE w1 w2 XC BD sE sF sD sAD sAC sC sB
    refine ⟨_, rfl, fun x4 dx4 nx4 ndx4 _ => make_at nx4 ndx4 (.inl (SqL.of (sAF _ _ g5))) (by omega) hw fun HG sG XG => ?_⟩
    obtain ⟨d5, f5, c1, c2⟩ := XG.no nm6
    refine ⟨x4, d5, f5, rfl, c1, c2, _, rfl, x4, -3, wh, rfl, XG, by omega, hw, fun z2 HH sH XH => ?_⟩
    have sAH := (sAF.trans sG).trans sH
    refine ⟨_, rfl, _, rfl, l5, wh, -3, rfl, sAH _ _ g5, by omega, fun l6 HI nl6 sI g6 => ?_⟩
    refine ⟨z2, l6, trn wh (-3), rfl, XH.same sI, g6, by rw [trn_length]; omega, fun HJ sJ => ⟨_, rfl, iteF ?_⟩⟩
    have sAJ := (sAH.trans sI).trans sJ
    clear sJ g6 sI XH sH XG sG c1 c2 sAF sAH
    -- a word of nothing
    have n0 : Lts [] := fun _ h => nomatch h
    refine ⟨Nat.zero_le _, fun l7 hl7 x5 dx5 nx5 ndx5 _ => make_at (ms := []) nx5 ndx5 (.inl (SqL.of upd_same)) (by decide) n0 fun HK sK XK => ?_⟩
    have sAK := (sAJ.trans (same_upd (o := .lst []) hl7)).trans sK
    refine at_set ?_
    try dsimp only
    obtain ⟨d6, f6, c1, c2⟩ := XK.no nm5
    refine ⟨_, rfl, x5, d6, f6, rfl, c1, c2, _, _, rfl, rfl, ⟨by decide, by decide, by decide⟩, x5, _, [], rfl, XK, by decide, by show 0 * _ ≤ 500; rw [Nat.zero_mul]; decide, n0, fun z3 HL sL XL => ?_⟩
    rw [tms_nil] at XL
    refine ⟨Nat.zero_le _, fun l8 hl8 => ?_⟩
    have t8 := same_upd (o := .lst []) hl8
    refine ⟨z3, l8, [], rfl, XL.same t8, upd_same, by decide, fun HM sM => ⟨_, rfl, iteT ?_⟩⟩
    have XM := ((XK.same sL).same t8).same sM
    have sAM := ((sAK.trans sL).trans t8).trans sM
    clear c1 c2 sM t8 XL sL XK sK sAK sAJ
    obtain ⟨d7, f7, c1, c2⟩ := XM.no nm5
    refine ⟨_, rfl, x5, d7, f7, rfl, c1, c2, _, _, rfl, rfl, ⟨by decide, by decide, by decide⟩, _, rfl, x5, _, [], rfl, XM, by decide, by show 0 * _ ≤ 500; rw [Nat.zero_mul]; decide, n0, fun z4 HN sN XN => ?_⟩
    rw [tms_nil] at XN
    refine ⟨Nat.zero_le _, fun l9 hl9 => ?_⟩
    have t9 := same_upd (o := .lst []) hl9
    refine ⟨z4, l9, [], rfl, XN.same t9, upd_same, by decide, fun HO sO => ⟨_, rfl, iteT ?_⟩⟩
    have XO := ((XM.same sN).same t9).same sO
    have sAO := ((sAM.trans sN).trans t9).trans sO
    clear c1 c2 sO t9 XN sN XM sAM
    obtain ⟨d8, f8, c1, c2⟩ := XO.no nm6
    refine ⟨_, rfl, x5, d8, f8, rfl, c1, c2, _, rfl, x5, -7, [], rfl, XO, by decide, n0, fun z5 HP sP XP => ?_⟩
    have et : trn [] (-7) = [] := if_pos rfl
    rw [et] at XP
    refine ⟨Nat.zero_le _, fun la hla => ?_⟩
    have ta := same_upd (o := .lst []) hla
    refine ⟨z5, la, [], rfl, XP.same ta, upd_same, by decide, fun HQ sQ => ⟨_, rfl, iteT ?_⟩⟩
    have XQ := ((XO.same sP).same ta).same sQ
    have sAQ := ((sAO.trans sP).trans ta).trans sQ
    clear c1 c2 sQ ta XP sP XO sAO et
    refine ⟨_, rfl, fun x6 dx6 nx6 ndx6 _ => make_at nx6 ndx6 (.inl (SqL.of (sAQ _ _ g5))) (by omega) hw fun HR sR XR => ?_⟩
    obtain ⟨d9, f9, c1, c2⟩ := XR.no nm4
    refine ⟨x6, d9, f9, rfl, c1, c2, _, rfl, x6, x5, wh, [], rfl, XR, XQ.same sR, by rw [List.length_nil]; omega, hw, n0, fun z6 HS sS XS => ?_⟩
    rw [List.append_nil] at XS
    exact ⟨_, rfl, z6, l5, wh, rfl, XS, ((sAQ.trans sR).trans sS) _ _ g5, by omega, fun HT _ => k HT⟩
end
end W04
set_option Elab.async false
set_option linter.all false
set_option maxRecDepth 100000
set_option maxHeartbeats 1000000
namespace W04
open PySem L2 PySem.Spec PyProof.Rows WR WB
abbrev sLaw : Stmt := top 49
def spLaw (K : PySem.W.Frag) : Sp := fun vs H Q _ => ∃ (a : Addr) (ns : List Int), vs = [.ref a] ∧ SqL K H a (iv ns) ∧ ns.length ≤ 63 ∧ ∀ H', Q (.bl true) H'
abbrev nLaw : List Str := ["_law_script", "_law_jar_here", "_law_lap", "_law_kinds_here", "_law_letters_here", "_law_others"]
structure LawT (P : Program) (w : World) (K : PySem.W.Frag) (mg : Str → Option Value) (base : Heap) : Prop where
  jar : Cal P w K mg base "_law_jar" 1 ["_law_script"] (spHand K)
  kept : RG.CalG P w K mg base "_law_kept_right" 8 ["_law_jar_here", "_law_letters_here"] spKeptR
  made : Cal P w K mg base "_law_made_right" 7 ["_law_jar_here", "_law_letters_here", "_law_others"] spMadeR
  great : Cal P w K mg base "_law_great_right" 7 ["_law_jar_here", "_law_kinds_here"] spGreat
section
variable {P : Program} {w : World} {K : PySem.W.Frag} {mg : Str → Option Value} {base : Heap} {C : Addr}
theorem scLaw : FnScope nLaw ["_law_script"] (defScope sLaw) := ⟨rfl, rfl, rfl, by decide +kernel, rfl, by decide +kernel, by decide +kernel⟩
theorem ok_law {f : Addr} {fd : FuncData} (F : Fun K "law" "law" sLaw f fd) (N : TxX mg) (L : LawC P w K mg base C) (D : LawD P w K mg base) (Z : LawE P w K mg base) (R : LawT P w K mg base) : RG.FnG P w K mg base 9 f fd ["_law_script"] (spLaw K) := by
  refine RG.Fun.okG F scLaw (fun vs H Q E h => ?_) (fun cdv A outer s H vs Q E hg hr h => ?_)
  · obtain ⟨a, ns, rfl, _⟩ := h
    rfl
  · obtain ⟨sa, ss, rfl, hS, hlen, k⟩ := h
    refine ⟨_, pss_cons (ps_set (i := 1) scLaw.nd rfl (Or.inl rfl) (pe_cal R.jar hr (by decide) (by rfl) (pa_cons (pv 0) pa_nil)))
      (pss_cons (ps_for PassesOwn.never rfl (pi_range1 (by rfl) N.range (pa_cons pe_int pa_nil)) (pg_name (i := 2) scLaw.nd rfl (Or.inl rfl))
        (pss_cons (ps_set (i := 3) scLaw.nd rfl (Or.inl rfl) (pe_cal Z.kinds hr (by decide) (by rfl) (pa_cons (pv 1) pa_nil)))
        (pss_cons (ps_set (i := 4) scLaw.nd rfl (Or.inl rfl) (pe_cal Z.letters hr (by decide) (by rfl) (pa_cons (pv 1) (pa_cons (pe_cal L.pick hr (by decide) (by rfl) (pa_cons (pv 1) (pa_cons (pe_lst (pa_cons pe_int (pa_cons pe_int (pa_cons pe_int (pa_cons pe_int (pa_cons pe_int (pa_cons pe_int (pa_cons pe_int (pa_cons pe_int pa_nil))))))))) pa_nil))) (pa_cons (pv 3) pa_nil)))))
        (pss_cons (ps_set (i := 5) scLaw.nd rfl (Or.inl rfl) (pe_cal Z.letters hr (by decide) (by rfl) (pa_cons (pv 1) (pa_cons (pe_cal L.draw hr (by decide) (by rfl) (pa_cons (pv 1) (pa_cons pe_int pa_nil))) (pa_cons (pe_cal Z.kinds hr (by decide) (by rfl) (pa_cons (pv 1) pa_nil)) pa_nil)))))
        (pss_cons (ps_if (pt_cmpR op_eq (pe_cal L.draw hr (by decide) (by rfl) (pa_cons (pv 1) (pa_cons pe_int pa_nil))) pe_int (nomark _)) (pss_one (ps_set (i := 4) scLaw.nd rfl (Or.inl rfl) (pe_op op_cat (pv 4) (pe_cal D.con hr (by decide) (by rfl) (pa_cons (pv 4) pa_nil))))) pss_nil)
        (pss_one (ps_if (PW.pt (pw_or (pt_not (pt_val (RG.pe_calG R.kept hg hr (by decide) (by rfl) (pa_cons (pv 1) (pa_cons (pv 4) pa_nil))))) (pw_or1 (pt_not (pt_val (pe_cal R.made hr (by decide) (by rfl) (pa_cons (pv 1) (pa_cons (pv 4) (pa_cons (pv 5) pa_nil))))))))) (pss_one (ps_ret pe_bl)) pss_nil)))))))
      (pss_one (ps_ret (pe_cal R.great hr (by decide) (by rfl) (pa_cons (pv 1) (pa_cons (pe_cal Z.kinds hr (by decide) (by rfl) (pa_cons (pv 1) pa_nil)) pa_nil)))))), ?_⟩
    refine ⟨_, rfl, sa, ss, rfl, hS, by omega, fun H1 a c s1 ha0 hc0 h1 => ?_⟩
    refine at_set ?_
    try dsimp only
    refine ⟨4, rfl, by decide, by decide, for_range (lo := 0) (n := (4 : Int).toNat) (fun i σ H' => ∃ (v2 v3 v4 v5 : Option V), σ = [some (.ref sa), some (.ref a), v2, v3, v4, v5] ∧ HandAt H' a c (120 * i)) ⟨none, none, none, none, rfl, h1⟩ ?_ ?_⟩
    · rintro i σ H2 hi ⟨v2, v3, v4, v5, rfl, h2⟩
      have hi4 : i < 4 := hi
      refine ⟨_, rfl, a, c, 120 * i, rfl, h2, by omega, fun kp H3 ks nkp d3 gk k0 k4 hko => ?_⟩
      refine at_set ?_
      try dsimp only
      have hka := h2.ne nkp
      refine ⟨_, rfl, _, rfl, by show 8 ≤ sizeLine; decide, fun u0 hu0 => ?_⟩
      have s0 := same_upd (o := .lst [.int 0, .int 1, .int 2, .int 3, .int 4, .int 7, .int 12, .int 40]) hu0
      refine ⟨a, c, u0, [.int 0, .int 1, .int 2, .int 3, .int 4, .int 7, .int 12, .int 40], 120 * i + 5, rfl, d3.1.same s0, by omega, d3.1.ne hu0, upd_same, by decide, by decide, fun v hv H4 d4 => ?_⟩
      obtain ⟨m, rfl, m5⟩ : ∃ m : Nat, v = .int (m : Int) ∧ m ≤ 40 := by
        simp only [List.mem_cons, List.not_mem_nil, or_false] at hv
        rcases hv with rfl | rfl | rfl | rfl | rfl | rfl | rfl | rfl
        · exact ⟨0, rfl, by decide⟩
        · exact ⟨1, rfl, by decide⟩
        · exact ⟨2, rfl, by decide⟩
        · exact ⟨3, rfl, by decide⟩
        · exact ⟨4, rfl, by decide⟩
        · exact ⟨7, rfl, by decide⟩
        · exact ⟨12, rfl, by decide⟩
        · exact ⟨40, rfl, by decide⟩
      have gk4 := d4.2 _ _ hka (s0 _ _ gk)
      refine ⟨_, rfl, a, c, kp, m, 120 * i + 6, ks, rfl, d4.1, hka, gk4, k0, by omega, hko, by omega, by omega, fun p H5 ns np0 d5 gp lns hns => ?_⟩
      have hpa := d4.1.ne np0
      refine at_set ?_
      try dsimp only
      have h5 := d5.1.mono (show 120 * i + 6 + 2 * m ≤ 120 * i + 86 by omega)
      refine ⟨_, rfl, _, rfl, a, c, 9, 120 * i + 86, rfl, h5, by omega, by decide, by decide, fun H6 m2 m20 m21 h6 k6 => ?_⟩
      obtain ⟨m2, rfl⟩ : ∃ m' : Nat, m2 = (m' : Int) := ⟨m2.toNat, by omega⟩
      refine ⟨_, rfl, a, c, 120 * i + 87, rfl, h6, by omega, fun kp2 H7 ks2 nkp2 d7 gk2 k02 k42 hko2 => ?_⟩
      refine ⟨a, c, kp2, m2, 120 * i + 92, ks2, rfl, d7.1, h6.ne nkp2, gk2, k02, by omega, hko2, by omega, by omega, fun q H8 ms nq0 d8 gq lms hms => ?_⟩
      have hqa := d7.1.ne nq0
      have gp8 := d8.2 _ _ hpa (d7.2 _ _ hpa (k6 _ _ hpa gp))
      refine at_set ?_
      try dsimp only
      have h8 := d8.1.mono (show 120 * i + 92 + 2 * m2 ≤ 120 * i + 108 by omega)
      refine ⟨_, rfl, a, c, 4, 120 * i + 108, rfl, h8, by omega, by decide, by decide, fun H9 b b0 b1 h9 k9 => ?_⟩
      have gp9 := k9 _ _ hpa gp8
      have gq9 := k9 _ _ hqa gq
      refine ⟨rfl, _, rfl, ?_⟩
      refine ite2 (fun _ => ?_) (fun _ => ?_)
      · refine ⟨_, rfl, _, rfl, p, ns, rfl, gp9, by omega, fun l1 HA nl1 sA gA => ?_⟩
        refine ⟨p, l1, _, _, rfl, rfl, sA _ _ gp9, gA, Evl.sz_of (by simp only [List.length_map, Fr.con_length]; omega), fun l2 hl2 => ?_⟩
        have tA := sA.trans (same_upd (o := .lst (iv ns ++ iv (Fr.con ns))) hl2)
        have gB : L2.upd HA l2 (.lst (iv ns ++ iv (Fr.con ns))) l2 = some (.lst (iv (ns ++ Fr.con ns))) := by
          rw [upd_same]
          unfold iv
          rw [List.map_append]
        have hB := h9.same tA
        have l2a : l2 ≠ a := h9.ne (sA.free hl2)
        have len2 : (ns ++ Fr.con ns).length ≤ 80 := by rw [List.length_append, Fr.con_length]; omega
        have hl2' : Lts (ns ++ Fr.con ns) := hns.app hns.con
        have gqB := tA _ _ gq9
        refine at_set ?_
        try dsimp only
        refine ⟨_, rfl, _, rfl, a, c, l2, _, 120 * i + 109, rfl, hB, l2a, gB, by omega, hl2', by omega, fun HC dC => ⟨_, rfl, iteF ?_⟩⟩
        refine ⟨_, rfl, _, rfl, _, rfl, a, c, l2, q, _, ms, 120 * i + 111, rfl, dC.1, l2a, hqa, dC.2 _ _ l2a gB, dC.2 _ _ hqa gqB, by omega, by omega, hl2', hms, by omega, fun HD dD => ⟨_, rfl, iteF ?_⟩⟩
        exact ⟨_, _, _, _, rfl, dD.1.mono (by omega)⟩
      · refine ⟨_, rfl, _, rfl, a, c, p, ns, 120 * i + 109, rfl, h9, hpa, gp9, by omega, hns, by omega, fun HC dC => ⟨_, rfl, iteF ?_⟩⟩
        refine ⟨_, rfl, _, rfl, _, rfl, a, c, p, q, ns, ms, 120 * i + 111, rfl, dC.1, hpa, hqa, dC.2 _ _ hpa gp9, dC.2 _ _ hqa gq9, by omega, by omega, hns, hms, by omega, fun HD dD => ⟨_, rfl, iteF ?_⟩⟩
        exact ⟨_, _, _, _, rfl, dD.1.mono (by omega)⟩
    · rintro σ H2 ⟨v2, v3, v4, v5, rfl, h2⟩
      have h2 : HandAt H2 a c 480 := h2
      refine ⟨_, rfl, _, rfl, a, c, 480, rfl, h2, by decide, fun kp H3 ks nkp d3 gk k0 k4 hko => ?_⟩
      exact ⟨a, c, kp, 485, ks, rfl, d3.1, h2.ne nkp, gk, k0, by omega, hko, by decide, fun H' => k H'⟩
end
end W04
set_option Elab.async false
set_option linter.all false
set_option maxRecDepth 100000
set_option maxHeartbeats 1000000
namespace W04
open PySem L2 PySem.Spec PyProof.Rows WR WB
/-! ### what the top has written -/
structure FF (K : PySem.W.Frag) (mg : Str → Option Value) (x : Str) (st : Stmt) : Prop where
  ex : ∃ (f : Addr) (oc : Value) (od : Option Addr) (kV doc pm cdv ct : Value) (an : Option Addr) (osl : Array (Option Value)),
    K.lookup f = some ⟨oc, od, .func (PySem.W.fnOf x x (defArgs st) (defBody st) (defScope st) .none kV doc pm an cdv ct), osl⟩ ∧ PySem.W.codeIn K cdv x = true ∧ PySem.W.keepIn K (.ref f) = true ∧ mg x = some (.ref f)
theorem ff_mk {K : PySem.W.Frag} {mg : Str → Option Value} {h : Heap} {x : Str} {st : Stmt} {f : Addr} {oc : Value} {od an : Option Addr} {kV doc pm cdv ct : Value} {osl : Array (Option Value)} (X : K.In h) (G : h.Ns mainGlobals mg)
    (a : PySem.W.nsIn K mainGlobals x = some (some (.ref f))) (l : K.lookup f = some ⟨oc, od, .func (PySem.W.fnOf x x (defArgs st) (defBody st) (defScope st) .none kV doc pm an cdv ct), osl⟩) (c : PySem.W.codeIn K cdv x = true) (k : PySem.W.keepIn K (.ref f) = true) : FF K mg x st :=
  ⟨f, oc, od, kV, doc, pm, cdv, ct, an, osl, l, c, k, PySem.W.mg_of X G a⟩
/-- a def in the class's body, held by the class -/
structure FM (K : PySem.W.Frag) (C : Addr) (m q : Str) (st : Stmt) : Prop where
  ex : ∃ (f : Addr) (oc : Value) (od : Option Addr) (kV doc pm cdv ct : Value) (an : Option Addr) (osl : Array (Option Value)),
    PySem.W.findIn K (.ref C) m = some (some (.ref f)) ∧ PySem.W.isFn K (.ref f) = true ∧
    K.lookup f = some ⟨oc, od, .func (PySem.W.fnOf m q (defArgs st) (defBody st) (defScope st) .none kV doc pm an cdv ct), osl⟩ ∧ PySem.W.codeIn K cdv q = true ∧ PySem.W.keepIn K (.ref f) = true
theorem fm_mk {K : PySem.W.Frag} {C : Addr} {m q : Str} {st : Stmt} {f : Addr} {oc : Value} {od an : Option Addr} {kV doc pm cdv ct : Value} {osl : Array (Option Value)}
    (a : PySem.W.findIn K (.ref C) m = some (some (.ref f))) (i : PySem.W.isFn K (.ref f) = true) (l : K.lookup f = some ⟨oc, od, .func (PySem.W.fnOf m q (defArgs st) (defBody st) (defScope st) .none kV doc pm an cdv ct), osl⟩) (c : PySem.W.codeIn K cdv q = true) (k : PySem.W.keepIn K (.ref f) = true) : FM K C m q st :=
  ⟨f, oc, od, kV, doc, pm, cdv, ct, an, osl, a, i, l, c, k⟩
section
variable {P : Program} {w : World} {K : PySem.W.Frag} {mg : Str → Option Value} {base : Heap} {x m q : Str} {C : Addr} {st : Stmt} {k : Nat} {ps ks : List Str} {sp : Sp}
theorem FF.cal (F : FF K mg x st) (ok : ∀ f fd, Fun K x x st f fd → FnOk P w K mg base CX0 k f fd ps sp)
    (hb : ∀ (kV doc pm : Value) (an : Option Addr) (cdv ct : Value) (us : List Value), us.length = ps.length → bindArgs (PySem.W.fnOf x x (defArgs st) (defBody st) (defScope st) .none kV doc pm an cdv ct) ⟨us, []⟩ = pure (ps.zip us)) : Cal P w K mg base x k ps sp := by
  obtain ⟨f, oc, od, kV, doc, pm, cdv, ct, an, osl, l, c, kp, m⟩ := F.ex
  exact ⟨f, _, ok f _ (fun_mk l c kp), m, kp, (fun_mk l c kp).binds hb⟩
theorem FF.calG (F : FF K mg x st) (ok : ∀ f fd, Fun K x x st f fd → RG.FnG P w K mg base k f fd ps sp)
    (hb : ∀ (kV doc pm : Value) (an : Option Addr) (cdv ct : Value) (us : List Value), us.length = ps.length → bindArgs (PySem.W.fnOf x x (defArgs st) (defBody st) (defScope st) .none kV doc pm an cdv ct) ⟨us, []⟩ = pure (ps.zip us)) : RG.CalG P w K mg base x k ps sp := by
  obtain ⟨f, oc, od, kV, doc, pm, cdv, ct, an, osl, l, c, kp, m⟩ := F.ex
  exact ⟨f, _, ok f _ (fun_mk l c kp), m, kp, (fun_mk l c kp).binds hb⟩
theorem FM.meth (F : FM K C m q st) (ok : ∀ f fd, Fun K m q st f fd → FnOk P w K mg base CX0 6 f fd ps sp)
    (hb : ∀ (kV doc pm : Value) (an : Option Addr) (cdv ct : Value) (us : List Value), us.length = ps.length → bindArgs (PySem.W.fnOf m q (defArgs st) (defBody st) (defScope st) .none kV doc pm an cdv ct) ⟨us, []⟩ = pure (ps.zip us)) : MethW P w K mg base C m ps sp := by
  obtain ⟨f, oc, od, kV, doc, pm, cdv, ct, an, osl, a, i, l, c, kp⟩ := F.ex
  exact ⟨f, _, ⟨a, i, kp⟩, ok f _ (fun_mk l c kp), (fun_mk l c kp).binds hb⟩
end
theorem vals_app {a c : List V} {b d : List Value} (h1 : Vals a b) (h2 : Vals c d) : Vals (a ++ c) (b ++ d) := by
  induction h1 with
  | nil => exact h2
  | cons h t ih => exact .cons h ih
theorem vals_rev {a : List V} {b : List Value} (h : Vals a b) : Vals a.reverse b.reverse := by
  induction h with
  | nil => exact .nil
  | cons h t ih =>
    rw [List.reverse_cons, List.reverse_cons]
    exact vals_app ih (.cons h .nil)
section
variable {P : Program} {w : World} {K : PySem.W.Frag} {mg : Str → Option Value} {base : Heap} {x m q : Str} {C : Addr} {st : Stmt} {k : Nat} {ps ks : List Str} {sp : Sp}
theorem FM.methK (F : FM K C m q st) (ok : ∀ f fd, Fun K m q st f fd → FnOk P w K mg base CX0 6 f fd ps sp)
    (hb : ∀ (kV doc pm : Value) (an : Option Addr) (cdv ct : Value) (us ws : List Value), us.length = 1 → ws.length = ks.length → bindArgs (PySem.W.fnOf m q (defArgs st) (defBody st) (defScope st) .none kV doc pm an cdv ct) ⟨us, ks.zip ws⟩ = pure (ps.zip (us ++ ws))) : MethK P w K mg base C m ps ks sp := by
  obtain ⟨f, oc, od, kV, doc, pm, cdv, ct, an, osl, a, i, l, c, kp⟩ := F.ex
  exact ⟨f, _, ⟨a, i, kp⟩, ok f _ (fun_mk l c kp), ⟨fun s us ws _ h0 h1 => .of_eq (hb kV doc pm an cdv ct us ws h0 h1), fun r1 r2 => vals_app r1 r2⟩⟩
theorem FM.spe (F : FM K C m q st) (ok : ∀ f fd, Fun K m q st f fd → FnOk P w K mg base CX0 k f fd ["self"] sp)
    (hb : ∀ (kV doc pm : Value) (an : Option Addr) (cdv ct : Value) (us : List Value), us.length = 1 → bindArgs (PySem.W.fnOf m q (defArgs st) (defBody st) (defScope st) .none kV doc pm an cdv ct) ⟨us, []⟩ = pure ((["self"] : List Str).zip us)) : MStr.Spe P w K mg base C m k sp := by
  obtain ⟨f, oc, od, kV, doc, pm, cdv, ct, an, osl, a, i, l, c, kp⟩ := F.ex
  exact ⟨f, _, ok f _ (fun_mk l c kp), a, i, (fun_mk l c kp).binds hb⟩
end
/-- a staticmethod in the class's body -/
structure FS (K : PySem.W.Frag) (C : Addr) (m q : Str) (st : Stmt) : Prop where
  ex : ∃ (p f : Addr) (oc : Value) (od : Option Addr) (kV doc pm cdv ct : Value) (an : Option Addr) (osl : Array (Option Value)),
    MStat.SMet K C (.type "type") m p f ∧ K.lookup f = some ⟨oc, od, .func (PySem.W.fnOf m q (defArgs st) (defBody st) (defScope st) .none kV doc pm an cdv ct), osl⟩ ∧ PySem.W.codeIn K cdv q = true
theorem fs_mk {K : PySem.W.Frag} {C : Addr} {m q : Str} {st : Stmt} {p f : Addr} {rest : List Value} {oc : Value} {od an : Option Addr} {kV doc pm cdv ct : Value} {osl : Array (Option Value)}
    (rd : PySem.W.readsIn K C (.type "type") = true) (ga : PySem.W.specialIn K (.ref C) "__getattribute__" = some (some (.builtin "type.__getattribute__")))
    (at_ : PySem.W.findCls K (.ref C) (.type "type") m = some (.get (.builtin "staticmethod.__get__") (.ref p) .none (.ref C))) (rc : PySem.W.recIn K p "staticmethod" = some (.ref f :: rest)) (kp : PySem.W.keepIn K (.ref f) = true)
    (l : K.lookup f = some ⟨oc, od, .func (PySem.W.fnOf m q (defArgs st) (defBody st) (defScope st) .none kV doc pm an cdv ct), osl⟩) (c : PySem.W.codeIn K cdv q = true) : FS K C m q st :=
  ⟨p, f, oc, od, kV, doc, pm, cdv, ct, an, osl, ⟨rd, ga, at_, ⟨rest, rc⟩, kp⟩, l, c⟩
theorem FS.sm {P : Program} {w : World} {K : PySem.W.Frag} {mg : Str → Option Value} {base : Heap} {m q : Str} {C : Addr} {st : Stmt} {ps ks : List Str} {sp : Sp} (F : FS K C m q st) (gg : List Value → List Value) (gV : List V → List V) (ok : ∀ f fd, Fun K m q st f fd → FnOk P w K mg base CX0 6 f fd ps sp)
    (hb : ∀ (kV doc pm : Value) (an : Option Addr) (cdv ct : Value) (us : List Value), us.length = ps.length → bindArgs (PySem.W.fnOf m q (defArgs st) (defBody st) (defScope st) .none kV doc pm an cdv ct) ⟨us, []⟩ = pure (ps.zip us))
    (hk : ∀ (kV doc pm : Value) (an : Option Addr) (cdv ct : Value) (ws : List Value), ws.length = ks.length → bindArgs (PySem.W.fnOf m q (defArgs st) (defBody st) (defScope st) .none kV doc pm an cdv ct) ⟨[], ks.zip ws⟩ = pure (ps.zip (gg ws)))
    (hr : ∀ {zs : List V} {ws : List Value}, Vals zs ws → Vals (gV zs) (gg ws)) : SMw P w K mg base C m ps ks gV sp := by
  obtain ⟨p, f, oc, od, kV, doc, pm, cdv, ct, an, osl, sm, l, c⟩ := F.ex
  refine ⟨.type "type", p, f, _, gg, sm, ok f _ (fun_mk l c sm.kp), (fun_mk l c sm.kp).binds hb, ⟨fun s us ws _ h0 h1 => ?_, fun _ r => hr r⟩⟩
  obtain rfl : us = [] := List.length_eq_zero_iff.mp h0
  exact .of_eq (hk kV doc pm an cdv ct ws h1)
structure Names (mg : Str → Option Value) : Prop where
  isinstance : mg "isinstance" = none
  int : mg "int" = none
  bool : mg "bool" = none
  str : mg "str" = none
  list : mg "list" = none
  tuple : mg "tuple" = none
  all : mg "all" = none
  len : mg "len" = none
  abs : mg "abs" = none
  range : mg "range" = none
  sorted : mg "sorted" = none
  set : mg "set" = none
  enumerate : mg "enumerate" = none
  repr : mg "repr" = none
  kind : ∃ t, mg "MOST_KIND" = some (.int 26 t)
  most : ∃ t, mg "MOST_LETTERS" = some (.int 500 t)
  alph : ∃ t, mg "ALPHABET" = some (.str alphS t)
structure Defs (K : PySem.W.Frag) (mg : Str → Option Value) (C : Addr) : Prop where
  d_sIsInt : FF K mg "is_integer" sIsInt
  d_sWithin : FF K mg "is_within" sWithin
  d_sLetter : FF K mg "is_letter" sLetter
  d_sListed : FF K mg "is_listed" sListed
  d_sCon : FF K mg "contrary_letters" sCon
  d_sShr : FF K mg "shortened_letters" sShr
  d_sRnd : FF K mg "rounded_letters" sRnd
  d_sTurnedL : FF K mg "turned_letters" sTurnedL
  d_sExch : FF K mg "exchange_letters" sExch
  d_sKinds : FF K mg "kinds_of" sKinds
  d_sNeedI : FF K mg "need_integer" sNeedI
  d_sNeedL : FF K mg "need_letter" sNeedL
  d_sLText : FF K mg "letter_text" sLText
  d_sLOf : FF K mg "letter_of" sLOf
  d_sItems : FF K mg "items_of" sItems
  d_sTold : FF K mg "items_told" sTold
  d_sNeedW : FF K mg "need_word" sNeedW
  d_sFew : FF K mg "need_few_letters" sFew
  d_sJar : FF K mg "_law_jar" sJar
  d_sDraw : FF K mg "_law_draw" sDraw
  d_sPick : FF K mg "_law_pick" sPick
  d_sLetters : FF K mg "_law_letters" sLetters
  d_sKindsL : FF K mg "_law_kinds" sKindsL
  d_sTextL : FF K mg "_law_text" sTextL
  d_sConL : FF K mg "_law_contrary" sConL
  d_sTurnL : FF K mg "_law_turned" sTurnL
  d_sIs : FF K mg "_law_is" sIs
  d_sKeptR : FF K mg "_law_kept_right" sKeptR
  d_sMadeR : FF K mg "_law_made_right" sMadeR
  d_sGreat : FF K mg "_law_great_right" sGreat
  d_sLaw : FF K mg "law" sLaw
  m_sInit : FM K C "__init__" "Word.__init__" sInit
  m_sEq : FM K C "__eq__" "Word.__eq__" sEq
  m_sLenM : FM K C "__len__" "Word.__len__" sLenM
  m_sStrM : FM K C "__str__" "Word.__str__" sStrM
  m_sContrary : FM K C "contrary" "Word.contrary" sContrary
  m_sTurnedM : FM K C "turned" "Word.turned" sTurnedM
  m_sThen : FM K C "then" "Word.then" sThen
  m_sTimes : FM K C "times" "Word.times" sTimes
  m_sManyM : FM K C "many_of" "Word.many_of" sManyM
/-- what is to be known of the class -/
structure ClsW (K : PySem.W.Frag) (mg : Str → Option Value) (C : Addr) : Prop where
  cl : Cls K C
  nL : NoAttr K C "letters"
  nN : NoAttr K C "length"
  nK : NoAttr K C "kinds"
  nS : NoAttr K C "is_short"
  nR : NoAttr K C "is_short_round"
  ca : PySem.W.findIn K (.ref C) "__class__" = some (some (.builtin "object.__class__"))
  cn : PySem.W.specialIn K (.builtin "object.__class__") "__get__" = some (some (.builtin "getset_descriptor.__get__"))
  ct : PySem.W.takesIn K (.builtin "object.__class__") = some true
  cm : PySem.W.mroIn K C (.type "object") = some true
  ne : PySem.W.findIn K (.ref C) "__ne__" = some (some (.builtin "object.__ne__"))
  mks : PySem.W.makesIn K C = true
  kc : PySem.W.keepIn K (.ref C) = true
  mgW : mg "Word" = some (.ref C)
theorem law_mk {P : Program} {w : World} {K : PySem.W.Frag} {mg : Str → Option Value} {base : Heap} {C : Addr} {fL : Addr} {fdL : FuncData} (N : Names mg) (D : Defs K mg C) (W : ClsW K mg C) (O : TxO K C) (SX : FS K C "exchange" "Word.exchange" sExchM) (SR : FS K C "read" "Word.read" sReadM) (FL : Fun K "law" "law" sLaw fL fdL) : RG.FnG P w K mg base 9 fL fdL ["_law_script"] (spLaw K) := by
  have tA : TxA mg := ⟨N.tuple, N.len⟩
  have tB : TxB mg := ⟨N.sorted, N.abs⟩
  have tC : TxC mg := ⟨N.kind, N.all⟩
  have tI : TxI mg := ⟨N.isinstance, N.int, N.bool, N.str, N.list, N.tuple⟩
  have tL : TxL mg := ⟨N.int, N.len, N.abs⟩
  have tX : TxX mg := ⟨N.range, N.list, N.len, N.int, N.abs, N.tuple, N.repr, N.sorted, N.set, N.str⟩
  have tW : TxW K mg C := ⟨W.cl, W.nL, W.nN, W.nK, W.nS, W.nR, W.ca, W.cn, W.ct, W.cm, W.mgW, N.most, N.isinstance, N.all⟩
  have cInt : Cal P w K mg base "is_integer" 1 ["value"] spIsInt := D.d_sIsInt.cal (fun f fd F => ok_isInt F tI) (fun _ _ _ _ _ _ us hl => match us, hl with | [_], _ => rfl)
  have cWithin : Cal P w K mg base "is_within" 2 ["value", "least", "most"] spWithin := D.d_sWithin.cal (fun f fd F => ok_within F cInt) (fun _ _ _ _ _ _ us hl => match us, hl with | [_, _, _], _ => rfl)
  have cLetter : Cal P w K mg base "is_letter" 3 ["value"] spLetter := D.d_sLetter.cal (fun f fd F => ok_letter F cWithin tC) (fun _ _ _ _ _ _ us hl => match us, hl with | [_], _ => rfl)
  have cListE : Cal P w K mg base "is_listed" 1 ["value"] (spListE K) := D.d_sListed.cal (fun f fd F => ok_listE F tI) (fun _ _ _ _ _ _ us hl => match us, hl with | [_], _ => rfl)
  have cFew : Cal P w K mg base "need_few_letters" 1 ["many"] spFew := D.d_sFew.cal (fun f fd F => ok_few F tW) (fun _ _ _ _ _ _ us hl => match us, hl with | [_], _ => rfl)
  have cKinds : Cal P w K mg base "kinds_of" 1 ["letters"] (spKinds K) := D.d_sKinds.cal (fun f fd F => ok_kinds F tA tB) (fun _ _ _ _ _ _ us hl => match us, hl with | [_], _ => rfl)
  have cShr : Cal P w K mg base "shortened_letters" 1 ["letters"] (spShr K) := D.d_sShr.cal (fun f fd F => ok_shr F tA) (fun _ _ _ _ _ _ us hl => match us, hl with | [_], _ => rfl)
  have cRnd : Cal P w K mg base "rounded_letters" 2 ["letters"] (spRnd K) := D.d_sRnd.cal (fun f fd F => ok_rnd F cShr tA) (fun _ _ _ _ _ _ us hl => match us, hl with | [_], _ => rfl)
  have cCon : Cal P w K mg base "contrary_letters" 1 ["letters"] (spCon K) := D.d_sCon.cal (fun f fd F => ok_con F tA) (fun _ _ _ _ _ _ us hl => match us, hl with | [_], _ => rfl)
  have cTurnedL : Cal P w K mg base "turned_letters" 1 ["letters", "by"] (spTurnedL K) := D.d_sTurnedL.cal (fun f fd F => ok_turnedL F tA) (fun _ _ _ _ _ _ us hl => match us, hl with | [_, _], _ => rfl)
  have cExch : Cal P w K mg base "exchange_letters" 2 ["one", "other"] (spExch K) := D.d_sExch.cal (fun f fd F => ok_exch F cCon) (fun _ _ _ _ _ _ us hl => match us, hl with | [_, _], _ => rfl)
  have cNeedI : Cal P w K mg base "need_integer" 2 ["value", "part"] spNeedI := D.d_sNeedI.cal (fun f fd F => ok_needI F cInt) (fun _ _ _ _ _ _ us hl => match us, hl with | [_, _], _ => rfl)
  have cNeedL : Cal P w K mg base "need_letter" 4 ["value"] spNeedL := D.d_sNeedL.cal (fun f fd F => ok_needL F cLetter) (fun _ _ _ _ _ _ us hl => match us, hl with | [_], _ => rfl)
  have cNeedW : Cal P w K mg base "need_word" 1 ["value", "part"] (spNeedW K C) := D.d_sNeedW.cal (fun f fd F => ok_needW F tW) (fun _ _ _ _ _ _ us hl => match us, hl with | [_, _], _ => rfl)
  have cLText : Cal P w K mg base "letter_text" 1 ["letter"] spLText := D.d_sLText.cal (fun f fd F => ok_lText F N.alph N.abs) (fun _ _ _ _ _ _ us hl => match us, hl with | [_], _ => rfl)
  have cLOf : Cal P w K mg base "letter_of" 1 ["item"] spLOf := D.d_sLOf.cal (fun f fd F => ok_lOf F N.alph N.len) (fun _ _ _ _ _ _ us hl => match us, hl with | [_], _ => rfl)
  have cItems : Cal P w K mg base "items_of" 1 ["text"] spItems := D.d_sItems.cal (fun f fd F => ok_items F tI) (fun _ _ _ _ _ _ us hl => match us, hl with | [_], _ => rfl)
  have cTold : Cal P w K mg base "items_told" 2 ["text"] spTold := D.d_sTold.cal (fun f fd F => ok_told F cItems N.len) (fun _ _ _ _ _ _ us hl => match us, hl with | [_], _ => rfl)
  have okInit := fun f fd (F : Fun K "__init__" "Word.__init__" sInit f fd) => ok_init (base := base) (P := P) (w := w) F tW tA cListE cLetter cFew cKinds cShr cRnd
  have mW : MkW P w K mg base C := by
    obtain ⟨f, oc, od, kV, doc, pm, cdv, ct, an, osl, a, i, l, c, kp⟩ := D.m_sInit.ex
    exact ⟨f, _, ⟨W.mks, a, i, W.kc⟩, okInit f _ (fun_mk l c kp), (fun_mk l c kp).binds (fun _ _ _ _ _ _ us hl => match us, hl with | [_, _], _ => rfl)⟩
  have mK : MkWK P w K mg base C := by
    obtain ⟨f, oc, od, kV, doc, pm, cdv, ct, an, osl, a, i, l, c, kp⟩ := D.m_sInit.ex
    exact ⟨f, _, ⟨W.mks, a, i, W.kc⟩, okInit f _ (fun_mk l c kp), ⟨fun s us ws _ h0 h1 => match us, ws, h0, h1 with | [_], [_], _, _ => .of_eq rfl, fun r1 r2 => vals_app r1 r2⟩⟩
  have eW : EqW P w K mg base C := by
    obtain ⟨f, oc, od, kV, doc, pm, cdv, ct, an, osl, a, i, l, c, kp⟩ := D.m_sEq.ex
    exact ⟨f, _, ok_eq (fun_mk l c kp) tW, a, i, (fun_mk l c kp).binds (fun _ _ _ _ _ _ us hl => match us, hl with | [_, _], _ => rfl)⟩
  have eX : EqX P w K mg base C := by
    obtain ⟨f, oc, od, kV, doc, pm, cdv, ct, an, osl, a, i, l, c, kp⟩ := D.m_sEq.ex
    exact ⟨f, _, ok_eqX (fun_mk l c kp) tW O, a, i, (fun_mk l c kp).binds (fun _ _ _ _ _ _ us hl => match us, hl with | [_, _], _ => rfl)⟩
  have aW : AllW P w K mg base C := {
    mkw := mW
    mkK := mK
    eq := eW
    eqx := eX
    ne := W.ne
    odd := O
    str := D.m_sStrM.spe (fun f fd F => ok_strM F tW cLText) (fun _ _ _ _ _ _ us hl => match us, hl with | [_], _ => rfl)
    read := SR.sm id id (fun f fd F => ok_readM F tW mW cTold cLOf N.enumerate) (fun _ _ _ _ _ _ us hl => match us, hl with | [_], _ => rfl) (fun _ _ _ _ _ _ us hl => match us, hl with | [_], _ => rfl) fun r => r }
  have okThn := fun f fd (F : Fun K "then" "Word.then" sThen f fd) => ok_then (base := base) (P := P) (w := w) F tW mW cNeedW
  have okTms := fun f fd (F : Fun K "times" "Word.times" sTimes f fd) => ok_times (base := base) (P := P) (w := w) F tW tB mW cNeedI cFew cCon
  have okTrn := fun f fd (F : Fun K "turned" "Word.turned" sTurnedM f fd) => ok_turned (base := base) (P := P) (w := w) F tW mW cNeedI cTurnedL
  have aM : MadW P w K mg base C := {
    con := D.m_sContrary.meth (fun f fd F => ok_contrary F tW mW cCon) (fun _ _ _ _ _ _ us hl => match us, hl with | [_], _ => rfl)
    thn := D.m_sThen.meth okThn (fun _ _ _ _ _ _ us hl => match us, hl with | [_, _], _ => rfl)
    thnK := D.m_sThen.methK okThn (fun _ _ _ _ _ _ us ws h1 h2 => match us, ws, h1, h2 with | [_], [_], _, _ => rfl)
    tms := D.m_sTimes.meth okTms (fun _ _ _ _ _ _ us hl => match us, hl with | [_, _], _ => rfl)
    tmsK := D.m_sTimes.methK okTms (fun _ _ _ _ _ _ us ws h1 h2 => match us, ws, h1, h2 with | [_], [_], _, _ => rfl)
    trn := D.m_sTurnedM.meth okTrn (fun _ _ _ _ _ _ us hl => match us, hl with | [_, _], _ => rfl)
    trnK := D.m_sTurnedM.methK okTrn (fun _ _ _ _ _ _ us ws h1 h2 => match us, ws, h1, h2 with | [_], [_], _, _ => rfl)
    manyK := D.m_sManyM.methK (fun f fd F => (ok_manyM F tW cNeedL).mono (by decide)) (fun _ _ _ _ _ _ us ws h1 h2 => match us, ws, h1, h2 with | [_], [_], _, _ => rfl)
    exch := SX.sm List.reverse List.reverse (fun f fd F => ok_exchM F tW mW cNeedW cExch) (fun _ _ _ _ _ _ us hl => match us, hl with | [_, _], _ => rfl) (fun _ _ _ _ _ _ us hl => match us, hl with | [_, _], _ => rfl) fun r => vals_rev r }
  have mL : MStr.Spe P w K mg base C "__len__" 1 (spLenM K C) := D.m_sLenM.spe (fun f fd F => ok_lenM F tW N.len) (fun _ _ _ _ _ _ us hl => match us, hl with | [_], _ => rfl)
  have cJar : Cal P w K mg base "_law_jar" 1 ["_law_script"] (spHand K) := D.d_sJar.cal (fun f fd F => ok_hand F tL) (fun _ _ _ _ _ _ us hl => match us, hl with | [_], _ => rfl)
  have cDraw : Cal P w K mg base "_law_draw" 1 ["_law_jar_here", "_law_many"] spTake := D.d_sDraw.cal (fun f fd F => ok_take F tL) (fun _ _ _ _ _ _ us hl => match us, hl with | [_, _], _ => rfl)
  have cPick : Cal P w K mg base "_law_pick" 2 ["_law_jar_here", "_law_some"] spPick := D.d_sPick.cal (fun f fd F => ok_pick F cDraw tL) (fun _ _ _ _ _ _ us hl => match us, hl with | [_, _], _ => rfl)
  have nC : LawC P w K mg base C := {
    draw := cDraw
    pick := cPick
    is := D.d_sIs.cal (fun f fd F => ok_is F tW tX mL) (fun _ _ _ _ _ _ us hl => match us, hl with | [_, _], _ => rfl)
    text := D.d_sTextL.cal (fun f fd F => ok_textL F tX) (fun _ _ _ _ _ _ us hl => match us, hl with | [_], _ => rfl) }
  have nD : LawD P w K mg base := {
    con := D.d_sConL.cal (fun f fd F => ok_conL F) (fun _ _ _ _ _ _ us hl => match us, hl with | [_], _ => rfl)
    trn := D.d_sTurnL.cal (fun f fd F => ok_turnL F tX) (fun _ _ _ _ _ _ us hl => match us, hl with | [_, _], _ => rfl) }
  have nE : LawE P w K mg base := {
    letters := D.d_sLetters.cal (fun f fd F => ok_letters F tX cDraw cPick) (fun _ _ _ _ _ _ us hl => match us, hl with | [_, _, _], _ => rfl)
    kinds := D.d_sKindsL.cal (fun f fd F => ok_kindsL F tX cDraw) (fun _ _ _ _ _ _ us hl => match us, hl with | [_], _ => rfl) }
  have nT : LawT P w K mg base := {
    jar := cJar
    kept := D.d_sKeptR.calG (fun f fd F => ok_keptR F tW tX aW nC) (fun _ _ _ _ _ _ us hl => match us, hl with | [_, _], _ => rfl)
    made := D.d_sMadeR.cal (fun f fd F => ok_madeR F tW tX aW aM nC nD) (fun _ _ _ _ _ _ us hl => match us, hl with | [_, _, _], _ => rfl)
    great := D.d_sGreat.cal (fun f fd F => ok_great F tW tX aW aM nC nD nE) (fun _ _ _ _ _ _ us hl => match us, hl with | [_, _], _ => rfl) }
  exact ok_law FL tX nC nD nE nT
theorem at_mk {l : PySem.W.OpenLaw} {w : World} {K : PySem.W.Frag} {h : Heap} {mg : Str → Option Value} {fa C : Addr} (X : K.In h) (G : h.Ns mainGlobals mg) (hfa : mg "law" = some (.ref fa)) (N : Names mg) (D : Defs K mg C) (W : ClsW K mg C) (O : TxO K C) (SX : FS K C "exchange" "Word.exchange" sExchM) (SR : FS K C "read" "Word.read" sReadM) :
    ∃ fd : FuncData, (∀ (s : Shared) (v : Value), BindsTo s fd ⟨[v], []⟩ [("_law_script", v)]) ∧ ∀ base : Heap, K.In base → base.Ns mainGlobals mg → RG.FnG l.prog w K mg base 9 fa fd ["_law_script"] (spLaw K) := by
  obtain ⟨f, oc, od, kV, doc, pm, cdv, ct, an, osl, lL, c, kp, m⟩ := D.d_sLaw.ex
  have e := hfa.symm.trans m
  cases e
  exact ⟨_, fun s v => .of_eq rfl, fun base _ _ => law_mk N D W O SX SR (fun_mk lL c kp)⟩
theorem walk {l : PySem.W.OpenLaw} {q : Program} {loose : List Str} {XP : (Str → Option Value) → Heap → Prop} {YP : World → Heap → Prop} {d : DefRec} {K : Params → PySem.W.Frag} (hn : l.most = some 63) (hdf : d.params.defaults = [])
    (hY : ∀ (w : World) (h : Heap), YP w h → (K w.params).In h)
    (F : ∀ (w : World) (mg : Str → Option Value) (fa : Addr) (h : Heap), (K w.params).In h → h.Ns mainGlobals mg → mg d.name = some (.ref fa) →
      ∃ fd : FuncData, (∀ (s : Shared) (u : Value), BindsTo s fd ⟨[u], []⟩ [("_law_script", u)]) ∧ ∀ base : Heap, (K w.params).In base → base.Ns mainGlobals mg → RG.FnG l.prog w (K w.params) mg base 9 fa fd ["_law_script"] (spLaw (K w.params))) :
    PySem.W.WalkO q loose XP YP l.row.toRowW d [] (fun f vs => PySem.call f vs) :=
  RG.walkG (n := 63) (k := 9) (x := "_law_script") (sp := spLaw) hn (by decide) hdf ⟨rfl, by decide, by decide⟩ hY F fun _ _ a ns hl _ hS => ⟨a, ns, rfl, hS, hl, fun _ => rfl⟩
end W04
set_option Elab.async false
set_option linter.all false
set_option maxRecDepth 100000
set_option maxHeartbeats 4000000
namespace W04
open PySem L2 PySem.Spec PyProof.Rows WR WB
theorem names_mk {K : PySem.W.Frag} {h : Heap} {mg : Str → Option Value} {u0 u1 u2 : Tok} (X : K.In h) (G : h.Ns mainGlobals mg)
    (n0 : PySem.W.nsIn K mainGlobals "isinstance" = some none) (n1 : PySem.W.nsIn K mainGlobals "int" = some none) (n2 : PySem.W.nsIn K mainGlobals "bool" = some none) (n3 : PySem.W.nsIn K mainGlobals "str" = some none) (n4 : PySem.W.nsIn K mainGlobals "list" = some none) (n5 : PySem.W.nsIn K mainGlobals "tuple" = some none) (n6 : PySem.W.nsIn K mainGlobals "all" = some none) (n7 : PySem.W.nsIn K mainGlobals "len" = some none) (n8 : PySem.W.nsIn K mainGlobals "abs" = some none) (n9 : PySem.W.nsIn K mainGlobals "range" = some none) (n10 : PySem.W.nsIn K mainGlobals "sorted" = some none) (n11 : PySem.W.nsIn K mainGlobals "set" = some none) (n12 : PySem.W.nsIn K mainGlobals "enumerate" = some none) (n13 : PySem.W.nsIn K mainGlobals "repr" = some none) (g0 : PySem.W.nsIn K mainGlobals "MOST_KIND" = some (some (.int 26 u0))) (g1 : PySem.W.nsIn K mainGlobals "MOST_LETTERS" = some (some (.int 500 u1))) (g2 : PySem.W.nsIn K mainGlobals "ALPHABET" = some (some (.str alphS u2))) : Names mg :=
  ⟨PySem.W.mg_none_of X G n0, PySem.W.mg_none_of X G n1, PySem.W.mg_none_of X G n2, PySem.W.mg_none_of X G n3, PySem.W.mg_none_of X G n4, PySem.W.mg_none_of X G n5, PySem.W.mg_none_of X G n6, PySem.W.mg_none_of X G n7, PySem.W.mg_none_of X G n8, PySem.W.mg_none_of X G n9, PySem.W.mg_none_of X G n10, PySem.W.mg_none_of X G n11, PySem.W.mg_none_of X G n12, PySem.W.mg_none_of X G n13, ⟨_, PySem.W.mg_of X G g0⟩, ⟨_, PySem.W.mg_of X G g1⟩, ⟨_, PySem.W.mg_of X G g2⟩⟩
theorem cls_mk {K : PySem.W.Frag} {h : Heap} {mg : Str → Option Value} {C : Addr} (X : K.In h) (G : h.Ns mainGlobals mg)
    (aC : PySem.W.nsIn K mainGlobals "Word" = some (some (.ref C)))
    (pg : PySem.W.plainGet K C Str.empty = true) (hd : PySem.W.hasDictIn K C = true) (po : PySem.W.plainOver K C = true) (sa : PySem.W.findIn K (.ref C) "__setattr__" = some (some (.builtin "object.__setattr__")))
    (nL : PySem.W.findIn K (.ref C) "letters" = some none) (nN : PySem.W.findIn K (.ref C) "length" = some none) (nK : PySem.W.findIn K (.ref C) "kinds" = some none) (nS : PySem.W.findIn K (.ref C) "is_short" = some none) (nR : PySem.W.findIn K (.ref C) "is_short_round" = some none)
    (ca : PySem.W.findIn K (.ref C) "__class__" = some (some (.builtin "object.__class__")))
    (cn : PySem.W.specialIn K (.builtin "object.__class__") "__get__" = some (some (.builtin "getset_descriptor.__get__")))
    (ct : PySem.W.takesIn K (.builtin "object.__class__") = some true)
    (cm : PySem.W.mroIn K C (.type "object") = some true)
    (ne : PySem.W.findIn K (.ref C) "__ne__" = some (some (.builtin "object.__ne__")))
    (mk : PySem.W.makesIn K C = true) (kc : PySem.W.keepIn K (.ref C) = true) : ClsW K mg C :=
  ⟨⟨pg, hd, po, sa⟩, nL, nN, nK, nS, nR, ca, cn, ct, cm, ne, mk, kc, PySem.W.mg_of X G aC⟩
end W04

open PySem PySem.W PyProof.Rows in
set_option maxRecDepth 100000 in
set_option maxHeartbeats 0 in
theorem PySem.Challenge.cw_handlerims_k04_words_made_read_put_behin_holds : PySem.Challenge.rw_handlerims_k04_words_made_read_put_behin.Holds := by
  w_on; o_law; k_head; (case hw => w_witness2)
  k_fill
  refine W04.walk (l := PySem.Challenge.rw_handlerims_k04_words_made_read_put_behin) rfl rfl (fun w h Y => PySem.W.kIn_of Y) ?F
  case F =>
    intro w mg fa h KX G hmg
    have hN : W04.Names mg := by
      refine' W04.names_mk KX G ?q_n0 ?q_n1 ?q_n2 ?q_n3 ?q_n4 ?q_n5 ?q_n6 ?q_n7 ?q_n8 ?q_n9 ?q_n10 ?q_n11 ?q_n12 ?q_n13 ?q_g0 ?q_g1 ?q_g2
      (case q_n0 => k_is)
      (case q_n1 => k_is)
      (case q_n2 => k_is)
      (case q_n3 => k_is)
      (case q_n4 => k_is)
      (case q_n5 => k_is)
      (case q_n6 => k_is)
      (case q_n7 => k_is)
      (case q_n8 => k_is)
      (case q_n9 => k_is)
      (case q_n10 => k_is)
      (case q_n11 => k_is)
      (case q_n12 => k_is)
      (case q_n13 => k_is)
      (case q_g0 => k_is)
      (case q_g1 => k_is)
      (case q_g2 => k_is)
    refine' W04.at_mk KX G hmg hN ?q_D ?q_W ⟨?q_oS, ?q_oT, ?q_oF, ?q_oG⟩ (W04.fs_mk ?q_srd ?q_sga ?q_sat ?q_src ?q_skp ?q_sl ?q_sc) (W04.fs_mk ?q_trd ?q_tga ?q_tat ?q_trc ?q_tkp ?q_tl ?q_tc)
    case q_W =>
      refine' W04.cls_mk KX G ?q_aC ?q_pg ?q_hd ?q_po ?q_sa ?q_nL ?q_nN ?q_nK ?q_nS ?q_nR ?q_ca ?q_cn ?q_ct ?q_cm ?q_ne ?q_mk ?q_kc
      (case q_aC => k_is)
      (case q_pg => k_is)
      (case q_hd => k_is)
      (case q_po => k_is)
      (case q_sa => k_is)
      (case q_nL => k_is)
      (case q_nN => k_is)
      (case q_nK => k_is)
      (case q_nS => k_is)
      (case q_nR => k_is)
      (case q_ca => k_is)
      (case q_cn => k_is)
      (case q_ct => k_is)
      (case q_cm => k_is)
      (case q_ne => k_is)
      (case q_mk => k_is)
      (case q_kc => k_is)
    case q_D =>
      refine' { d_sIsInt := W04.ff_mk KX G ?q_a0 ?q_l0 ?q_c0 ?q_k0, d_sWithin := W04.ff_mk KX G ?q_a1 ?q_l1 ?q_c1 ?q_k1, d_sLetter := W04.ff_mk KX G ?q_a2 ?q_l2 ?q_c2 ?q_k2, d_sListed := W04.ff_mk KX G ?q_a3 ?q_l3 ?q_c3 ?q_k3, d_sCon := W04.ff_mk KX G ?q_a4 ?q_l4 ?q_c4 ?q_k4, d_sShr := W04.ff_mk KX G ?q_a5 ?q_l5 ?q_c5 ?q_k5, d_sRnd := W04.ff_mk KX G ?q_a6 ?q_l6 ?q_c6 ?q_k6, d_sTurnedL := W04.ff_mk KX G ?q_a7 ?q_l7 ?q_c7 ?q_k7, d_sExch := W04.ff_mk KX G ?q_a8 ?q_l8 ?q_c8 ?q_k8, d_sKinds := W04.ff_mk KX G ?q_a9 ?q_l9 ?q_c9 ?q_k9, d_sNeedI := W04.ff_mk KX G ?q_a10 ?q_l10 ?q_c10 ?q_k10, d_sNeedL := W04.ff_mk KX G ?q_a11 ?q_l11 ?q_c11 ?q_k11, d_sLText := W04.ff_mk KX G ?q_a12 ?q_l12 ?q_c12 ?q_k12, d_sLOf := W04.ff_mk KX G ?q_a13 ?q_l13 ?q_c13 ?q_k13, d_sItems := W04.ff_mk KX G ?q_a14 ?q_l14 ?q_c14 ?q_k14, d_sTold := W04.ff_mk KX G ?q_a15 ?q_l15 ?q_c15 ?q_k15, d_sNeedW := W04.ff_mk KX G ?q_a16 ?q_l16 ?q_c16 ?q_k16, d_sFew := W04.ff_mk KX G ?q_a17 ?q_l17 ?q_c17 ?q_k17, d_sJar := W04.ff_mk KX G ?q_a18 ?q_l18 ?q_c18 ?q_k18, d_sDraw := W04.ff_mk KX G ?q_a19 ?q_l19 ?q_c19 ?q_k19, d_sPick := W04.ff_mk KX G ?q_a20 ?q_l20 ?q_c20 ?q_k20, d_sLetters := W04.ff_mk KX G ?q_a21 ?q_l21 ?q_c21 ?q_k21, d_sKindsL := W04.ff_mk KX G ?q_a22 ?q_l22 ?q_c22 ?q_k22, d_sTextL := W04.ff_mk KX G ?q_a23 ?q_l23 ?q_c23 ?q_k23, d_sConL := W04.ff_mk KX G ?q_a24 ?q_l24 ?q_c24 ?q_k24, d_sTurnL := W04.ff_mk KX G ?q_a25 ?q_l25 ?q_c25 ?q_k25, d_sIs := W04.ff_mk KX G ?q_a26 ?q_l26 ?q_c26 ?q_k26, d_sKeptR := W04.ff_mk KX G ?q_a27 ?q_l27 ?q_c27 ?q_k27, d_sMadeR := W04.ff_mk KX G ?q_a28 ?q_l28 ?q_c28 ?q_k28, d_sGreat := W04.ff_mk KX G ?q_a29 ?q_l29 ?q_c29 ?q_k29, d_sLaw := W04.ff_mk KX G ?q_a30 ?q_l30 ?q_c30 ?q_k30, m_sInit := W04.fm_mk ?q_ma0 ?q_mi0 ?q_ml0 ?q_mc0 ?q_mk0, m_sEq := W04.fm_mk ?q_ma1 ?q_mi1 ?q_ml1 ?q_mc1 ?q_mk1, m_sLenM := W04.fm_mk ?q_ma2 ?q_mi2 ?q_ml2 ?q_mc2 ?q_mk2, m_sStrM := W04.fm_mk ?q_ma3 ?q_mi3 ?q_ml3 ?q_mc3 ?q_mk3, m_sContrary := W04.fm_mk ?q_ma4 ?q_mi4 ?q_ml4 ?q_mc4 ?q_mk4, m_sTurnedM := W04.fm_mk ?q_ma5 ?q_mi5 ?q_ml5 ?q_mc5 ?q_mk5, m_sThen := W04.fm_mk ?q_ma6 ?q_mi6 ?q_ml6 ?q_mc6 ?q_mk6, m_sTimes := W04.fm_mk ?q_ma7 ?q_mi7 ?q_ml7 ?q_mc7 ?q_mk7, m_sManyM := W04.fm_mk ?q_ma8 ?q_mi8 ?q_ml8 ?q_mc8 ?q_mk8 }
      (case q_a0 => k_is); (case q_l0 => k_is); (case q_c0 => k_is); (case q_k0 => k_is)
      (case q_a1 => k_is); (case q_l1 => k_is); (case q_c1 => k_is); (case q_k1 => k_is)
      (case q_a2 => k_is); (case q_l2 => k_is); (case q_c2 => k_is); (case q_k2 => k_is)
      (case q_a3 => k_is); (case q_l3 => k_is); (case q_c3 => k_is); (case q_k3 => k_is)
      (case q_a4 => k_is); (case q_l4 => k_is); (case q_c4 => k_is); (case q_k4 => k_is)
      (case q_a5 => k_is); (case q_l5 => k_is); (case q_c5 => k_is); (case q_k5 => k_is)
      (case q_a6 => k_is); (case q_l6 => k_is); (case q_c6 => k_is); (case q_k6 => k_is)
      (case q_a7 => k_is); (case q_l7 => k_is); (case q_c7 => k_is); (case q_k7 => k_is)
      (case q_a8 => k_is); (case q_l8 => k_is); (case q_c8 => k_is); (case q_k8 => k_is)
      (case q_a9 => k_is); (case q_l9 => k_is); (case q_c9 => k_is); (case q_k9 => k_is)
      (case q_a10 => k_is); (case q_l10 => k_is); (case q_c10 => k_is); (case q_k10 => k_is)
      (case q_a11 => k_is); (case q_l11 => k_is); (case q_c11 => k_is); (case q_k11 => k_is)
      (case q_a12 => k_is); (case q_l12 => k_is); (case q_c12 => k_is); (case q_k12 => k_is)
      (case q_a13 => k_is); (case q_l13 => k_is); (case q_c13 => k_is); (case q_k13 => k_is)
      (case q_a14 => k_is); (case q_l14 => k_is); (case q_c14 => k_is); (case q_k14 => k_is)
      (case q_a15 => k_is); (case q_l15 => k_is); (case q_c15 => k_is); (case q_k15 => k_is)
      (case q_a16 => k_is); (case q_l16 => k_is); (case q_c16 => k_is); (case q_k16 => k_is)
      (case q_a17 => k_is); (case q_l17 => k_is); (case q_c17 => k_is); (case q_k17 => k_is)
      (case q_a18 => k_is); (case q_l18 => k_is); (case q_c18 => k_is); (case q_k18 => k_is)
      (case q_a19 => k_is); (case q_l19 => k_is); (case q_c19 => k_is); (case q_k19 => k_is)
      (case q_a20 => k_is); (case q_l20 => k_is); (case q_c20 => k_is); (case q_k20 => k_is)
      (case q_a21 => k_is); (case q_l21 => k_is); (case q_c21 => k_is); (case q_k21 => k_is)
      (case q_a22 => k_is); (case q_l22 => k_is); (case q_c22 => k_is); (case q_k22 => k_is)
      (case q_a23 => k_is); (case q_l23 => k_is); (case q_c23 => k_is); (case q_k23 => k_is)
      (case q_a24 => k_is); (case q_l24 => k_is); (case q_c24 => k_is); (case q_k24 => k_is)
      (case q_a25 => k_is); (case q_l25 => k_is); (case q_c25 => k_is); (case q_k25 => k_is)
      (case q_a26 => k_is); (case q_l26 => k_is); (case q_c26 => k_is); (case q_k26 => k_is)
      (case q_a27 => k_is); (case q_l27 => k_is); (case q_c27 => k_is); (case q_k27 => k_is)
      (case q_a28 => k_is); (case q_l28 => k_is); (case q_c28 => k_is); (case q_k28 => k_is)
      (case q_a29 => k_is); (case q_l29 => k_is); (case q_c29 => k_is); (case q_k29 => k_is)
      (case q_a30 => k_is); (case q_l30 => k_is); (case q_c30 => k_is); (case q_k30 => k_is)
      (case q_ma0 => k_is); (case q_mi0 => k_is); (case q_ml0 => k_is); (case q_mc0 => k_is); (case q_mk0 => k_is)
      (case q_ma1 => k_is); (case q_mi1 => k_is); (case q_ml1 => k_is); (case q_mc1 => k_is); (case q_mk1 => k_is)
      (case q_ma2 => k_is); (case q_mi2 => k_is); (case q_ml2 => k_is); (case q_mc2 => k_is); (case q_mk2 => k_is)
      (case q_ma3 => k_is); (case q_mi3 => k_is); (case q_ml3 => k_is); (case q_mc3 => k_is); (case q_mk3 => k_is)
      (case q_ma4 => k_is); (case q_mi4 => k_is); (case q_ml4 => k_is); (case q_mc4 => k_is); (case q_mk4 => k_is)
      (case q_ma5 => k_is); (case q_mi5 => k_is); (case q_ml5 => k_is); (case q_mc5 => k_is); (case q_mk5 => k_is)
      (case q_ma6 => k_is); (case q_mi6 => k_is); (case q_ml6 => k_is); (case q_mc6 => k_is); (case q_mk6 => k_is)
      (case q_ma7 => k_is); (case q_mi7 => k_is); (case q_ml7 => k_is); (case q_mc7 => k_is); (case q_mk7 => k_is)
      (case q_ma8 => k_is); (case q_mi8 => k_is); (case q_ml8 => k_is); (case q_mc8 => k_is); (case q_mk8 => k_is)
    (case q_srd => k_is)
    (case q_sga => k_is)
    (case q_sat => k_is)
    (case q_src => k_is)
    (case q_skp => k_is)
    (case q_sl => k_is)
    (case q_sc => k_is)
    (case q_trd => k_is)
    (case q_tga => k_is)
    (case q_tat => k_is)
    (case q_trc => k_is)
    (case q_tkp => k_is)
    (case q_tl => k_is)
    (case q_tc => k_is)
    (case q_oS => first | k_is | kernel_rfl | rfl)
    (case q_oT => first | k_is | kernel_rfl | rfl)
    (case q_oF => first | k_is | kernel_rfl | rfl)
    (case q_oG => first | k_is | kernel_rfl | rfl)
