import PyProof.Rows.All
import Wide.All
import OpenK.AllK
import Wide.FinOn
import HandS.ForMost
import HandS.Strs
import HandS.SetBool
import HandS.TupAny
import HandS.TupMul
import KE.KRevSl
import HandS.Exc
import HandS.TryOnly
import HandS.ExcOwn
import HandS.WordsExc
import HandS.Wide
import HandS.IsInst
import HandS.Style
import HandS.Flow
import HandS.Evl
import HandS.MakeKwOnly
import HandS.Walk
import KE.KEqSeq
import HandS.OwnEq
import HandS.More
import PyProof.InstNe
import HandS.ClsMeth
import OpenK.KDescr
import KE.KCallOwn
import PyProof.StrLawsChain
import HandS.Codes
import PyProof.ReprRoads
import HandS.SetFor
import HandS.TupSets
import HandS.SetKeys
import HandS.Dict
import HandS.Iter
import HandS.Deep
import HandS.ReCall
import HandS.Conv
import KE.GoesMore
import HandS.Gcd
import HandS.Base
import HandS.Call
import HandS.Zip
import HandS.ExcInit
import HandS.ExcField
import HandS.ExcIs
import HandS.ExcValue
import HandS.RaiseMore
import PyProof.CallFns
import HandS.Lambda
import HandS.EndTab
import KE.KNestM
import HandS.DictComp
import PySem.Challenge.RW_handlerims_k33_sewings_tightened
set_option Elab.async false
set_option linter.all false
/-! Rows of letters, shortened: neighbours that are contraries taken out. -/
namespace Fr
/-- a letter laid on what is left, its last one in front -/
def push : List Int → Int → List Int
  | [], a => [a]
  | b :: t, a => if b = -a then t else a :: b :: t
def act (s : List Int) (xs : List Int) : List Int := xs.foldl push s
/-- no neighbours are contraries -/
def Rd : List Int → Prop
  | [] => True
  | [_] => True
  | a :: b :: t => a ≠ -b ∧ Rd (b :: t)
/-- what is left of a row of letters -/
def shr (xs : List Int) : List Int := (act [] xs).reverse
/-- the contraries, the last one first -/
def con (xs : List Int) : List Int := xs.reverse.map (fun a => -a)
theorem Rd.tail {a : Int} {t : List Int} (h : Rd (a :: t)) : Rd t := by
  cases t with
  | nil => trivial
  | cons b u => exact h.2
theorem push_rd {s : List Int} (a : Int) (h : Rd s) : Rd (push s a) := by
  cases s with
  | nil => trivial
  | cons b t =>
    show Rd (if b = -a then t else a :: b :: t)
    by_cases e : b = -a
    · rw [if_pos e]; exact h.tail
    · rw [if_neg e]
      refine ⟨?_, h⟩
      omega
theorem push_push {s : List Int} (a : Int) (h : Rd s) : push (push s a) (-a) = s := by
  cases s with
  | nil => simp [push]
  | cons b t =>
    by_cases e : b = -a
    · have h1 : push (b :: t) a = t := by simp [push, e]
      rw [h1]
      cases t with
      | nil => simp [push, e]
      | cons c u =>
        have hc : c ≠ - -a := by
          intro hc
          exact h.1 (by omega)
        simp [push, e]
        omega
    · have h1 : push (b :: t) a = a :: b :: t := by simp [push, e]
      rw [h1]
      simp [push]
theorem act_cons (s : List Int) (a : Int) (t : List Int) : act s (a :: t) = act (push s a) t := rfl
theorem act_append (s xs ys : List Int) : act s (xs ++ ys) = act (act s xs) ys := List.foldl_append
theorem act_snoc (s xs : List Int) (a : Int) : act s (xs ++ [a]) = push (act s xs) a := act_append s xs [a]
theorem act_rd : ∀ {xs s : List Int}, Rd s → Rd (act s xs)
  | [], _, h => h
  | a :: t, _, h => act_rd (xs := t) (push_rd a h)
/-- two rows are one and the same when they act alike -/
def Sm (xs ys : List Int) : Prop := ∀ s, Rd s → act s xs = act s ys
theorem Sm.refl (xs : List Int) : Sm xs xs := fun _ _ => rfl
theorem Sm.symm {xs ys : List Int} (h : Sm xs ys) : Sm ys xs := fun s r => (h s r).symm
theorem Sm.trans {xs ys zs : List Int} (h : Sm xs ys) (k : Sm ys zs) : Sm xs zs := fun s r => (h s r).trans (k s r)
theorem Sm.app {xs ys us vs : List Int} (h : Sm xs ys) (k : Sm us vs) : Sm (xs ++ us) (ys ++ vs) := fun s r => by
  rw [act_append, act_append, h s r, k _ (act_rd r)]
theorem Sm.out (a : Int) : Sm [a, -a] [] := fun s r => push_push a r
theorem Sm.mid {xs us vs ys : List Int} (h : Sm us vs) : Sm (xs ++ us ++ ys) (xs ++ vs ++ ys) := ((Sm.refl xs).app h).app (Sm.refl ys)
theorem shr_of_sm {xs ys : List Int} (h : Sm xs ys) : shr xs = shr ys := by
  unfold shr
  rw [h [] trivial]
theorem shr_out (xs : List Int) (a : Int) (ys : List Int) : shr (xs ++ a :: -a :: ys) = shr (xs ++ ys) := by
  refine shr_of_sm ?_
  have h : Sm (xs ++ [a, -a] ++ ys) (xs ++ [] ++ ys) := Sm.mid (Sm.out a)
  simpa using h
/-! ### short ones -/
theorem rd_cons {a : Int} {t : List Int} : Rd (a :: t) ↔ (∀ b, t.head? = some b → a ≠ -b) ∧ Rd t := by
  cases t with
  | nil => simp [Rd]
  | cons b u => simp [Rd]
theorem rd_append {xs ys : List Int} : Rd (xs ++ ys) ↔ Rd xs ∧ Rd ys ∧ ∀ a b, xs.getLast? = some a → ys.head? = some b → a ≠ -b := by
  induction xs with
  | nil => simp [Rd]
  | cons x t ih =>
    rw [List.cons_append, rd_cons, rd_cons, ih]
    cases t with
    | nil =>
      simp [Rd]
      constructor
      · rintro ⟨h1, h2⟩
        exact ⟨h2, fun a b ha hb => ha ▸ h1 b hb⟩
      · rintro ⟨h1, h2⟩
        exact ⟨fun b hb => h2 x b rfl hb, h1⟩
    | cons y u =>
      simp [List.getLast?_cons_cons]
      constructor
      · rintro ⟨h1, h2, h3, h4⟩
        exact ⟨⟨h1, h2⟩, h3, h4⟩
      · rintro ⟨⟨h1, h2⟩, h3, h4⟩
        exact ⟨h1, h2, h3, h4⟩
theorem rd_reverse {xs : List Int} : Rd xs.reverse ↔ Rd xs := by
  induction xs with
  | nil => simp [Rd]
  | cons x t ih =>
    rw [List.reverse_cons, rd_append, ih, rd_cons (a := x) (t := t)]
    have one : Rd [x] := trivial
    simp [one]
    constructor
    · rintro ⟨h1, h2⟩
      refine ⟨fun b hb => ?_, h1⟩
      have := h2 b hb
      omega
    · rintro ⟨h1, h2⟩
      refine ⟨h2, fun b hb => ?_⟩
      have := h1 b hb
      omega
theorem rd_shr (xs : List Int) : Rd (shr xs) := rd_reverse.2 (act_rd trivial)
theorem act_short : ∀ (xs s : List Int), Rd (s.reverse ++ xs) → act s xs = xs.reverse ++ s
  | [], s, _ => by simp [act]
  | a :: t, s, h => by
    rw [act_cons]
    have hp : push s a = a :: s := by
      cases s with
      | nil => rfl
      | cons b u =>
        have h3 := (rd_append.1 h).2.2 b a (by simp) (by simp)
        show (if b = -a then u else a :: b :: u) = _
        rw [if_neg h3]
    rw [hp, act_short t (a :: s) (by simpa using h)]
    simp
theorem shr_short {xs : List Int} (h : Rd xs) : shr xs = xs := by
  unfold shr
  rw [act_short xs [] (by simpa using h)]
  simp
/-- a short one that acts alike is what is left -/
theorem shr_eq {xs ys : List Int} (h : Sm xs ys) (r : Rd ys) : shr xs = ys := (shr_of_sm h).trans (shr_short r)
/-! ### contraries -/
theorem con_cons (a : Int) (t : List Int) : con (a :: t) = con t ++ [-a] := by simp [con]
theorem con_con (xs : List Int) : con (con xs) = xs := by
  simp [con, List.map_reverse, Function.comp_def]
theorem con_length (xs : List Int) : (con xs).length = xs.length := by simp [con]
theorem sm_con : ∀ xs : List Int, Sm (xs ++ con xs) []
  | [] => Sm.refl _
  | a :: t => by
    rw [con_cons]
    have h : Sm ([a] ++ (t ++ con t) ++ [-a]) ([a] ++ [] ++ [-a]) := Sm.mid (sm_con t)
    have k : Sm ([a] ++ [] ++ [-a]) [] := Sm.out a
    have := h.trans k
    simpa using this
theorem sm_con' (xs : List Int) : Sm (con xs ++ xs) [] := by
  have := sm_con (con xs)
  rwa [con_con] at this
theorem Sm.con {xs ys : List Int} (h : Sm xs ys) : Sm (con xs) (con ys) := by
  have h1 : Sm (Fr.con xs ++ (ys ++ Fr.con ys)) (Fr.con xs ++ []) := (Sm.refl _).app (sm_con ys)
  have h2 : Sm (Fr.con xs ++ ys ++ Fr.con ys) (Fr.con xs ++ xs ++ Fr.con ys) := Sm.mid h.symm
  have h3 : Sm (Fr.con xs ++ xs ++ Fr.con ys) ([] ++ Fr.con ys) := (sm_con' xs).app (Sm.refl _)
  rw [List.append_nil, ← List.append_assoc] at h1
  exact (h1.symm.trans h2).trans h3
/-! ### so many times -/
/-! ### the ends -/
/-- short, and its ends are no contraries -/
def Cy (w : List Int) : Prop := Rd w ∧ ∀ a b, w.head? = some a → w.getLast? = some b → a ≠ -b
/-- no letter is 0 -/
def NZ (xs : List Int) : Prop := ∀ a ∈ xs, a ≠ 0
theorem cy_nil : Cy [] := ⟨trivial, fun a b h => by simp at h⟩
theorem NZ.app {xs ys : List Int} (h : NZ xs) (k : NZ ys) : NZ (xs ++ ys) := fun a ha => by
  rcases List.mem_append.1 ha with h1 | h1
  · exact h a h1
  · exact k a h1
theorem NZ.con {xs : List Int} (h : NZ xs) : NZ (con xs) := fun a ha => by
  unfold Fr.con at ha
  obtain ⟨b, hb, rfl⟩ := List.mem_map.1 ha
  have := h b (List.mem_reverse.1 hb)
  omega
theorem push_mem {s : List Int} {a x : Int} (h : x ∈ push s a) : x = a ∨ x ∈ s := by
  cases s with
  | nil => left; simpa [push] using h
  | cons b t =>
    have h2 : x ∈ (if b = -a then t else a :: b :: t) := h
    by_cases e : b = -a
    · rw [if_pos e] at h2; exact .inr (List.mem_cons_of_mem _ h2)
    · rw [if_neg e] at h2
      rcases List.mem_cons.1 h2 with h3 | h3
      · exact .inl h3
      · exact .inr h3
theorem act_mem : ∀ {xs s : List Int} {x : Int}, x ∈ act s xs → x ∈ xs ∨ x ∈ s
  | [], _, _, h => .inr h
  | a :: t, s, x, h => by
    rw [act_cons] at h
    rcases act_mem h with h1 | h1
    · exact .inl (List.mem_cons_of_mem _ h1)
    · rcases push_mem h1 with h2 | h2
      · exact .inl (h2 ▸ List.mem_cons_self)
      · exact .inr h2
theorem shr_mem {xs : List Int} {x : Int} (h : x ∈ shr xs) : x ∈ xs := by
  unfold shr at h
  rcases act_mem (List.mem_reverse.1 h) with h1 | h1
  · exact h1
  · simp at h1
theorem NZ.shr {xs : List Int} (h : NZ xs) : NZ (shr xs) := fun a ha => h a (shr_mem ha)
/-- a row between a letter and its contrary, or one that has no such ends -/
theorem ends_or (xs : List Int) (nz : NZ xs) : (∃ a m, xs = a :: (m ++ [-a])) ∨ ∀ a b, xs.head? = some a → xs.getLast? = some b → a ≠ -b := by
  cases xs with
  | nil => right; intro a b h; simp at h
  | cons a t =>
    by_cases ht : t = []
    · subst ht
      right
      intro x y hx hy
      simp at hx hy
      have := nz a (by simp)
      omega
    · have e := List.dropLast_concat_getLast ht
      by_cases hb : t.getLast ht = -a
      · left
        refine ⟨a, t.dropLast, ?_⟩
        rw [← hb, e]
      · right
        intro x y hx hy
        rw [← e] at hy
        rw [show a :: (t.dropLast ++ [t.getLast ht]) = (a :: t.dropLast) ++ [t.getLast ht] from rfl] at hy
        rw [List.getLast?_append] at hy
        simp at hx hy
        omega
/-- every short row is a row, one that is short round, and the contrary of the first -/
theorem parted (xs : List Int) (nz : NZ xs) (r : Rd xs) : ∃ u w, xs = u ++ w ++ con u ∧ Cy w ∧ (w = [] → u = []) := by
  have gen : ∀ (n : Nat) (xs : List Int), xs.length ≤ n → NZ xs → Rd xs → ∃ u w, xs = u ++ w ++ con u ∧ Cy w ∧ (w = [] → u = []) := by
    intro n
    induction n with
    | zero =>
      intro xs h _ _
      have : xs = [] := List.length_eq_zero_iff.1 (by omega)
      subst this
      exact ⟨[], [], rfl, cy_nil, fun _ => rfl⟩
    | succ n ih =>
      intro xs h nz r
      rcases ends_or xs nz with ⟨a, m, rfl⟩ | k
      · have hr : Rd (m ++ [-a]) := r.tail
        have hm : Rd m := (rd_append.1 hr).1
        obtain ⟨u, w, e, c, z⟩ := ih m (by simp at h; omega) (fun x hx => nz x (by simp [hx])) hm
        have hne : m ≠ [] := by
          intro e0
          subst e0
          have := r.1
          simp at this
        refine ⟨a :: u, w, ?_, c, fun hw => ?_⟩
        · rw [con_cons, e]; simp
        · exfalso
          have hu := z hw
          subst hw hu
          exact hne (by simpa [con] using e)
      · exact ⟨[], xs, by simp [con], ⟨r, k⟩, fun _ => rfl⟩
  exact gen xs.length xs (Nat.le_refl _) nz r
/-- the ends off, as long as they are contraries -/
def endsN : Nat → List Int → List Int
  | 0, xs => xs
  | n + 1, xs => if 1 < xs.length ∧ xs.head? = xs.getLast?.map (fun a => -a) then endsN n xs.tail.dropLast else xs
def ends (xs : List Int) : List Int := endsN xs.length xs
theorem endsN_cy : ∀ (n : Nat) {w : List Int}, Cy w → endsN n w = w
  | 0, _, _ => rfl
  | n + 1, w, h => by
    unfold endsN
    rw [if_neg]
    rintro ⟨h1, h2⟩
    cases e : w.getLast? with
    | none =>
      rw [List.getLast?_eq_none_iff] at e
      subst e
      simp at h1
    | some b =>
      rw [e] at h2
      exact h.2 (-b) b h2 e rfl
theorem endsN_eq : ∀ (n : Nat) (u w : List Int), Cy w → u.length ≤ n → (w = [] → u = []) → endsN n (u ++ w ++ con u) = w
  | n, [], w, c, _, _ => by
    simp [con]
    exact endsN_cy n c
  | 0, a :: u, w, c, h, _ => by simp at h
  | n + 1, a :: u, w, c, h, z => by
    have e : (a :: u) ++ w ++ con (a :: u) = a :: ((u ++ w ++ con u) ++ [-a]) := by
      rw [con_cons]; simp
    rw [e]
    unfold endsN
    rw [if_pos]
    · rw [List.tail_cons, List.dropLast_concat]
      refine endsN_eq n u w c (by simp at h; exact h) fun hw => ?_
      have := z hw
      simp at this
    · constructor
      · simp only [List.length_cons, List.length_append, List.length_nil]; omega
      · rw [show a :: ((u ++ w ++ con u) ++ [-a]) = (a :: (u ++ w ++ con u)) ++ [-a] from rfl, List.getLast?_append]
        simp
theorem ends_eq {u w : List Int} (c : Cy w) (z : w = [] → u = []) : ends (u ++ w ++ con u) = w :=
  endsN_eq _ u w c (by simp) z
theorem ends_cy {w : List Int} (c : Cy w) : ends w = w := endsN_cy _ c
/-- what is left of a ring -/
def rnd (xs : List Int) : List Int := ends (shr xs)
theorem rnd_of {xs u w : List Int} (h : Sm xs (u ++ w ++ con u)) (r : Rd (u ++ w ++ con u)) (c : Cy w) (z : w = [] → u = []) : rnd xs = w := by
  unfold rnd
  rw [shr_eq h r]
  exact ends_eq c z
theorem rnd_cy {xs : List Int} (nz : NZ xs) : Cy (rnd xs) := by
  obtain ⟨u, w, e, c, z⟩ := parted (shr xs) nz.shr (rd_shr xs)
  unfold rnd
  rw [e, ends_eq c z]
  exact c
theorem rnd_iff {xs : List Int} (nz : NZ xs) : rnd xs = xs ↔ Cy xs := by
  constructor
  · intro h
    rw [← h]
    exact rnd_cy nz
  · intro c
    unfold rnd
    rw [shr_short c.1, ends_cy c]
/-! ### turned -/
def Trn (xs ys : List Int) : Prop := ∃ p q, xs = p ++ q ∧ ys = q ++ p
theorem Trn.refl (xs : List Int) : Trn xs xs := ⟨[], xs, rfl, by simp⟩
theorem Trn.symm {xs ys : List Int} (h : Trn xs ys) : Trn ys xs := by
  obtain ⟨p, q, e1, e2⟩ := h
  exact ⟨q, p, e2, e1⟩
theorem Trn.trans {xs ys zs : List Int} (h : Trn xs ys) (k : Trn ys zs) : Trn xs zs := by
  obtain ⟨p, q, rfl, e⟩ := h
  obtain ⟨p2, q2, e2, rfl⟩ := k
  rw [e] at e2
  rcases List.append_eq_append_iff.1 e2 with ⟨c, h1, h2⟩ | ⟨c, h1, h2⟩
  · subst h1 h2
    exact ⟨c, q2 ++ q, by simp, by simp⟩
  · subst h1 h2
    exact ⟨p ++ p2, c, by simp, by simp⟩
/-! ### so many times one that is short round -/
end Fr
set_option Elab.async false
set_option linter.all false
set_option maxRecDepth 100000
set_option maxHeartbeats 2000000
/-! {e for x in xs}, e an int. -/
namespace WS
open PySem PySem.Spec PyProof.Rows L2 PpSet
/-- a set as it is when it is made -/
abbrev bareSet (w : World) : Obj := { cls := .type "set", dict := none, data := .set #[] 0 (.fresh 0 0 (!w.params.followText "set-order")) }
theorem bare_ok (w : World) (h : Heap) : SetR w (h.push (bareSet w)) h.objs.size (fun _ => false) 0 := by
  have led : w.params.followText "set-order" = true ∨ (!w.params.followText "set-order") = true := by
    cases w.params.followText "set-order"
    · right; rfl
    · left; rfl
  refine ⟨bareSet w, #[], 0, _, Heap.get?_push_size _ rfl, ⟨rfl, rfl, rfl⟩, rfl, ?_, ?_, ?_, by decide, rfl, rfl, List.Pairwise.nil, led⟩
  · intro e he; simp at he
  · simp
  · intro k; simp
/-- the new set at D, filled turn by turn -/
def Fills (w : World) (J : It) (g : TG) (tt : TT) (te : TE) (vs : List Nat) (σ : L2.St) (D : Addr) (Q : VK) (W : Nat → Nat → Hp → Prop) : Prop :=
  ∀ i m H, W i m H → (J.stop i H ∧ Q (.ref D) H) ∨ (J.go i H ∧ ∃ N : Hp → Prop, (∀ H', N H' → ∃ m', m' < m ∧ W (i + 1) m' H') ∧
    ∀ x H', J.yld i H x H' → g x (wipe σ vs) H' fun σ2 H2 => wipe σ2 vs = wipe σ vs ∧ tt σ2 H2 fun b H3 => if b = true then te σ2 H3 fun y H4 => rSAdd w (.ref D) [y] H4 fun _ H5 => N H5 else N H3)
def tSetI (w : World) (wi : TI) (g : TG) (tt : TT) (te : TE) (vs : List Nat) : TE := fun σ H Q => wi σ H fun J H1 => ∀ D, H1 D = none →
  ∃ W : Nat → Nat → Hp → Prop, (∃ m, W 0 m (upd H1 D (SetO w D (fun _ => false) 0))) ∧ Fills w J g tt te vs σ D Q W
section
variable {X : Cx}
/-- what a turn leaves known -/
def Known (X : Cx) (Z : Cx) (σw : L2.St) (fp : List Addr) (tn : Nat → Heap → Prop) (W : Nat → Nat → Hp → Prop) (m : Nat) (s : Shared) : Prop :=
  ∃ (i : Nat) (H : Hp), Inv Z [] σw H s ∧ tn i s.heap ∧ (∀ b ∈ fp, H b = none) ∧ W i m H
theorem fill_set {elt tg iter : Expr} {ifs : List Expr} {scope : Scope} {own : List (PySem.Str × Nat)} {pos : Pos} {g : TG} {tt : TT} {te : TE} {pins : List (Addr × Obj)} {σ : L2.St} {H3 : Hp} {s3 : Shared} {it D : Addr} {fp : List Addr} {tn : Nat → Heap → Prop} {J : It} {m0 : Nat} {W : Nat → Nat → Hp → Prop} {Q : VK}
    (calm : X.calm = true) (nod : X.N.Nodup) (blk : BlkOk X.N X.env.scope scope own)
    (target : ∀ (s : Shared) (H : Hp) (C : Addr) (cl : List (PySem.Str × Addr)) (fp : List Addr), PG (X.blk s H scope (compEnvC scope cl C X.env) fp) tg g)
    (tests : ∀ (s : Shared) (H : Hp) (C : Addr) (cl : List (PySem.Str × Addr)) (fp : List Addr), PTs (X.blk s H scope (compEnvC scope cl C X.env) fp) ifs tt)
    (item : ∀ (s : Shared) (H : Hp) (C : Addr) (cl : List (PySem.Str × Addr)) (fp : List Addr), PE (X.blk s H scope (compEnvC scope cl C X.env) fp) elt te)
    (T : Turn X.prog X.w X.K tg J fp it tn) (I3 : Inv X pins σ H3 s3) (off : ∀ b ∈ fp, FpOk X pins H3 b ∧ b < s3.heap.objs.size) (st3 : tn 0 s3.heap) (w0 : W 0 m0 H3) (turn : Fills X.w J g tt te (own.map (·.2)) σ D Q W) :
    codeAny (model X.prog X.w) X.A (.compStart (.SetComp elt [⟨tg, iter, ifs, 0⟩] scope pos) 0 (.ref it) (.ref D) (compEnvC scope (cellsFrom (s3.heap.objs.size + 1) scope.names (cloFrom X.env.cells scope.names [])) s3.heap.objs.size X.env))
      (compPost (model X.prog X.w) X.A X.xe none (EP X pins σ Q) (.ref D) s3.heap.objs.size) { s3 with heap := pushCells (s3.heap.push { cls := .type "dict", data := .dict #[] }) scope.names } := by
  have I4 := block_start I3 blk nod off
  have pg := target s3 H3 s3.heap.objs.size (cellsFrom (s3.heap.objs.size + 1) scope.names (cloFrom X.env.cells scope.names [])) fp
  have pt := tests s3 H3 s3.heap.objs.size (cellsFrom (s3.heap.objs.size + 1) scope.names (cloFrom X.env.cells scope.names [])) fp
  have pe := item s3 H3 s3.heap.objs.size (cellsFrom (s3.heap.objs.size + 1) scope.names (cloFrom X.env.cells scope.names [])) fp
  have st4 : tn 0 (pushCells (s3.heap.push { cls := .type "dict", data := .dict #[] }) scope.names) := T.keep _ _ _ st3 fun _ _ _ e => pushCells_keeps _ _ _ _ (Heap.get?_push_of_some _ e)
  obtain ⟨ce, ece⟩ : ∃ ce : Env, ce = compEnvC scope (cellsFrom (s3.heap.objs.size + 1) scope.names (cloFrom X.env.cells scope.names [])) s3.heap.objs.size X.env := ⟨_, rfl⟩
  have loc : ce.locals = s3.heap.objs.size := by rw [ece]; rfl
  rw [← ece] at I4 pg pt pe ⊢
  -- the places that the walk keeps
  have held : ∀ {σ' : L2.St} {H' : Hp} {s' : Shared}, Inv (X.blk s3 H3 scope ce fp) [] σ' H' s' → (∀ b ∈ fp, H' b = none) → ∀ b ∈ fp, FpOk (X.blk s3 H3 scope ce fp) [] H' b := by
    intro σ' H' s' I' none' b hb
    refine ⟨none' b hb, (I'.ok.exf b hb).1, I'.ok.exfs b hb, .inl hb, (I'.ok.exf b hb).2, fun p hp => ?_⟩
    simp at hp
  have all : codeAny (model X.prog X.w) X.A (.compLoop (.SetComp elt [⟨tg, iter, ifs, 0⟩] scope pos) 0 (.ref it) (.ref D) ce) (compPost (model X.prog X.w) X.A X.xe none (EP X pins σ Q) (.ref D) s3.heap.objs.size) { s3 with heap := pushCells (s3.heap.push { cls := .type "dict", data := .dict #[] }) scope.names } := by
    refine compLoopS_any (Known X (X.blk s3 H3 scope ce fp) (wipe σ (own.map (·.2))) fp tn W) (fun m s5 known => ?_) m0 ⟨0, H3, I4, st4, fun b hb => (off b hb).1.1, w0⟩
    obtain ⟨i, H5, I5, st5, none5, w5⟩ := known
    cases turn i m H5 w5 with
    | inl ended =>
      refine thnF (T.done (X.blk s3 H3 scope ce fp) rfl rfl rfl calm i [] s5 _ H5 (fun _ _ => False) I5 (held I5 none5) st5 ended.1) fun r s6 hr => ?_
      obtain ⟨rfl, I6⟩ := hr
      have back : Inv X pins σ H5 s6 := I3.call' (ch := fp) I6.os I6.base I6.hok I6.bare fun b hb => by
        obtain ⟨⟨_, f1, f2, f3, f4, f5⟩, _⟩ := off b hb
        exact ⟨f3, f1, f4, f5⟩
      have noL : H5 s3.heap.objs.size = none := by rw [← loc]; exact I6.free
      obtain ⟨mm, names, _⟩ := I6.loc
      have names' : s6.heap.Ns s3.heap.objs.size mm := by rw [← loc]; exact names
      obtain ⟨f0, f1, f2, f3, f4, f5⟩ := I3.fpOk (Nat.le_refl _) noL
      exact ⟨mm, names', fun h' same => ⟨.ref D, H5, back.turned (t' := s6.toks) (fun b o hb e => (same.2 b hb).trans e) f0 f1 f3 f4 f5, rfl, ended.2⟩⟩
    | inr goes =>
      obtain ⟨go, N, hN, step⟩ := goes
      refine thnF (T.item (X.blk s3 H3 scope ce fp) rfl rfl rfl calm i [] s5 _ H5 (fun _ _ => False) I5 (held I5 none5) st5 go) fun r s6 hr => ?_
      obtain ⟨u, rfl, h6⟩ := hr
      refine thnF h6 fun _ s7 h7 => ?_
      obtain ⟨x, H7, I7, r7, y7, st7, none7⟩ := h7
      refine thnF (pg.run _ s7 _ H7 x u _ (I7.pinned (held I7 none7) (T.obj _ _ st7)) r7 (step x H7 y7)) fun _ s8 h8 => ?_
      obtain ⟨σ8, H8, I8, wiped, q8⟩ := h8
      refine thnF (pt.run _ s8 σ8 H8 _ I8 q8) fun b s9 h9 => ?_
      obtain ⟨H9, I9, q9⟩ := h9
      have next : ∀ {s' : Shared} {H' : Hp}, Inv (X.blk s3 H3 scope ce fp) ([] ++ pinsAt fp s7.heap) σ8 H' s' → N H' → ∃ m', m' < m ∧ Known X (X.blk s3 H3 scope ce fp) (wipe σ (own.map (·.2))) fp tn W m' s' := by
        intro s' H' I' nx
        obtain ⟨m', lt, w'⟩ := hN H' nx
        have kept : ∀ b ∈ fp, ∀ o, s7.heap.get? b = some o → s'.heap.get? b = some o ∧ H' b = none := by
          intro b hb o e
          obtain ⟨z1, z2, _⟩ := I'.pin (b, o) (List.mem_append_right _ (List.mem_append_right _ (mem_pinsAt hb e)))
          exact ⟨z1, z2⟩
        have len : (wipe σ (own.map (·.2))).length = σ8.length := by rw [← wiped, wipe_length]
        refine ⟨m', lt, i + 1, H', (I'.unpinned (pins := [])).weak len (fun j v e => ?_), T.keep _ _ _ st7 fun b hb o e => (kept b hb o e).1, fun b hb => ?_, w'⟩
        · rw [← wiped] at e
          exact (wipe_some e).1
        · obtain ⟨o, e, _⟩ := T.obj _ _ st7 b hb
          exact (kept b hb o e).2
      cases b with
      | false =>
        rw [if_neg Bool.false_ne_true] at q9 ⊢
        exact next I9 q9
      | true =>
        rw [if_pos rfl] at q9 ⊢
        refine thnF (pe.run _ s9 σ8 H9 _ I9 q9) fun z s10 h10 => ?_
        obtain ⟨yv, H10, I10, r10, adds⟩ := h10
        refine thnF (mt_sadd (X := X.blk s3 H3 scope ce fp) _ s10 σ8 H10 (.ref D) [yv] (.ref D) [z] _ I10 rfl (.cons r10 .nil) adds) fun _ s11 h11 => ?_
        obtain ⟨_, H11, I11, _, nx⟩ := h11
        exact next I11 nx
  exact codeAny_compStart_set all (T.self X.A 0 _ _ _ st4 all)
theorem pe_setI {elt tg iter : Expr} {ifs : List Expr} {scope : Scope} {own : List (PySem.Str × Nat)} {pos : Pos} {wi : TI} {g : TG} {tt : TT} {te : TE} (calm : X.calm = true) (nod : X.N.Nodup) (walked : PI X tg iter wi) (blk : BlkOk X.N X.env.scope scope own)
    (target : ∀ (s : Shared) (H : Hp) (C : Addr) (cl : List (PySem.Str × Addr)) (fp : List Addr), PG (X.blk s H scope (compEnvC scope cl C X.env) fp) tg g)
    (tests : ∀ (s : Shared) (H : Hp) (C : Addr) (cl : List (PySem.Str × Addr)) (fp : List Addr), PTs (X.blk s H scope (compEnvC scope cl C X.env) fp) ifs tt)
    (item : ∀ (s : Shared) (H : Hp) (C : Addr) (cl : List (PySem.Str × Addr)) (fp : List Addr), PE (X.blk s H scope (compEnvC scope cl C X.env) fp) elt te) (plain : ∀ x, foldedSetIterable iter X.env x = pure x := by intro _; rfl) :
    PE X (.SetComp elt [⟨tg, iter, ifs, 0⟩] scope pos) (tSetI X.w wi g tt te (own.map (·.2))) := by
  refine ⟨fun pins s σ H Q I asked => ?_⟩
  rw [eval_SetComp]
  have caught : ∀ y ∈ scope.names, y.2 = .free → ∃ c, X.env.cells.lookup y.1 = some c := by
    intro y hy e
    cases blk.free y hy e with
    | inl k => exact I.ok.has _ (.inl k)
    | inr k => exact I.ok.has _ (.inr k)
  refine wpAny_comprehension_free (use := none) rfl plain (closure_ok caught) blk.kind (fun y hy e => by rw [blk.uniq y hy, e]) ?_
  refine thn (walked.run pins s σ H _ I asked) fun _ _ h1 => thn h1 fun _ s2 h2 => ?_
  obtain ⟨it, fp, tn, J, H2, rfl, I2, T, st2, off2, fill⟩ := h2
  refine newSet_ok (newEnv_comp ?_)
  have free0 : H2 s2.heap.objs.size = none := I2.hok.fresh (Nat.le_refl _)
  obtain ⟨W, ⟨m0, w0⟩, turn⟩ := fill s2.heap.objs.size free0
  have I3 : Inv X pins σ (upd H2 s2.heap.objs.size (SetO X.w s2.heap.objs.size (fun _ => false) 0)) { s2 with heap := s2.heap.push (bareSet X.w) } :=
    I2.laid (t' := s2.toks) (fun _ _ e => Heap.get?_push_of_some _ e) (Nat.le_refl _) (setO_new (bare_ok X.w s2.heap))
  have below : ∀ b ∈ fp, b < s2.heap.objs.size := by
    intro b hb
    obtain ⟨o, e, _⟩ := T.obj _ _ st2 b hb
    exact Heap.lt_size e
  have off3 : ∀ b ∈ fp, FpOk X pins (upd H2 s2.heap.objs.size (SetO X.w s2.heap.objs.size (fun _ => false) 0)) b ∧ b < (s2.heap.push (bareSet X.w)).objs.size := by
    intro b hb
    refine ⟨⟨?_, (off2 b hb).2⟩, by rw [Heap.size_push]; exact Nat.lt_succ_of_lt (below b hb)⟩
    rw [upd_ne (Nat.ne_of_lt (below b hb))]
    exact (off2 b hb).1
  exact fill_set calm nod blk target tests item T I3 off3 (T.keep _ _ _ st2 fun _ _ _ e => Heap.get?_push_of_some _ e) w0 turn
end
end WS
set_option Elab.async false
set_option linter.all false
set_option maxRecDepth 100000
set_option maxHeartbeats 2000000
/-! t[::-1]; tuple * int for 0 and 1. -/
namespace WR
open PySem PySem.Spec PyProof.Rows L2
section
variable {prog : Program} {w : World} {A : Around} {E : Value → Shared → Prop} {s : Shared}
theorem adjust_back (n : Nat) : Builtin.Slice.sliceAdjust none none (-1) (n : Int) = ((n : Int) - 1, -1) := by
  unfold Builtin.Slice.sliceAdjust
  simp
theorem places_back (n : Nat) : Builtin.Slice.slicePlaces ((n : Int) - 1) (-1) (-1) = n := by
  unfold Builtin.Slice.slicePlaces
  have h1 : ¬ ((-1 : Int) > 0) := by omega
  simp only [h1, if_false]
  rw [show (- -1 : Int) = 1 by decide, Int.ediv_one]
  split <;> omega
theorem fm_congr {α β : Type} {f g : α → Option β} : ∀ {l : List α}, (∀ m ∈ l, f m = g m) → l.filterMap f = l.filterMap g
  | [], _ => rfl
  | a :: t, h => by
    rw [List.filterMap_cons, List.filterMap_cons, h a List.mem_cons_self, fm_congr fun m hm => h m (List.mem_cons_of_mem _ hm)]
theorem pick_back (xs : Array Value) : ((List.range xs.size).filterMap fun (m : Nat) => xs[((xs.size : Int) - 1 + (m : Int) * (-1)).toNat]?).toArray = xs.toList.reverse.toArray := by
  have e : (List.range xs.size).filterMap (fun (m : Nat) => xs[((xs.size : Int) - 1 + (m : Int) * (-1)).toNat]?) = ((List.range xs.size).map fun k => xs.size - 1 - k).filterMap (xs[·]?) := by
    rw [List.filterMap_map]
    refine fm_congr fun m hm => ?_
    have hm2 := List.mem_range.mp hm
    have : ((xs.size : Int) - 1 + (m : Int) * (-1)).toNat = xs.size - 1 - m := by omega
    rw [this]
    rfl
  rw [e, PySem.W.krv_range, List.filterMap_reverse, PySem.W.krv_all]
theorem sliceApplied_back {sl : Addr} {vl vu vs : Value} {n : Nat} {Q : Int × Int × Nat → Shared → Prop} (hs : s.heap.IsSliceOf sl vl vu vs) (pl : IsPart vl none) (pu : IsPart vu none) (ps : IsPart vs (some (-1)))
    (h : Q ((n : Int) - 1, -1, n) s) : wpAny (model prog w) A (Builtin.Slice.sliceApplied (.ref sl) (pure (n : Int))) Q E s := by
  obtain ⟨os, hos, hcs, hds⟩ := id hs
  unfold Builtin.Slice.sliceApplied Builtin.Slice.sliceFields
  refine wpAny_bind (wpAny_bind (wpAny_field hos hds (x := vl) rfl (wpAny_bind (wpAny_field hos hds (x := vu) rfl (wpAny_bind (wpAny_field hos hds (x := vs) rfl (wpAny_pure ?_)))))))
  refine wpAny_bind (HT.slicePart_ ps ?_)
  show wpAny _ _ (if ((-1 : Int) == 0) = true then _ else _) _ _ s
  rw [if_neg (by decide)]
  refine wpAny_bind (HT.slicePart_ pl (wpAny_bind (HT.slicePart_ pu (wpAny_bind (wpAny_pure ?_)))))
  show wpAny _ _ (match Builtin.Slice.sliceAdjust none none (-1) (n : Int) with | (lo, hi) => pure (lo, (-1 : Int), Builtin.Slice.slicePlaces lo hi (-1))) _ _ s
  rw [adjust_back n]
  show wpAny _ _ (pure ((n : Int) - 1, (-1 : Int), Builtin.Slice.slicePlaces ((n : Int) - 1) (-1) (-1))) _ _ s
  rw [places_back]
  exact wpAny_pure h
theorem getItem_tuple_back {t sl : Addr} {items : Array Value} {vl vu vs : Value} {Q : Value → Shared → Prop} (ht : IsTup s.heap t items) (hs : s.heap.IsSliceOf sl vl vu vs) (pl : IsPart vl none) (pu : IsPart vu none) (ps : IsPart vs (some (-1)))
    (h : Q (.ref s.heap.objs.size) { s with heap := s.heap.push { cls := .type "tuple", data := .seq items.toList.reverse.toArray } })
    (hsz : items.size ≤ sizeLine) : wpAny (model prog w) A (getItem (.ref t) (.ref sl)) Q E s := by
  have htake : sizeOk (.seq items.toList.reverse.toArray) := by
    show items.toList.reverse.toArray.size ≤ sizeLine
    rw [List.size_toArray, List.length_reverse, Array.length_toList]
    exact hsz
  obtain ⟨os, hos, hcs, hds⟩ := id hs
  have hTs : s.TypeIs (.ref sl) "slice" := ⟨os, hos, hcs⟩
  unfold getItem
  try with_reducible refine wpAny_holding ?_
  first | refine wpAny_bind (wpAny_pure ?_) | skip
  refine wpAny_bind (wpAny_sequenceKey ht.typeIs (by decide) ?_)
  refine wpAny_bind (wpAny_callSpecial?_slot (name := Str.ofString "__getitem__") ht.typeIs PyProof.Rows.slot_tuple_getitem
    (wpAny_call_entry PyProof.Rows.slot_tuple_getitem ht.typeIs entry_tuple_getitem ?_ (args_tuple_getitem _ _)))
  show wpAny _ _ (Builtin.Tuple.tupleItemsOf (.ref t) >>= _) _ _ s
  refine wpAny_bind (tupleItemsOf_ ht ?_)
  refine wpAny_bind (wpAny_typeOf hTs ?_)
  rw [if_pos (by decide)]
  refine wpAny_bind (sliceApplied_back hs pl pu ps ?_)
  have hno : ¬ ((((items.size : Int) - 1) == 0 && (-1 : Int) == 1 && items.size == items.size) = true) := by
    intro q
    rw [Bool.and_eq_true, Bool.and_eq_true] at q
    exact absurd q.1.2 (by decide)
  show wpAny _ _ (if (((items.size : Int) - 1) == 0 && (-1 : Int) == 1 && items.size == items.size) = true then _ else _) _ _ s
  rw [if_neg hno, pick_back]
  first
    | exact wpAny_bind (m := Builtin.Tuple.tupleExact _) (wpAny_newObj_type (wpAny_pure ⟨_, rfl, wpAny_pure h⟩) htake)
    | exact wpAny_bind (m := Builtin.Tuple.tupleExact _) (wpAny_newObj_type (wpAny_bind (wpAny_pure (wpAny_pure ⟨_, rfl, wpAny_pure h⟩))) htake)
end
section
variable {X : Cx}
def tRevT (K : PySem.W.Frag) (te : TE) : TE := fun σ H Q => te σ H fun x H1 => ∃ a xs, x = .ref a ∧ SqT K H1 a xs ∧ ∀ p, H1 p = none → Q (.ref p) (upd H1 p (.tup xs.reverse))
theorem pe_revT {e : Expr} {te : TE} {k : Nat} {p1 p2 p3 pos : Pos} (he : PE X e te) : PE X (.Subscript e (.Slice none none (some (.UnaryOp .USub (.Constant (.int 1) k p1) p2)) p3) pos) (tRevT X.K te) := by
  refine ⟨fun pins s σ H Q I h => ?_⟩
  refine Subscript_ (thn (he.run pins s σ H _ I h) fun v s1 ⟨x, H1, I1, r1, q1⟩ => ?_)
  obtain ⟨a, xs, ex, hx, q⟩ := q1
  subst ex
  cases r1
  have hst : PO X (some (.UnaryOp .USub (.Constant (.int 1) k p1) p2)) (tPart (tUn (rU fun i => .int (-i)) (tC (.int 1)))) := po_some (pe_un un_neg pe_int)
  refine wpAny_Slice (thn (po_none.run pins s1 σ H1 (fun o H2 => o = none ∧ H2 = H1) I1 ⟨rfl, rfl⟩) fun vl s2 ⟨l, H2, I2, pl, el, e2⟩ => ?_)
  subst el e2
  refine thn (po_none.run pins s2 σ H2 (fun o H3 => o = none ∧ H3 = H2) I2 ⟨rfl, rfl⟩) fun vu s3 ⟨u, H3, I3, pu, eu, e3⟩ => ?_
  subst eu e3
  refine thn (hst.run pins s3 σ H3 (fun o H4 => o = some (-1) ∧ H4 = H3) I3 ⟨1, rfl, -1, rfl, rfl, rfl⟩) fun vs s4 ⟨o, H4, I4, ps, eo, e4⟩ => ?_
  subst eo e4
  have I5 : Inv X pins σ H4 { s4 with heap := s4.heap.push { cls := .type "slice", data := .fields #[vl, vu, vs] } } := I4.kept (t' := s4.toks) fun b ob q => Heap.get?_push_of_some _ q
  obtain ⟨its, r, ht, hz⟩ := I5.tuple hx
  have hlen := r.length
  show wpAny (model X.prog X.w) X.A (subscriptTail e (.Slice none none (some (.UnaryOp .USub (.Constant (.int 1) k p1) p2)) p3) (.ref a) (.ref s4.heap.objs.size)) (EP X pins σ Q) X.xe { s4 with heap := s4.heap.push { cls := .type "slice", data := .fields #[vl, vu, vs] } }
  refine tail_any (ops := [.ref a, .ref s4.heap.objs.size]) ht.typeIs (PyProof.Rows.slot_tuple_getitem.lookup) ?_ (by with_unfolding_all rfl)
  refine getItem_tuple_back ht (Heap.IsSliceOf.new _ vl vu vs) pl pu ps ?_ (by rw [List.size_toArray]; omega)
  refine ⟨.ref _, _, I5.laid (t' := s4.toks) (o := .tup xs.reverse) (fun b ob q => Heap.get?_push_of_some _ q) (Nat.le_refl _) ?_, rfl, q _ (I5.hok.fresh (Nat.le_refl _))⟩
  exact ⟨by rw [List.length_reverse]; exact hz, _, r.reverse, IsTup.new _ _⟩
end
/-- some tuple of these values, all else as it stood -/
def NewT (K : PySem.W.Frag) (H : Hp) (Q : VK) (xs : List V) : Prop := ∀ p H', Same H H' → SqT K H' p xs → Q (.ref p) H'
theorem same_upd {H : Hp} {p : Addr} {o : HO} (hp : H p = none) : Same H (upd H p o) := fun b u e => by
  rw [upd_ne (ne_of_none e hp)]
  exact e
theorem Same.seqT {K : PySem.W.Frag} {H H' : Hp} {a : Addr} {xs : List V} (e : Same H H') (h : SqT K H a xs) : SqT K H' a xs := by
  rcases h with h | h
  · left
    rcases h with h | ⟨o, h⟩
    · exact .inl (e _ _ h)
    · exact .inr ⟨o, e _ _ h⟩
  · exact .inr h
theorem NewT.self {K : PySem.W.Frag} {H : Hp} {Q : VK} {xs : List V} {a : Addr} (k : NewT K H Q xs) (h : SqT K H a xs) : Q (.ref a) H := k a H (Same.refl H) h
theorem NewT.new {K : PySem.W.Frag} {H : Hp} {Q : VK} {xs : List V} (k : NewT K H Q xs) {p : Addr} (hp : H p = none) : Q (.ref p) (upd H p (.tup xs)) := k p _ (same_upd hp) (SqT.of upd_same)
end WR
set_option Elab.async false
set_option linter.all false
set_option maxRecDepth 100000
set_option maxHeartbeats 1000000
/-! Tuples that have no dict of their own: a method of theirs can be called (t.count(x)). tuple(..), slices, + and * make such. -/
namespace WB
open PySem PySem.Spec PyProof PyProof.Rows L2 WR
/-- no dict of its own -/
def Bare (H : Hp) (a : Addr) : Prop := ∃ (o : Obj) (u : HO), H a = some (.frz o u) ∧ o.dict = none
structure SqB (K : PySem.W.Frag) (H : Hp) (a : Addr) (xs : List V) : Prop where
  sq : SqT K H a xs
  bare : Bare H a
instance {K : PySem.W.Frag} {H : Hp} {a : Addr} {xs : List V} : Coe (SqB K H a xs) (SqT K H a xs) := ⟨SqB.sq⟩
theorem SqB.same {K : PySem.W.Frag} {H H' : Hp} {a : Addr} {xs : List V} (s : Same H H') (h : SqB K H a xs) : SqB K H' a xs := by
  obtain ⟨h1, h2⟩ := h
  refine ⟨WR.Same.seqT s h1, ?_⟩
  obtain ⟨o, u, e, d⟩ := h2
  exact ⟨o, u, s _ _ e, d⟩
/-- some such tuple of these values, all else as it stood -/
def NewB (K : PySem.W.Frag) (H : Hp) (Q : VK) (xs : List V) : Prop := ∀ p H', Same H H' → SqB K H' p xs → Q (.ref p) H'
theorem NewB.self {K : PySem.W.Frag} {H : Hp} {Q : VK} {xs : List V} {a : Addr} (k : NewB K H Q xs) (h : SqB K H a xs) : Q (.ref a) H := k a H (Same.refl H) h
theorem NewB.new {K : PySem.W.Frag} {H : Hp} {Q : VK} {xs : List V} (k : NewB K H Q xs) {p : Addr} (hp : H p = none) {o : Obj} (d : o.dict = none) : Q (.ref p) (upd H p (.frz o (.tup xs))) :=
  k p _ (same_upd hp) ⟨.inl (.inr ⟨o, upd_same⟩), ⟨o, _, upd_same, d⟩⟩
section
variable {X : Cx} {pins : List (Addr × Obj)} {σ : L2.St} {H : Hp} {s : Shared} {Q : VK} {xs : List V} {its : List Value}
/-- a new tuple of these -/
theorem born (I : Inv X pins σ H s) {h1 : Heap} (kp : ∀ b o, s.heap.get? b = some o → h1.get? b = some o) (r : Vals xs its) (hz : xs.length ≤ sizeLine) (k : NewB X.K H Q xs) :
    ∃ (v : V) (H2 : Hp), Inv X pins σ H2 { s with heap := h1.push { cls := .type "tuple", data := .seq its.toArray } } ∧ RelV v (.ref h1.objs.size) ∧ Q v H2 := by
  have J : Inv X pins σ H { s with heap := h1 } := I.kept (t' := s.toks) kp
  have hn := J.hok.fresh (Nat.le_refl h1.objs.size)
  have new : (h1.push { cls := .type "tuple", data := .seq its.toArray }).get? h1.objs.size = some { cls := .type "tuple", data := .seq its.toArray } := Heap.get?_push_size _ rfl
  exact ⟨.ref _, _, J.laid (t' := s.toks) (o := .frz { cls := .type "tuple", data := .seq its.toArray } (.tup xs)) (fun _ _ e => Heap.get?_push_of_some _ e) (Nat.le_refl _) ⟨new, hz, its, r, IsTup.new _ _⟩, rfl, k.new hn rfl⟩
theorem call_tupB : CallR X (.type "tuple") (fun xs H Q => ∃ p ys, xs = [.ref p] ∧ ((SqL X.K H p ys ∧ NewB X.K H Q ys) ∨ (SqB X.K H p ys ∧ Q (.ref p) H))) := by
  intro pins s σ H vs us Q I r h
  obtain ⟨p, ys, rfl, h⟩ := h
  obtain ⟨u, rfl, rx⟩ := vals1 r
  cases rx
  rcases h with ⟨hq, q⟩ | ⟨hq, q⟩
  · obtain ⟨its, rv, pl, hz⟩ := I.list hq
    exact call_tuple_list pl.isList (fun h1 kp => born I kp rv hz q) (by rw [List.size_toArray, ← rv.length]; exact hz)
  · obtain ⟨its, rv, pl, _⟩ := I.tuple hq.sq
    exact call_tuple_same pl ⟨.ref p, H, I, rfl, q⟩
/-- a display -/
theorem pe_tupB {es : List Expr} {t : TA} {pos : Pos} {x1} (h : PA X es t) : PE X (.Tuple es x1 pos) (fun σ H Q => t σ H fun xs H1 => xs.length ≤ sizeLine ∧ NewB X.K H1 Q xs) := by
  constructor
  intro pins s σ H Q I hq
  refine wpAny_Tuple_spliced (thn (h.run pos pins s σ H _ I hq) fun us s1 z => ?_)
  obtain ⟨xs, H1, I1, r, z, q⟩ := z
  exact ⟨by rw [← r.length]; exact z, born I1 (fun _ _ e => e) r z q⟩
def rSlB (K : PySem.W.Frag) : V → Option Int → Option Int → Hp → VK → Prop := fun x lo hi H Q => ∃ a xs, x = .ref a ∧ SqB K H a xs ∧ NewB K H Q (cutV xs lo hi)
theorem sl_tupB : SlR X (rSlB X.K) := by
  intro pins s σ H x v vl vu lo hi sl Q I rx hs pl pu h
  obtain ⟨a, xs, rfl, hx, k⟩ := h
  cases rx
  obtain ⟨its, r, ht, hz⟩ := I.tuple hx.sq
  have hlen : its.toArray.size = xs.length := List.size_toArray.trans r.length.symm
  refine ⟨"tuple", _, PyProof.Rows.slot_tuple_getitem.lookup, ht.typeIs, ?_⟩
  by_cases hw : HT.sIx xs.length 0 lo = 0 ∧ HT.sIx xs.length xs.length hi = xs.length
  · have e : cutV xs lo hi = xs := by
      unfold cutV
      rw [hw.1, hw.2, List.drop_zero, Nat.sub_zero, List.take_of_length_le (Nat.le_refl _)]
    rw [e] at k
    exact getItem_tuple_whole ht hs pl pu (hlen.symm ▸ hw) ⟨.ref a, H, I, rfl, k.self hx⟩
  · refine HT.getItem_tuple_cut ht hs pl pu (hlen.symm ▸ hw) ?_ (hlen.symm ▸ hz)
    rw [hlen]
    exact born I (fun _ _ e => e) ((r.drop _).take _) (Nat.le_trans (cutV_length xs lo hi) hz) k
end
end WB
set_option Elab.async false
set_option linter.all false
set_option maxRecDepth 100000
set_option maxHeartbeats 2000000
/-! Words: rows of letters. -/
namespace W33
open PySem L2 PySem.Spec PyProof.Rows WR WB
def top (i : Nat) : Stmt := PySem.Challenge.pw_handlerims_k33_sewings_tightened.main.body.getD i (.Pass ⟨0, 0, 0, 0⟩)
abbrev sCon : Stmt := top 25
abbrev sShr : Stmt := top 26
abbrev sRnd : Stmt := top 27
theorem gen_heap {P : Hp → Prop} {H : Hp} (h : ∀ H3, H3 = H → P H3) : P H := h H rfl
theorem yes_te {σ : L2.St} {H : Hp} {A B : Hp → Prop} (h : A H) : tYes σ H (fun b H3 => if b = true then A H3 else B H3) := by
  show (if (true : Bool) = true then A H else B H)
  exact iteT h
/-! ### a def that the module's name x holds, with its promise -/
structure Cal (P : Program) (w : World) (K : PySem.W.Frag) (mg : Str → Option Value) (base : Heap) (x : Str) (k : Nat) (ps : List Str) (sp : Sp) : Prop where
  ex : ∃ (f : Addr) (fd : FuncData), FnOk P w K mg base CX0 k f fd ps sp ∧ mg x = some (.ref f) ∧ PySem.W.keepIn K (.ref f) = true ∧ Binds K fd ps []
section
variable {X : Cx} {x : Str} {k j : Nat} {ps : List Str} {sp : Sp} {p pos : Pos} {e : Expr} {es : List Expr} {t : TA}
theorem pe_cal (C : Cal X.prog X.w X.K X.mg X.base x k ps sp) (hr : Room j X.A) (hkj : k ≤ j) (hg : Gl X x) (ha : PA X (e :: es) t) (hdb : (x == ("__debug__" : Str)) = false := by decide)
    (he : starEach (e :: es) X.env = (false, eval e X.env) :: starEach es X.env := by rfl) (hpl : (backTo pos (starEach es X.env)).any (·.1) = false := by rfl) :
    PE X (.Call (.Name x p) (e :: es) [] pos) (tCall sp [] E0 t) := by
  obtain ⟨f, fd, F, hm, hk, hb⟩ := C.ex
  exact pe_call F (hr.mono hkj) hg hm hk hb .nil pass0 ha hdb he hpl
end
/-! ### comprehensions that change nothing -/
theorem lc_in {wi : TI} {g : TG} {tt : TT} {te : TE} {vs : List Nat} {σ : L2.St} {H : Hp} {Q : VK} (h : wi σ H fun J H1 => tLc (fun _ H R => R J H) g tt te vs σ H1 Q) : tLc wi g tt te vs σ H Q := h
theorem lcp {J : It} {xs : List V} {G : Hp → Prop} (w : Walk J xs.length G (YAt xs)) {g : TG} {tt : TT} {te : TE} {vs : List Nat} {σ : L2.St} {H1 : Hp} {Q : VK} (f : V → Bool) (v : V → V) (hz : xs.length < 40000) (hG : ∀ H, Same H1 H → G H)
    (hs : ∀ x, x ∈ xs → ∀ H, Same H1 H → ∀ (Qy : V → Hp → Prop) (Qn : Hp → Prop), (f x = true → ∀ H', Same H H' → Qy (v x) H') → (f x = false → ∀ H', Same H H' → Qn H') →
      g x (wipe σ vs) H fun σ2 H2 => wipe σ2 vs = wipe σ vs ∧ tt σ2 H2 fun b H3 => if b = true then te σ2 H3 Qy else Qn H3)
    (hd : ∀ (D : Addr) H', H1 D = none → Same H1 H' → H' D = some (.lst ((xs.filter f).map v)) → Q (.ref D) H') : tLc (fun _ H R => R J H) g tt te vs σ H1 Q := by
  intro D hD
  refine lc_it w (fun i H => Same H1 H ∧ H D = some (.lst (((xs.take i).filter f).map v))) ⟨fun b o e => by rw [upd_ne (ne_of_none e hD)]; exact e, upd_same⟩ (fun i H _ q => hG H q.1) ?_ ?_
  · rintro i x H H' hi q ⟨rfl, hx⟩
    have hm : x ∈ xs := List.mem_of_getElem? hx
    have et : xs.take (i + 1) = xs.take i ++ [x] := by
      have hx2 : xs[i] = x := (List.getElem?_eq_some_iff.mp hx).2
      rw [List.take_succ_eq_append_getElem hi, hx2]
    refine hs x hm H' q.1 _ _ (fun hf H2 s2 => ⟨_, s2 _ _ q.2, ?_, ?_, ?_⟩) (fun hf H2 s2 => ⟨fun b o e => s2 b o (q.1 b o e), ?_⟩)
    · refine Evl.sz_lt ?_
      rw [List.length_map]
      have := List.length_filter_le f (xs.take i)
      rw [List.length_take] at this
      omega
    · intro b o e
      rw [upd_ne (ne_of_none e hD)]
      exact s2 b o (q.1 b o e)
    · rw [upd_same, et, List.filter_append, List.map_append, List.filter_cons, if_pos hf]
      rfl
    · rw [et, List.filter_append, List.filter_cons, if_neg (by rw [hf]; decide)]
      show H2 D = some (.lst (((xs.take i).filter f ++ []).map v))
      rw [List.append_nil]
      exact s2 _ _ q.2
  · intro H q
    have q2 := q.2
    rw [List.take_length] at q2
    exact hd D H hD q.1 q2
theorem ret_cb {r : List V → Hp → VK → Prop} {te : TE} {D : Ends} {σ : L2.St} {H : Hp} (h : te σ H fun x H1 => r [x] H1 D.rt) : tRet (tCB r (tCons te tNil)) D σ H := h
theorem ret_e {te : TE} {D : Ends} {σ : L2.St} {H : Hp} (h : te σ H D.rt) : tRet te D σ H := h
theorem iteT' {c : Bool} {A B : Prop} (hc : c = true) (h : A) : if c = true then A else B := by rw [if_pos hc]; exact h
abbrev iv (ns : List Int) : List V := ns.map V.int
def SqE (K : PySem.W.Frag) (H : Hp) (a : Addr) (xs : List V) : Prop := SqL K H a xs ∨ SqT K H a xs
theorem SqE.same {K : PySem.W.Frag} {H H' : Hp} {a : Addr} {xs : List V} (h : SqE K H a xs) (s : Same H H') : SqE K H' a xs := by
  rcases h with h | h
  · exact .inl (s.seq h)
  · exact .inr (WR.Same.seqT s h)
def SqW (K : PySem.W.Frag) (H : Hp) (a : Addr) (xs : List V) : Prop := SqL K H a xs ∨ SqB K H a xs
theorem SqW.same {K : PySem.W.Frag} {H H' : Hp} {a : Addr} {xs : List V} (h : SqW K H a xs) (s : Same H H') : SqW K H' a xs := by
  rcases h with h | h
  · exact .inl (s.seq h)
  · exact .inr (SqB.same s h)
theorem SqW.e {K : PySem.W.Frag} {H : Hp} {a : Addr} {xs : List V} (h : SqW K H a xs) : SqE K H a xs := h.imp id SqB.sq
def spCon (K : PySem.W.Frag) : Sp := fun vs H Q _ => ∃ (a : Addr) (ns : List Int), vs = [.ref a] ∧ SqT K H a (iv ns) ∧ ns.length ≤ 1000 ∧ NewB K H Q (iv (Fr.con ns))
def spShr (K : PySem.W.Frag) : Sp := fun vs H Q _ => ∃ (a : Addr) (ns : List Int), vs = [.ref a] ∧ SqE K H a (iv ns) ∧ ns.length ≤ 1000 ∧ NewB K H Q (iv (Fr.shr ns))
def spRnd (K : PySem.W.Frag) : Sp := fun vs H Q _ => ∃ (a : Addr) (ns : List Int), vs = [.ref a] ∧ SqE K H a (iv ns) ∧ ns.length ≤ 1000 ∧ Fr.NZ ns ∧ NewB K H Q (iv (Fr.rnd ns))
structure TxA (mg : Str → Option Value) : Prop where
  tuple : mg "tuple" = none
  len : mg "len" = none
section
variable {P : Program} {w : World} {K : PySem.W.Frag} {mg : Str → Option Value} {base : Heap}
theorem scCon : FnScope ["letters", "letter"] ["letters"] (defScope sCon) := ⟨rfl, rfl, rfl, by decide +kernel, rfl, by decide +kernel, by decide +kernel⟩
theorem ok_con {f : Addr} {fd : FuncData} (F : Fun K "contrary_letters" "contrary_letters" sCon f fd) (T : TxA mg) : FnOk P w K mg base CX0 1 f fd ["letters"] (spCon K) := by
  refine F.ok scCon (fun vs H Q E h => ?_) (fun cdv A outer s H vs Q E hr h => ?_)
  · obtain ⟨a, ns, rfl, _⟩ := h
    rfl
  · obtain ⟨a, ns, rfl, hS, hlen, k⟩ := h
    refine ⟨_, pss_one (ps_ret (pe_callTy call_tupB (by rfl) T.tuple (by decide +kernel) (pa_cons (pe_lc (own := [("letter", 1)]) (g := gName 1) (tt := tYes) rfl scCon.nd (pi_tup (pe_revT (pv 0)))
      (blkOk_by (N := ["letters", "letter"]) (sc := defScope sCon) (by decide +kernel)) (fun _ _ _ _ _ => pg_name (i := 1) scCon.nd rfl (Or.inl rfl)) (fun _ _ _ _ _ => pts_nil)
      (fun _ _ _ _ _ => pe_un un_neg (pv 1))) pa_nil))), ?_⟩
    refine ret_cb (lc_in ?_)
    refine ⟨_, rfl, a, iv ns, rfl, hS, fun p hp => ?_⟩
    refine ⟨p, rfl, ⟨_, SqT.of upd_same⟩, ?_⟩
    refine lcp (walk_tup (xs := (iv ns).reverse)) (fun _ => true) (fun x => match x with | .int i => .int (-i) | _ => .non) (by simp; omega) (fun H2 s2 => SqT.of (s2 _ _ upd_same)) ?_ ?_
    · intro x hx H2 s2 Qy Qn ky kn
      obtain ⟨i, rfl⟩ : ∃ i, x = V.int i := by
        simp at hx
        obtain ⟨i, _, rfl⟩ := hx
        exact ⟨i, rfl⟩
      refine ⟨rfl, yes_te ?_⟩
      exact ⟨_, rfl, i, rfl, ky rfl H2 (fun _ _ e => e)⟩
    · intro D H2 hD s2 h2
      refine ⟨D, _, rfl, .inl ⟨SqL.of h2, ?_⟩⟩
      have e : (((iv ns).reverse.filter fun _ => true).map fun x => match x with | .int i => V.int (-i) | _ => .non) = iv (Fr.con ns) := by
        rw [List.filter_eq_self.mpr (fun _ _ => rfl)]
        unfold Fr.con
        simp [iv, List.map_reverse, Function.comp_def]
      rw [e]
      exact fun l H3 s3 b3 => k l H3 ((same_upd hp).trans (s2.trans s3)) b3
theorem scShr : FnScope ["letters", "left", "letter"] ["letters"] (defScope sShr) := ⟨rfl, rfl, rfl, by decide +kernel, rfl, by decide +kernel, by decide +kernel⟩
theorem act_take {ns : List Int} {i : Nat} {x : Int} (h : ns[i]? = some x) : Fr.act [] (ns.take (i + 1)) = Fr.push (Fr.act [] (ns.take i)) x := by
  have hi : i < ns.length := (List.getElem?_eq_some_iff.mp h).1
  have hx : ns[i] = x := (List.getElem?_eq_some_iff.mp h).2
  rw [List.take_succ_eq_append_getElem hi, hx, Fr.act_snoc]
theorem act_len : ∀ (ns s : List Int), (Fr.act s ns).length ≤ s.length + ns.length
  | [], s => by simp [Fr.act]
  | a :: t, s => by
    rw [Fr.act_cons]
    have h1 := act_len t (Fr.push s a)
    have h2 : (Fr.push s a).length ≤ s.length + 1 := by
      cases s with
      | nil => simp [Fr.push]
      | cons b u =>
        show (if b = -a then u else a :: b :: u).length ≤ _
        split <;> simp <;> omega
    simp only [List.length_cons]
    omega
theorem shr_len (ns : List Int) : (Fr.shr ns).length ≤ ns.length := by
  unfold Fr.shr
  rw [List.length_reverse]
  simpa using act_len ns []
theorem ok_shr {f : Addr} {fd : FuncData} (F : Fun K "shortened_letters" "shortened_letters" sShr f fd) (T : TxA mg) : FnOk P w K mg base CX0 1 f fd ["letters"] (spShr K) := by
  refine F.ok scShr (fun vs H Q E h => ?_) (fun cdv A outer s H vs Q E hr h => ?_)
  · obtain ⟨a, ns, rfl, _⟩ := h
    rfl
  · obtain ⟨a, ns, rfl, hS, hlen, k⟩ := h
    rcases hS with hS | hS
    · refine ⟨_, pss_cons (ps_set (i := 1) scShr.nd rfl (Or.inl rfl) (pe_lst pa_nil))
        (pss_cons (ps_for PassesOwn.never rfl (pi_list (pv 0)) (pg_name (i := 2) scShr.nd rfl (Or.inl rfl))
          (pss_one (ps_if (PW.pt (pw_and (pt_truth (pv 1) (by intro _; rfl)) (pw_and1 (pt_cmpR op_eq (pe_ix ix_list (pv 1) (pe_un un_neg pe_int) (fun _ _ => rfl)) (pe_un un_neg (pv 2)) (nomark _)))))
            (pss_one (ps_expr (pe_bm0 PySem.F.plainAttrs_list PySem.F.slot_list_pop PySem.F.type_list_pop mt_pop (pv 1))))
            (pss_one (ps_expr (pe_bm PySem.F.plainAttrs_list PySem.F.slot_list_append PySem.F.type_list_append mt_append (pv 1) (pa_cons (pv 2) pa_nil)))))))
        (pss_one (ps_ret (pe_callTy call_tupB (by rfl) T.tuple (by decide +kernel) (pa_cons (pv 1) pa_nil))))), ?_⟩
      refine ⟨Nat.zero_le _, fun l hl => ?_⟩
      refine ⟨_, rfl, a, rfl, ⟨_, (by have s := same_upd (o := HO.lst []) hl; exact (s.seq hS))⟩, for_list (K := K) (a := a) (xs := iv ns) (fun i σ H1 => ∃ v, σ = [some (.ref a), some (.ref l), v] ∧ Same H H1 ∧ H1 l = some (.lst (iv (Fr.act [] (ns.take i)).reverse)))
        ⟨none, rfl, same_upd hl, by rw [upd_same]; rfl⟩ (fun i σ H1 _ ⟨_, _, s, _⟩ => (s.seq hS)) ?_ ?_⟩
      · rintro i y σ H1 hi ⟨v, rfl, sm, hL⟩
        obtain ⟨x, hx, rfl⟩ : ∃ x, ns[i]? = some x ∧ y = V.int x := by
          rw [List.getElem?_map] at hi
          cases e : ns[i]? with
          | none => rw [e] at hi; cases hi
          | some x => rw [e] at hi; exact ⟨x, rfl, (Option.some.inj hi).symm⟩
        have hi2 : i < ns.length := (List.getElem?_eq_some_iff.mp hx).1
        have nx := act_take hx
        have hsz : (Fr.act [] (ns.take i)).length ≤ 1000 := by
          have := act_len (ns.take i) []
          rw [List.length_take] at this
          simp at this
          omega
        have put : ∀ xs, Same H (L2.upd H1 l (.lst xs)) := fun xs b o e => by
          rw [upd_ne (ne_of_none e hl)]
          exact sm b o e
        refine ⟨_, rfl, _, .inl ⟨_, SqL.of hL, rfl⟩, ?_⟩
        cases est : Fr.act [] (ns.take i) with
        | nil =>
          rw [est] at hL nx
          refine iteF ?_
          refine iteF ?_
          refine ⟨_, rfl, .inl ⟨rfl, _, SqL.of hL⟩, _, rfl, l, _, _, rfl, rfl, hL, Evl.sz_lt (by simp), ?_⟩
          refine ⟨_, rfl, put _, ?_⟩
          rw [upd_same, nx]
          rfl
        | cons b t =>
          rw [est] at hL nx hsz
          have eL : iv (b :: t).reverse = iv t.reverse ++ [V.int b] := by simp [iv]
          refine iteT' (by simp [iv]) ?_
          refine ⟨_, rfl, _, rfl, l, _, _, _, rfl, rfl, SqL.of hL, (by rw [eL]; exact atI_last _ _), _, rfl, x, rfl, rfl, _, rfl, ?_⟩
          refine ite2 (fun hb => ?_) (fun hb => ?_)
          · have eb : b = -x := by
              have := of_decide_eq_true hb
              injection this
            refine ⟨_, rfl, .inl ⟨rfl, _, SqL.of hL⟩, l, _, V.int b, rfl, rfl, hL, (by rw [eL]; simp), ?_⟩
            refine ⟨_, rfl, put _, ?_⟩
            rw [upd_same, nx]
            have : Fr.push (b :: t) x = t := by simp [Fr.push, eb]
            rw [this, eL, List.dropLast_concat]
          · have eb : ¬ b = -x := fun e => hb (decide_eq_true (by rw [e]))
            refine ⟨_, rfl, .inl ⟨rfl, _, SqL.of hL⟩, _, rfl, l, _, _, rfl, rfl, hL, Evl.sz_lt (by simp [iv] at hsz ⊢; omega), ?_⟩
            refine ⟨_, rfl, put _, ?_⟩
            rw [upd_same, nx]
            have : Fr.push (b :: t) x = x :: b :: t := by simp [Fr.push, eb]
            rw [this]
            simp [iv]
      · rintro σ H1 ⟨v, rfl, sm, hL⟩
        rw [List.take_of_length_le (by simp)] at hL
        exact ⟨_, rfl, l, _, rfl, .inl ⟨SqL.of hL, fun p H3 s3 b3 => k p H3 (sm.trans s3) b3⟩⟩
    · refine ⟨_, pss_cons (ps_set (i := 1) scShr.nd rfl (Or.inl rfl) (pe_lst pa_nil))
        (pss_cons (ps_for PassesOwn.never rfl (pi_tup (pv 0)) (pg_name (i := 2) scShr.nd rfl (Or.inl rfl))
          (pss_one (ps_if (PW.pt (pw_and (pt_truth (pv 1) (by intro _; rfl)) (pw_and1 (pt_cmpR op_eq (pe_ix ix_list (pv 1) (pe_un un_neg pe_int) (fun _ _ => rfl)) (pe_un un_neg (pv 2)) (nomark _)))))
            (pss_one (ps_expr (pe_bm0 PySem.F.plainAttrs_list PySem.F.slot_list_pop PySem.F.type_list_pop mt_pop (pv 1))))
            (pss_one (ps_expr (pe_bm PySem.F.plainAttrs_list PySem.F.slot_list_append PySem.F.type_list_append mt_append (pv 1) (pa_cons (pv 2) pa_nil)))))))
        (pss_one (ps_ret (pe_callTy call_tupB (by rfl) T.tuple (by decide +kernel) (pa_cons (pv 1) pa_nil))))), ?_⟩
      refine ⟨Nat.zero_le _, fun l hl => ?_⟩
      refine ⟨_, rfl, a, rfl, ⟨_, (by have s := same_upd (o := HO.lst []) hl; exact (WR.Same.seqT s hS))⟩, for_tup (K := K) (a := a) (xs := iv ns) (fun i σ H1 => ∃ v, σ = [some (.ref a), some (.ref l), v] ∧ Same H H1 ∧ H1 l = some (.lst (iv (Fr.act [] (ns.take i)).reverse)))
        ⟨none, rfl, same_upd hl, by rw [upd_same]; rfl⟩ (fun i σ H1 _ ⟨_, _, s, _⟩ => (WR.Same.seqT s hS)) ?_ ?_⟩
      · rintro i y σ H1 hi ⟨v, rfl, sm, hL⟩
        obtain ⟨x, hx, rfl⟩ : ∃ x, ns[i]? = some x ∧ y = V.int x := by
          rw [List.getElem?_map] at hi
          cases e : ns[i]? with
          | none => rw [e] at hi; cases hi
          | some x => rw [e] at hi; exact ⟨x, rfl, (Option.some.inj hi).symm⟩
        have hi2 : i < ns.length := (List.getElem?_eq_some_iff.mp hx).1
        have nx := act_take hx
        have hsz : (Fr.act [] (ns.take i)).length ≤ 1000 := by
          have := act_len (ns.take i) []
          rw [List.length_take] at this
          simp at this
          omega
        have put : ∀ xs, Same H (L2.upd H1 l (.lst xs)) := fun xs b o e => by
          rw [upd_ne (ne_of_none e hl)]
          exact sm b o e
        refine ⟨_, rfl, _, .inl ⟨_, SqL.of hL, rfl⟩, ?_⟩
        cases est : Fr.act [] (ns.take i) with
        | nil =>
          rw [est] at hL nx
          refine iteF ?_
          refine iteF ?_
          refine ⟨_, rfl, .inl ⟨rfl, _, SqL.of hL⟩, _, rfl, l, _, _, rfl, rfl, hL, Evl.sz_lt (by simp), ?_⟩
          refine ⟨_, rfl, put _, ?_⟩
          rw [upd_same, nx]
          rfl
        | cons b t =>
          rw [est] at hL nx hsz
          have eL : iv (b :: t).reverse = iv t.reverse ++ [V.int b] := by simp [iv]
          refine iteT' (by simp [iv]) ?_
          refine ⟨_, rfl, _, rfl, l, _, _, _, rfl, rfl, SqL.of hL, (by rw [eL]; exact atI_last _ _), _, rfl, x, rfl, rfl, _, rfl, ?_⟩
          refine ite2 (fun hb => ?_) (fun hb => ?_)
          · have eb : b = -x := by
              have := of_decide_eq_true hb
              injection this
            refine ⟨_, rfl, .inl ⟨rfl, _, SqL.of hL⟩, l, _, V.int b, rfl, rfl, hL, (by rw [eL]; simp), ?_⟩
            refine ⟨_, rfl, put _, ?_⟩
            rw [upd_same, nx]
            have : Fr.push (b :: t) x = t := by simp [Fr.push, eb]
            rw [this, eL, List.dropLast_concat]
          · have eb : ¬ b = -x := fun e => hb (decide_eq_true (by rw [e]))
            refine ⟨_, rfl, .inl ⟨rfl, _, SqL.of hL⟩, _, rfl, l, _, _, rfl, rfl, hL, Evl.sz_lt (by simp [iv] at hsz ⊢; omega), ?_⟩
            refine ⟨_, rfl, put _, ?_⟩
            rw [upd_same, nx]
            have : Fr.push (b :: t) x = x :: b :: t := by simp [Fr.push, eb]
            rw [this]
            simp [iv]
      · rintro σ H1 ⟨v, rfl, sm, hL⟩
        rw [List.take_of_length_le (by simp)] at hL
        exact ⟨_, rfl, l, _, rfl, .inl ⟨SqL.of hL, fun p H3 s3 b3 => k p H3 (sm.trans s3) b3⟩⟩
end
end W33
set_option Elab.async false
set_option linter.all false
set_option maxRecDepth 100000
set_option maxHeartbeats 2000000
namespace W33
open PySem L2 PySem.Spec PyProof.Rows WR WB
section
variable {P : Program} {w : World} {K : PySem.W.Frag} {mg : Str → Option Value} {base : Heap}
theorem iteF' {c : Bool} {A B : Prop} (hc : c = false) (h : B) : if c = true then A else B := by rw [if_neg (by rw [hc]; exact Bool.false_ne_true)]; exact h
theorem iv_get {ns : List Int} {i : Nat} {x : Int} (h : ns[i]? = some x) : (iv ns)[i]? = some (V.int x) := by
  rw [List.getElem?_map, h]
  rfl
theorem con_get {u : List Int} {j : Nat} (h : j < u.length) : (Fr.con u)[u.length - 1 - j]? = some (-u[j]) := by
  unfold Fr.con
  rw [List.getElem?_map, List.getElem?_reverse (by omega)]
  have e : u.length - 1 - (u.length - 1 - j) = j := by omega
  rw [e, List.getElem?_eq_getElem h]
  rfl
theorem whole_len (u w : List Int) : (u ++ w ++ Fr.con u).length = 2 * u.length + w.length := by
  rw [List.length_append, List.length_append, Fr.con_length]
  omega
theorem whole_lo {u w : List Int} {j : Nat} (h : j < u.length) : (u ++ w ++ Fr.con u)[j]? = some u[j] := by
  rw [List.append_assoc, List.getElem?_append_left h, List.getElem?_eq_getElem h]
theorem whole_hi {u w : List Int} {j : Nat} (h : j < u.length) : (u ++ w ++ Fr.con u)[2 * u.length + w.length - 1 - j]? = some (-u[j]) := by
  rw [List.getElem?_append_right (by rw [List.length_append]; omega), List.length_append]
  have e : 2 * u.length + w.length - 1 - j - (u.length + w.length) = u.length - 1 - j := by omega
  rw [e, con_get h]
theorem mid_lo {u w : List Int} (hw : w ≠ []) : (u ++ w ++ Fr.con u)[u.length]? = w.head? := by
  have : 0 < w.length := List.length_pos_iff.mpr hw
  rw [List.append_assoc, List.getElem?_append_right (Nat.le_refl _), Nat.sub_self, List.getElem?_append_left this, List.head?_eq_getElem?]
theorem mid_hi {u w : List Int} (hw : w ≠ []) : (u ++ w ++ Fr.con u)[2 * u.length + w.length - 1 - u.length]? = w.getLast? := by
  have : 0 < w.length := List.length_pos_iff.mpr hw
  rw [List.append_assoc, List.getElem?_append_right (by omega)]
  have e : 2 * u.length + w.length - 1 - u.length - u.length = w.length - 1 := by omega
  rw [e, List.getElem?_append_left (by omega), List.getLast?_eq_getElem?]
theorem whole_cut (u w : List Int) : ((u ++ w ++ Fr.con u).drop u.length).take w.length = w := by
  rw [List.append_assoc, List.drop_left, List.take_left]
theorem scRnd : FnScope ["letters", "left", "skipped"] ["letters"] (defScope sRnd) := ⟨rfl, rfl, rfl, by decide +kernel, rfl, by decide +kernel, by decide +kernel⟩
theorem cut_nat {xs : List V} {i j : Nat} (hi : i ≤ xs.length) (hj : j ≤ xs.length) : cutV xs (some (i : Int)) (some (j : Int)) = (xs.drop i).take (j - i) := by
  unfold cutV
  rw [HT.sIx_nat, HT.sIx_nat, Nat.min_eq_left hi, Nat.min_eq_left hj]
theorem ok_rnd {f : Addr} {fd : FuncData} (F : Fun K "rounded_letters" "rounded_letters" sRnd f fd) (GS : Cal P w K mg base "shortened_letters" 1 ["letters"] (spShr K)) (T : TxA mg) : FnOk P w K mg base CX0 2 f fd ["letters"] (spRnd K) := by
  refine F.ok scRnd (fun vs H Q E h => ?_) (fun cdv A outer s H vs Q E hr h => ?_)
  · obtain ⟨a, ns, rfl, _⟩ := h
    rfl
  · obtain ⟨a, ns, rfl, hS, hlen, nz, k⟩ := h
    refine ⟨_, pss_cons (ps_set (i := 1) scRnd.nd rfl (Or.inl rfl) (pe_cal GS hr (by decide) (by rfl) (pa_cons (pv 0) pa_nil)))
      (pss_cons (ps_set (i := 2) scRnd.nd rfl (Or.inl rfl) pe_int)
      (pss_cons (ps_while PassesOwn.never (PW.pt (pw_and (pt_cmpR op_lt (pe_op op_mul pe_int (pv 2)) (pe_callB call_len_seq (by rfl) T.len PySem.boot_len (pa_cons (pv 1) pa_nil)) (nomark _))
          (pw_and1 (pt_cmpR op_eq (pe_ix ix_tup (pv 1) (pv 2) (fun _ _ => rfl)) (pe_un un_neg (pe_ix ix_tup (pv 1) (pe_op op_sub (pe_op op_sub (pe_callB call_len_seq (by rfl) T.len PySem.boot_len (pa_cons (pv 1) pa_nil)) pe_int) (pv 2)) (fun _ _ => rfl))) (nomark _)))))
        (pss_one (ps_aug (i := 2) scRnd.nd rfl (Or.inl rfl) pe_int ip_add)))
      (pss_one (ps_ret (pe_slice sl_tupB (pv 1) (po_some (pv 2)) (po_some (pe_op op_sub (pe_callB call_len_seq (by rfl) T.len PySem.boot_len (pa_cons (pv 1) pa_nil)) (pv 2)))))))), ?_⟩
    refine ⟨_, rfl, a, ns, rfl, hS, hlen, fun p H1 sm hPB => ?_⟩
    obtain ⟨u, m, e, c, z⟩ := Fr.parted (Fr.shr ns) nz.shr (Fr.rd_shr ns)
    have er : Fr.rnd ns = m := by
      unfold Fr.rnd
      rw [e, Fr.ends_eq c z]
    rw [er] at k
    have hl := shr_len ns
    rw [e] at hPB hl
    have hP := hPB.sq
    rw [whole_len] at hl
    have L : (iv (u ++ m ++ Fr.con u)).length = 2 * u.length + m.length := by rw [List.length_map, whole_len]
    refine ⟨fun n σ H' => ∃ j, n = u.length - j ∧ j ≤ u.length ∧ σ = [some (.ref a), some (.ref p), some (.int ((j : Nat) : Int))] ∧ H' = H1, ⟨_, 0, rfl, Nat.zero_le _, rfl, rfl⟩, ?_⟩
    rintro n σ H' ⟨j, rfl, hj, rfl, rfl⟩
    refine ⟨_, rfl, _, _, rfl, rfl, .inl ⟨by decide, by decide⟩, _, rfl, p, _, rfl, .inr hP, _, _, rfl, rfl, _, rfl, ?_⟩
    have hback : ((iv (u ++ m ++ Fr.con u)).length : Int) - 1 - (j : Int) = ((2 * u.length + m.length - 1 - j : Nat) : Int) ∨ 2 * u.length + m.length = 0 := by
      rw [L]
      by_cases h0 : 2 * u.length + m.length = 0
      · exact .inr h0
      · left; omega
    by_cases hlt : j < u.length
    · refine iteT' (decide_eq_true (by rw [L]; omega)) ?_
      have hb := hback.resolve_right (by omega)
      refine ⟨_, rfl, _, rfl, p, _, _, _, rfl, rfl, hP, atI_nat (iv_get (whole_lo hlt)), ?_⟩
      refine ⟨_, rfl, _, rfl, p, _, rfl, .inr hP, _, _, rfl, rfl, _, rfl, _, _, rfl, rfl, p, _, _, _, rfl, rfl, hP, (by rw [hb]; exact atI_nat (iv_get (whole_hi hlt))), _, rfl, rfl, _, rfl, ?_⟩
      refine iteT' (decide_eq_true (by show V.int _ = V.int (- -_); rw [Int.neg_neg])) ?_
      refine ⟨fun σ' H'' => ∃ j', u.length - (j + 1) = u.length - j' ∧ j' ≤ u.length ∧ σ' = [some (.ref a), some (.ref p), some (.int ((j' : Nat) : Int))] ∧ H'' = H', fun σ' H'' ⟨j', q1, q2, q3, q4⟩ => ⟨_, by omega, j', q1, q2, q3, q4⟩, ?_⟩
      refine ⟨_, rfl, _, _, rfl, rfl, ?_⟩
      exact ⟨j + 1, rfl, hlt, by rfl, rfl⟩
    · have hj2 : j = u.length := by omega
      subst hj2
      have fin : NewB K H' Q (cutV (iv (u ++ m ++ Fr.con u)) (some ((u.length : Nat) : Int)) (some (((iv (u ++ m ++ Fr.con u)).length : Int) - ((u.length : Nat) : Int)))) := by
        have e1 : ((iv (u ++ m ++ Fr.con u)).length : Int) - ((u.length : Nat) : Int) = ((u.length + m.length : Nat) : Int) := by rw [L]; omega
        rw [e1, cut_nat (by rw [L]; omega) (by rw [L]; omega)]
        have e2 : u.length + m.length - u.length = m.length := by omega
        rw [e2]
        have e3 : ((iv (u ++ m ++ Fr.con u)).drop u.length).take m.length = iv m := by
          rw [← List.map_drop, ← List.map_take, whole_cut]
        rw [e3]
        exact fun q H2 s2 h2 => k q H2 (sm.trans s2) h2
      by_cases hm : m = []
      · have hu := z hm
        refine iteF' (decide_eq_false (by rw [L, hm, hu]; simp)) ?_
        refine iteF ?_
        exact ⟨_, rfl, _, rfl, _, rfl, _, rfl, p, _, rfl, .inr hP, _, rfl, _, _, rfl, rfl, _, rfl, p, _, rfl, hPB, fin⟩
      · refine iteT' (decide_eq_true (by have := List.length_pos_iff.mpr hm; rw [L]; omega)) ?_
        have hb := hback.resolve_right (by have := List.length_pos_iff.mpr hm; omega)
        obtain ⟨x, hx⟩ : ∃ x, m.head? = some x := by
          cases m with
          | nil => exact absurd rfl hm
          | cons x t => exact ⟨x, rfl⟩
        obtain ⟨y, hy⟩ : ∃ y, m.getLast? = some y := ⟨_, List.getLast?_eq_some_getLast hm⟩
        have lo := (mid_lo (u := u) hm).trans hx
        have hi := (mid_hi (u := u) hm).trans hy
        refine ⟨_, rfl, _, rfl, p, _, _, _, rfl, rfl, hP, atI_nat (iv_get lo), ?_⟩
        refine ⟨_, rfl, _, rfl, p, _, rfl, .inr hP, _, _, rfl, rfl, _, rfl, _, _, rfl, rfl, p, _, _, _, rfl, rfl, hP, (by rw [hb]; exact atI_nat (iv_get hi)), _, rfl, rfl, _, rfl, ?_⟩
        refine iteF' (decide_eq_false fun q => ?_) ?_
        · have q2 : V.int x = V.int (-y) := q
          injection q2 with q3
          exact c.2 x y hx hy q3
        exact ⟨_, rfl, _, rfl, _, rfl, _, rfl, p, _, rfl, .inr hP, _, rfl, _, _, rfl, rfl, _, rfl, p, _, rfl, hPB, fin⟩
end
end W33
set_option Elab.async false
set_option linter.all false
set_option maxRecDepth 100000
set_option maxHeartbeats 2000000
namespace W33
open PySem L2 PySem.Spec PyProof.Rows WR WS WR WB
abbrev sKinds : Stmt := top 28
theorem pigeon : ∀ (m : Nat) (L : List Int), L.Nodup → (∀ k ∈ L, 1 ≤ k ∧ k ≤ (m : Int)) → L.length ≤ m
  | 0, L, _, h => by
    cases L with
    | nil => simp
    | cons a t =>
      have := h a (by simp)
      omega
  | m + 1, L, nd, h => by
    by_cases hm : ((m + 1 : Nat) : Int) ∈ L
    · have ih := pigeon m (L.erase ((m + 1 : Nat) : Int)) (nd.erase _) fun k hk => by
        have h1 := (nd.mem_erase_iff).mp hk
        have h2 := h k h1.2
        have h3 := h1.1
        omega
      rw [List.length_erase_of_mem hm] at ih
      omega
    · have ih := pigeon m L nd fun k hk => by
        have h2 := h k hk
        have : k ≠ ((m + 1 : Nat) : Int) := fun e => hm (e ▸ hk)
        omega
      omega
theorem sci {w : World} {J : It} {xs : List V} {G : Hp → Prop} (wk : Walk J xs.length G (YAt xs)) {g : TG} {tt : TT} {te : TE} {vs : List Nat} {σ : L2.St} {H1 : Hp} {Q : VK} (v : V → Int)
    (hv : ∀ x ∈ xs, 1 ≤ v x ∧ v x ≤ 26) (hG : ∀ H, Same H1 H → G H)
    (hs : ∀ x, x ∈ xs → ∀ H, Same H1 H → ∀ (Qy : V → Hp → Prop) (Qn : Hp → Prop), Qy (.int (v x)) H →
      g x (wipe σ vs) H fun σ2 H2 => wipe σ2 vs = wipe σ vs ∧ tt σ2 H2 fun b H3 => if b = true then te σ2 H3 Qy else Qn H3)
    (hd : ∀ (D : Addr) (S : Int → Bool) (n : Nat) H', H1 D = none → Same H1 H' → H' D = some (SetO w D S n) → n ≤ 26 → (∀ k, S k = true ↔ ∃ x ∈ xs, k = v x) → Q (.ref D) H') : tSetI w (fun _ H R => R J H) g tt te vs σ H1 Q := by
  intro D hD
  refine ⟨fun i m H => m = xs.length - i ∧ i ≤ xs.length ∧ Same H1 H ∧ ∃ (S : Int → Bool) (L : List Int), H D = some (SetO w D S L.length) ∧ L.Nodup ∧ (∀ k, S k = true ↔ k ∈ L) ∧ ∀ k, k ∈ L ↔ ∃ x ∈ xs.take i, k = v x, ?_, ?_⟩
  · refine ⟨_, rfl, Nat.zero_le _, same_upd hD, fun _ => false, [], by rw [upd_same]; rfl, List.nodup_nil, fun k => by simp, fun k => by simp⟩
  · rintro i m H ⟨rfl, hi, sm, S, L, hS, nd, hL, hm⟩
    have bound : L.length ≤ 26 := pigeon 26 L nd fun k hk => by
      obtain ⟨x, hx, e⟩ := (hm k).mp hk
      have := hv x (List.mem_of_mem_take hx)
      omega
    by_cases hlt : i < xs.length
    · right
      refine ⟨wk.goes i H hlt (hG H sm), fun H' => Same H1 H' ∧ ∃ (S : Int → Bool) (L : List Int), H' D = some (SetO w D S L.length) ∧ L.Nodup ∧ (∀ k, S k = true ↔ k ∈ L) ∧ ∀ k, k ∈ L ↔ ∃ x ∈ xs.take (i + 1), k = v x, ?_, ?_⟩
      · rintro H' ⟨s2, q⟩
        exact ⟨xs.length - (i + 1), by omega, rfl, hlt, s2, q⟩
      · intro x H' hy
        obtain ⟨rfl, hx⟩ := wk.yields i H x H' hlt (hG H sm) hy
        have hmem : x ∈ xs := List.mem_of_getElem? hx
        have et : xs.take (i + 1) = xs.take i ++ [x] := by
          have hx2 : xs[i] = x := (List.getElem?_eq_some_iff.mp hx).2
          rw [List.take_succ_eq_append_getElem hlt, hx2]
        refine hs x hmem H' sm _ _ ?_
        refine ⟨D, v x, S, L.length, rfl, rfl, hS, ?_, ?_⟩
        · have : scanBound = 40000 ∨ 64 < scanBound := by right; decide
          have h64 : 64 < scanBound := by decide
          omega
        refine ⟨fun b o e => by rw [upd_ne (ne_of_none e hD)]; exact sm b o e, fun j => S j || decide (j = v x), if S (v x) = true then L else v x :: L, ?_, ?_, ?_, ?_⟩
        · rw [upd_same]
          by_cases c : S (v x) = true
          · rw [if_pos c, if_pos c]
          · rw [if_neg c, if_neg c]; rfl
        · by_cases c : S (v x) = true
          · rw [if_pos c]; exact nd
          · rw [if_neg c]
            exact List.nodup_cons.mpr ⟨fun h => c ((hL _).mpr h), nd⟩
        · intro k
          rw [Bool.or_eq_true, decide_eq_true_eq]
          by_cases c : S (v x) = true
          · rw [if_pos c, ← hL]
            constructor
            · rintro (h | rfl)
              · exact h
              · exact c
            · exact .inl
          · rw [if_neg c, List.mem_cons, ← hL]
            exact or_comm
        · intro k
          have e : (k ∈ if S (v x) = true then L else v x :: L) ↔ (k = v x ∨ k ∈ L) := by
            by_cases c : S (v x) = true
            · rw [if_pos c]
              constructor
              · exact .inr
              · rintro (rfl | h)
                · exact (hL _).mp c
                · exact h
            · rw [if_neg c, List.mem_cons]
          rw [e, hm, et]
          constructor
          · rintro (rfl | ⟨y, hy, rfl⟩)
            · exact ⟨x, by simp, rfl⟩
            · exact ⟨y, by simp [hy], rfl⟩
          · rintro ⟨y, hy, rfl⟩
            rw [List.mem_append, List.mem_singleton] at hy
            rcases hy with hy | rfl
            · exact .inr ⟨y, hy, rfl⟩
            · exact .inl rfl
    · left
      have hi2 : i = xs.length := by omega
      subst hi2
      rw [List.take_length] at hm
      exact ⟨wk.stops H (hG H sm), hd D S L.length H hD sm hS bound fun k => (hL k).trans (hm k)⟩
def kindsOk (ns ks : List Int) : Prop := ks.Pairwise (· < ·) ∧ ∀ k : Int, k ∈ ks ↔ ∃ x ∈ ns, k = (x.natAbs : Int)
/-- every letter of a kind from 1 to 26 -/
def Lts (ns : List Int) : Prop := ∀ x ∈ ns, 1 ≤ x.natAbs ∧ x.natAbs ≤ 26
def spKinds (K : PySem.W.Frag) : Sp := fun vs H Q _ => ∃ (a : Addr) (ns : List Int), vs = [.ref a] ∧ SqE K H a (iv ns) ∧ ns.length ≤ 1000 ∧ Lts ns ∧ ∀ ks, kindsOk ns ks → NewT K H Q (iv ks)
structure TxB (mg : Str → Option Value) : Prop where
  sorted : mg "sorted" = none
  abs : mg "abs" = none
section
variable {P : Program} {w : World} {K : PySem.W.Frag} {mg : Str → Option Value} {base : Heap}
theorem scKinds : FnScope ["letters", "letter"] ["letters"] (defScope sKinds) := ⟨rfl, rfl, rfl, by decide +kernel, rfl, by decide +kernel, by decide +kernel⟩
theorem ok_kinds {f : Addr} {fd : FuncData} (F : Fun K "kinds_of" "kinds_of" sKinds f fd) (T : TxA mg) (T2 : TxB mg) : FnOk P w K mg base CX0 1 f fd ["letters"] (spKinds K) := by
  refine F.ok scKinds (fun vs H Q E h => ?_) (fun cdv A outer s H vs Q E hr h => ?_)
  · obtain ⟨a, ns, rfl, _⟩ := h
    rfl
  · obtain ⟨a, ns, rfl, hS, hlen, hk, k⟩ := h
    have fin : ∀ (D : Addr) (S : Int → Bool) (n : Nat) H', H D = none → Same H H' → H' D = some (SetO w D S n) → n ≤ 26 → (∀ k, S k = true ↔ ∃ x ∈ iv ns, k = (match x with | .int i => (i.natAbs : Int) | _ => 0)) →
        rSortedSet w [.ref D] H' fun x H2 => ∃ p ys, [x] = [V.ref p] ∧ ((SqL K H2 p ys ∧ ∀ l, H2 l = none → Q (.ref l) (L2.upd H2 l (.tup ys))) ∨ (SqT K H2 p ys ∧ Q (.ref p) H2)) := by
      intro D S n H' hD sm hS hn hm
      refine ⟨D, S, n, rfl, hS, by omega, fun ks p up mem _ hp => ?_⟩
      refine ⟨p, _, rfl, .inl ⟨SqL.of upd_same, fun l hl => ?_⟩⟩
      refine k ks ⟨up, fun j => ?_⟩ l _ ((sm.trans (same_upd hp)).trans (same_upd hl)) (SqT.of upd_same)
      rw [mem, hm]
      constructor
      · rintro ⟨x, hx, e⟩
        obtain ⟨i, hi, rfl⟩ := List.mem_map.mp hx
        exact ⟨i, hi, e⟩
      · rintro ⟨i, hi, e⟩
        exact ⟨_, List.mem_map_of_mem hi, e⟩
    have turn : ∀ x, x ∈ iv ns → ∀ H2, Same H H2 → ∀ (Qy : V → Hp → Prop) (Qn : Hp → Prop), Qy (.int (match x with | .int i => (i.natAbs : Int) | _ => 0)) H2 →
        gName 1 x (wipe [some (.ref a), none] [1]) H2 fun σ2 H2 => wipe σ2 [1] = wipe [some (.ref a), none] [1] ∧ tYes σ2 H2 fun b H3 => if b = true then tCB (fun xs H Q => ∃ i, xs = [.int i] ∧ Q (.int (if i < 0 then -i else i)) H) (tCons (tVar 1) tNil) σ2 H3 Qy else Qn H3 := by
      intro x hx H2 s2 Qy Qn ky
      obtain ⟨i, hi, rfl⟩ := List.mem_map.mp hx
      refine ⟨rfl, yes_te ⟨_, rfl, i, rfl, ?_⟩⟩
      have e : (if i < 0 then -i else i) = (i.natAbs : Int) := by split <;> omega
      rw [e]
      exact ky
    have bd : ∀ x ∈ iv ns, 1 ≤ (match x with | .int i => (i.natAbs : Int) | _ => 0) ∧ (match x with | .int i => (i.natAbs : Int) | _ => 0) ≤ 26 := by
      intro x hx
      obtain ⟨i, hi, rfl⟩ := List.mem_map.mp hx
      have := hk i hi
      show 1 ≤ (i.natAbs : Int) ∧ (i.natAbs : Int) ≤ 26
      omega
    rcases hS with hS | hS
    · refine ⟨_, pss_one (ps_ret (pe_callTy call_tuple_of (by rfl) T.tuple (by decide +kernel) (pa_cons (pe_callB (cr_sortedSet rfl) (by rfl) T2.sorted (by decide +kernel) (pa_cons (pe_setI (own := [("letter", 1)]) (g := gName 1) (tt := tYes) rfl scKinds.nd (pi_list (pv 0))
        (blkOk_by (N := ["letters", "letter"]) (sc := defScope sKinds) (by decide +kernel)) (fun _ _ _ _ _ => pg_name (i := 1) scKinds.nd rfl (Or.inl rfl)) (fun _ _ _ _ _ => pts_nil)
        (fun _ _ _ _ _ => pe_callB call_abs (by rfl) T2.abs (by decide +kernel) (pa_cons (pv 1) pa_nil))) pa_nil)) pa_nil))), ?_⟩
      refine ⟨_, rfl, a, rfl, ⟨_, hS⟩, ?_⟩
      exact sci (walk_list (xs := iv ns)) _ bd (fun H2 s2 => s2.seq hS) turn fin
    · refine ⟨_, pss_one (ps_ret (pe_callTy call_tuple_of (by rfl) T.tuple (by decide +kernel) (pa_cons (pe_callB (cr_sortedSet rfl) (by rfl) T2.sorted (by decide +kernel) (pa_cons (pe_setI (own := [("letter", 1)]) (g := gName 1) (tt := tYes) rfl scKinds.nd (pi_tup (pv 0))
        (blkOk_by (N := ["letters", "letter"]) (sc := defScope sKinds) (by decide +kernel)) (fun _ _ _ _ _ => pg_name (i := 1) scKinds.nd rfl (Or.inl rfl)) (fun _ _ _ _ _ => pts_nil)
        (fun _ _ _ _ _ => pe_callB call_abs (by rfl) T2.abs (by decide +kernel) (pa_cons (pv 1) pa_nil))) pa_nil)) pa_nil))), ?_⟩
      refine ⟨_, rfl, a, rfl, ⟨_, hS⟩, ?_⟩
      exact sci (walk_tup (xs := iv ns)) _ bd (fun H2 s2 => WR.Same.seqT s2 hS) turn fin
end
end W33
set_option Elab.async false
set_option linter.all false
set_option maxRecDepth 100000
set_option maxHeartbeats 2000000
namespace W33
open PySem L2 PySem.Spec PyProof.Rows WR WB
abbrev sIsInt : Stmt := top 15
abbrev sWithin : Stmt := top 16
abbrev sLetter : Stmt := top 17
abbrev sListed : Stmt := top 18
abbrev sFew : Stmt := top 39
/-! ### values and their classes -/
inductive Typ (H : Hp) : V → String → Prop
  | int (i : Int) : Typ H (.int i) "int"
  | bl (b : Bool) : Typ H (.bl b) "bool"
  | str (z : Str) : Typ H (.str z) "str"
  | non : Typ H .non "NoneType"
  | lst {p : Addr} {xs : List V} (e : H p = some (.lst xs)) : Typ H (.ref p) "list"
  | tup {p : Addr} {xs : List V} (e : H p = some (.tup xs)) : Typ H (.ref p) "tuple"
  | dct {p : Addr} {kvs : List (Key × V)} (e : H p = some (.dK kvs)) : Typ H (.ref p) "dict"
def isI : V → Bool
  | .int _ => true
  | _ => false
def isB : V → Bool
  | .bl _ => true
  | _ => false
theorem Typ.same {H H' : Hp} {x : V} {t : String} (h : Typ H x t) (s : Same H H') : Typ H' x t := by
  cases h with
  | int i => exact .int i
  | bl b => exact .bl b
  | str z => exact .str z
  | non => exact .non
  | lst e => exact .lst (s _ _ e)
  | tup e => exact .tup (s _ _ e)
  | dct e => exact .dct (s _ _ e)
theorem Typ.ty {K : PySem.W.Frag} {H : Hp} {x : V} {t : String} (h : Typ H x t) : TyX K H x (.type t) := by
  cases h with
  | int i => exact .base (.int i)
  | bl b => exact .base (.bl b)
  | str z => exact .base (.str z)
  | non => exact .base .non
  | lst e => exact .base (.lst e)
  | tup e => exact .base (.tup e)
  | dct e => exact .base (.dK e)
theorem Typ.kInt {K : PySem.W.Frag} {H : Hp} {x : V} {t : String} (h : Typ H x t) : PySem.W.kitOne K (.type t) (.type "int") = some (isI x || isB x) := by
  cases h <;> first | exact kit_ty (show kitB _ _ = some true by decide +kernel) | exact kit_ty (show kitB _ _ = some false by decide +kernel)
theorem Typ.kBool {K : PySem.W.Frag} {H : Hp} {x : V} {t : String} (h : Typ H x t) : PySem.W.kitOne K (.type t) (.type "bool") = some (isB x) := by
  cases h <;> first | exact kit_ty (show kitB _ _ = some true by decide +kernel) | exact kit_ty (show kitB _ _ = some false by decide +kernel)
theorem Typ.kTup {K : PySem.W.Frag} {H : Hp} {x : V} {t : String} (h : Typ H x t) : PySem.W.kitOne K (.type t) (.type "tuple") = some (t == "tuple") := by
  cases h <;> first | exact kit_ty (show kitB _ _ = some true by decide +kernel) | exact kit_ty (show kitB _ _ = some false by decide +kernel)
theorem Typ.kList {K : PySem.W.Frag} {H : Hp} {x : V} {t : String} (h : Typ H x t) : PySem.W.kitOne K (.type t) (.type "list") = some (t == "list") := by
  cases h <;> first | exact kit_ty (show kitB _ _ = some true by decide +kernel) | exact kit_ty (show kitB _ _ = some false by decide +kernel)
theorem Typ.kSeq {K : PySem.W.Frag} {H : Hp} {x : V} {t : String} (h : Typ H x t) : PySem.W.kitAny K (.type t) [.type "list", .type "tuple"] = some (t == "list" || t == "tuple") := by
  refine kitAny_cons h.kList (fun e => ?_) (fun e => by rw [e]; rfl)
  refine kitAny_cons h.kTup (fun e2 => ?_) (fun e2 => by rw [e2]; simp)
  rw [kitAny_nil, e, e2]
  rfl
def spIsInt : Sp := fun vs H Q _ => ∃ (x : V) (t : String), vs = [x] ∧ Typ H x t ∧ Q (.bl (isI x)) H
structure TxI (mg : Str → Option Value) : Prop where
  isin : mg "isinstance" = none
  int : mg "int" = none
  bool : mg "bool" = none
  str : mg "str" = none
  list : mg "list" = none
  tuple : mg "tuple" = none
section
variable {P : Program} {w : World} {K : PySem.W.Frag} {mg : Str → Option Value} {base : Heap}
theorem scIsInt : FnScope ["value"] ["value"] (defScope sIsInt) := ⟨rfl, rfl, rfl, by decide +kernel, rfl, by decide +kernel, by decide +kernel⟩
theorem ok_isInt {f : Addr} {fd : FuncData} (F : Fun K "is_integer" "is_integer" sIsInt f fd) (T : TxI mg) : FnOk P w K mg base CX0 1 f fd ["value"] spIsInt := by
  refine F.ok scIsInt (fun vs H Q E h => ?_) (fun cdv A outer s H vs Q E hr h => ?_)
  · obtain ⟨x, t, rfl, _⟩ := h
    rfl
  · obtain ⟨x, t, rfl, ht, k⟩ := h
    refine ⟨_, pss_one (ps_ret (pe_and (pe_callB call_isi (by rfl) T.isin (by decide +kernel) (pa_cons (pv 0) (pa_cons (pe_bltn (v := .ty "int") (by rfl) T.int (by decide +kernel) rfl) pa_nil)))
      (pe_one (pe_not (pe_callB call_isi (by rfl) T.isin (by decide +kernel) (pa_cons (pv 0) (pa_cons (pe_bltn (v := .ty "bool") (by rfl) T.bool (by decide +kernel) rfl) pa_nil))))))), ?_⟩
    refine ⟨_, rfl, x, _, _, _, _, rfl, .ty _, ht.ty, ht.kInt, _, rfl, ?_⟩
    refine ite2 (fun hi => ?_) (fun hn => ?_)
    · refine ⟨_, rfl, x, _, _, _, _, rfl, .ty _, ht.ty, ht.kBool, _, rfl, ?_⟩
      have e : (!isB x) = isI x := by cases ht <;> first | rfl | exact absurd hi Bool.false_ne_true
      show Q (.bl (!isB x)) H
      rw [e]
      exact k
    · have e : isI x = false := by cases ht <;> first | rfl | exact absurd rfl hn
      show Q (.bl false) H
      rw [← e]
      exact k
end
def Bnd (v : V) : Prop := v = .non ∨ ∃ i, v = .int i
def geB (i : Int) : V → Bool
  | .int a => decide (a ≤ i)
  | _ => true
def leB (i : Int) : V → Bool
  | .int b => decide (i ≤ b)
  | _ => true
def within : V → V → V → Bool
  | .int i, l, m => geB i l && leB i m
  | _, _, _ => false
def spWithin : Sp := fun vs H Q _ => ∃ (x l m : V) (t : String), vs = [x, l, m] ∧ Typ H x t ∧ Bnd l ∧ Bnd m ∧ Q (.bl (within x l m)) H
def letterB : V → Bool
  | .int i => (decide (-26 ≤ i) && decide (i ≤ 26)) && !decide (i = 0)
  | _ => false
def spLetter : Sp := fun vs H Q _ => ∃ (x : V) (t : String), vs = [x] ∧ Typ H x t ∧ Q (.bl (letterB x)) H
structure TxC (mg : Str → Option Value) : Prop where
  kind : ∃ t, mg "MOST_KIND" = some (.int 26 t)
  all : mg "all" = none
section
variable {P : Program} {w : World} {K : PySem.W.Frag} {mg : Str → Option Value} {base : Heap}
theorem scWithin : FnScope ["value", "least", "most"] ["value", "least", "most"] (defScope sWithin) := ⟨rfl, rfl, rfl, by decide +kernel, rfl, by decide +kernel, by decide +kernel⟩
theorem ok_within {f : Addr} {fd : FuncData} (F : Fun K "is_within" "is_within" sWithin f fd) (GI : Cal P w K mg base "is_integer" 1 ["value"] spIsInt) : FnOk P w K mg base CX0 2 f fd ["value", "least", "most"] spWithin := by
  refine F.ok scWithin (fun vs H Q E h => ?_) (fun cdv A outer s H vs Q E hr h => ?_)
  · obtain ⟨x, l, m, t, rfl, _⟩ := h
    rfl
  · obtain ⟨x, l, m, t, rfl, ht, hl, hm, k⟩ := h
    refine ⟨_, pss_cons (ps_if (pt_not (pt_val (pe_cal GI hr (by decide) (by rfl) (pa_cons (pv 0) pa_nil)))) (pss_one (ps_ret pe_bl)) pss_nil)
      (pss_one (ps_ret (pe_and (pe_or (pe_cmpR op_isN (pv 1) pe_non (nomark _)) (pe_one (pe_cmpR op_ge (pv 0) (pv 1) (nomark _)))) (pe_one (pe_or (pe_cmpR op_isN (pv 2) pe_non (nomark _)) (pe_one (pe_cmpR op_le (pv 0) (pv 2) (nomark _)))))))), ?_⟩
    refine ⟨_, rfl, x, t, rfl, ht, _, rfl, ?_⟩
    refine ite2 (fun hn => ?_) (fun hi => ?_)
    · have e : within x l m = false := by cases ht <;> first | rfl | exact absurd hn Bool.false_ne_true
      rw [e] at k
      exact k
    · obtain ⟨i, rfl⟩ : ∃ i, x = .int i := by cases ht <;> first | exact ⟨_, rfl⟩ | exact absurd rfl hi
      -- the second half, whatever the first one says
      have half : ∀ H1 : Hp, H1 = H → ∀ Q1 : VK, Q1 (.bl (leB i m)) H1 → tOrV (tOp (fun x y H Q => y = .non ∧ Q (.bl (decide (x = .non))) H) (tVar 2) (tC .non)) (tOp (rI0 fun i j => .bl (decide (i ≤ j))) (tVar 0) (tVar 2)) [some (.int i), some l, some m] H1 Q1 := by
        intro H1 _ Q1 q
        rcases hm with rfl | ⟨b, rfl⟩
        · exact ⟨_, rfl, rfl, _, rfl, iteT q⟩
        · exact ⟨_, rfl, rfl, _, rfl, iteF ⟨_, rfl, _, rfl, _, _, rfl, rfl, q⟩⟩
      rcases hl with rfl | ⟨a, rfl⟩
      · refine ⟨_, rfl, rfl, _, rfl, iteT ⟨_, rfl, iteT (half H rfl _ ?_)⟩⟩
        exact k
      · refine ⟨_, rfl, rfl, _, rfl, iteF ⟨_, rfl, _, rfl, _, _, rfl, rfl, _, rfl, ?_⟩⟩
        refine ite2 (fun hg => half H rfl _ ?_) (fun hg => ?_)
        · have e : within (.int i) (.int a) m = leB i m := by
            show (decide (a ≤ i) && leB i m) = leB i m
            rw [hg]
            rfl
          rw [e] at k
          exact k
        · have e : within (.int i) (.int a) m = false := by
            show (decide (a ≤ i) && leB i m) = false
            rw [Bool.eq_false_iff.mpr hg]
            rfl
          rw [e] at k
          exact k
theorem scLetter : FnScope ["value"] ["value"] (defScope sLetter) := ⟨rfl, rfl, rfl, by decide +kernel, rfl, by decide +kernel, by decide +kernel⟩
theorem ok_letter {f : Addr} {fd : FuncData} (F : Fun K "is_letter" "is_letter" sLetter f fd) (GW : Cal P w K mg base "is_within" 2 ["value", "least", "most"] spWithin) (T : TxC mg) : FnOk P w K mg base CX0 3 f fd ["value"] spLetter := by
  refine F.ok scLetter (fun vs H Q E h => ?_) (fun cdv A outer s H vs Q E hr h => ?_)
  · obtain ⟨x, t, rfl, _⟩ := h
    rfl
  · obtain ⟨x, t, rfl, ht, k⟩ := h
    obtain ⟨tk, mK⟩ := T.kind
    refine ⟨_, pss_one (ps_ret (pe_and (pe_cal GW hr (by decide) (by rfl) (pa_cons (pv 0) (pa_cons (pe_un un_neg (pe_glob (v := .int 26) (by rfl) mK ⟨_, rfl⟩)) (pa_cons (pe_glob (v := .int 26) (by rfl) mK ⟨_, rfl⟩) pa_nil)))) (pe_one (pe_cmpR op_ne (pv 0) pe_int (nomark _))))), ?_⟩
    refine ⟨_, rfl, _, rfl, x, _, _, t, rfl, ht, .inr ⟨_, rfl⟩, .inr ⟨_, rfl⟩, _, rfl, ?_⟩
    refine ite2 (fun hi => ?_) (fun hn => ?_)
    · obtain ⟨i, rfl⟩ : ∃ i, x = .int i := by cases ht <;> first | exact ⟨_, rfl⟩ | exact absurd hi Bool.false_ne_true
      refine ⟨_, rfl, rfl, ?_⟩
      have e : letterB (.int i) = !decide (V.int i = V.int 0) := by
        have h2 : (decide (-26 ≤ i) && decide (i ≤ 26)) = true := hi
        show ((decide (-26 ≤ i) && decide (i ≤ 26)) && !decide (i = 0)) = _
        rw [h2, Bool.true_and]
        congr 1
        by_cases h0 : i = 0
        · subst h0; rfl
        · rw [decide_eq_false h0, decide_eq_false (fun q => h0 (by injection q))]
      rw [e] at k
      exact k
    · have e : letterB x = false := by
        cases ht with
        | int i =>
          have h2 : (decide (-26 ≤ i) && decide (i ≤ 26)) = false := Bool.eq_false_iff.mpr hn
          show ((decide (-26 ≤ i) && decide (i ≤ 26)) && !decide (i = 0)) = false
          rw [h2]
          rfl
        | _ => rfl
      rw [e] at k
      exact k
theorem scListed : FnScope ["value"] ["value"] (defScope sListed) := ⟨rfl, rfl, rfl, by decide +kernel, rfl, by decide +kernel, by decide +kernel⟩
end
end W33
set_option Elab.async false
set_option linter.all false
set_option maxRecDepth 100000
set_option maxHeartbeats 2000000
namespace W33
open PySem L2 PySem.Spec PyProof.Rows WR WB
abbrev sInit : Stmt := inClass (top 40) 0
theorem SqL.tyx {K : PySem.W.Frag} {H : Hp} {a : Addr} {xs : List V} (h : SqL K H a xs) : TyX K H (.ref a) (.type "list") := by
  rcases h with h | ⟨o, its, n, e, c, _⟩
  · rcases h with h | ⟨o, h⟩
    · exact .base (.lst h)
    · exact .base (.frz h)
  · exact .kList e c
theorem SqT.tyx {K : PySem.W.Frag} {H : Hp} {a : Addr} {xs : List V} (h : SqT K H a xs) : TyX K H (.ref a) (.type "tuple") := by
  rcases h with h | ⟨o, its, n, e, c, _⟩
  · rcases h with h | ⟨o, h⟩
    · exact .base (.tup h)
    · exact .fTuple h
  · exact .kTuple e c
def spListE (K : PySem.W.Frag) : Sp := fun vs H Q _ => ∃ (a : Addr) (xs : List V), vs = [.ref a] ∧ SqE K H a xs ∧ ∀ H', Same H H' → Q (.bl true) H'
def spFew : Sp := fun vs H Q _ => ∃ n : Int, vs = [.int n] ∧ n ≤ 500 ∧ Q .non H
structure TxW (K : PySem.W.Frag) (mg : Str → Option Value) (C : Addr) : Prop where
  cl : Cls K C
  nL : NoAttr K C "letters"
  nN : NoAttr K C "length"
  nK : NoAttr K C "kinds"
  nS : NoAttr K C "is_short"
  nR : NoAttr K C "is_short_round"
  ca : PySem.W.findIn K (.ref C) "__class__" = some (some (.builtin "object.__class__"))
  cn : PySem.W.specialIn K (.builtin "object.__class__") "__get__" = some (some (.builtin "getset_descriptor.__get__"))
  ct : PySem.W.takesIn K (.builtin "object.__class__") = some true
  cm : PySem.W.mroIn K C (.type "object") = some true
  mgW : mg "Word" = some (.ref C)
  most : ∃ t, mg "MOST_LETTERS" = some (.int 500 t)
  isin : mg "isinstance" = none
  all : mg "all" = none
/-! ### a word -/
def wf (tl : Addr) (n : Nat) (tk : Addr) (b1 b2 : Bool) : List (Str × V) := [("letters", .ref tl), ("length", .int (n : Int)), ("kinds", .ref tk), ("is_short", .bl b1), ("is_short_round", .bl b2)]
theorem ne1 : ¬ (("letters" : Str) = "length") := by decide +kernel
theorem ne2 : ¬ (("letters" : Str) = "kinds") := by decide +kernel
theorem ne3 : ¬ (("letters" : Str) = "is_short") := by decide +kernel
theorem ne4 : ¬ (("letters" : Str) = "is_short_round") := by decide +kernel
theorem ne5 : ¬ (("length" : Str) = "kinds") := by decide +kernel
theorem ne6 : ¬ (("length" : Str) = "is_short") := by decide +kernel
theorem ne7 : ¬ (("length" : Str) = "is_short_round") := by decide +kernel
theorem ne8 : ¬ (("kinds" : Str) = "is_short") := by decide +kernel
theorem ne9 : ¬ (("kinds" : Str) = "is_short_round") := by decide +kernel
theorem ne10 : ¬ (("is_short" : Str) = "is_short_round") := by decide +kernel
theorem lk_eq {k : Str} {v : V} {t : List (Str × V)} : List.lookup k ((k, v) :: t) = some v := by
  rw [List.lookup_cons, beq_self_eq_true k]
theorem lk_ne {k g : Str} {v : V} {t : List (Str × V)} (h : ¬ k = g) : List.lookup k ((g, v) :: t) = List.lookup k t := by
  rw [List.lookup_cons, show (k == g) = false from beq_eq_false_iff_ne.mpr h]
theorem pf_ne {k g : Str} {v x : V} {t : List (Str × V)} (h : ¬ g = k) : putF k v ((g, x) :: t) = (g, x) :: putF k v t := by
  show (if g = k then _ else _) = _
  rw [if_neg h]
theorem wf_letters {tl tk n b1 b2} : (wf tl n tk b1 b2).lookup ("letters" : Str) = some (.ref tl) := lk_eq
theorem wf_length {tl tk n b1 b2} : (wf tl n tk b1 b2).lookup ("length" : Str) = some (.int (n : Int)) := by
  unfold wf
  rw [lk_ne fun e => ne1 e.symm, lk_eq]
theorem wf_round {tl tk n b1 b2} : (wf tl n tk b1 b2).lookup ("is_short_round" : Str) = some (.bl b2) := by
  unfold wf
  rw [lk_ne fun e => ne4 e.symm, lk_ne fun e => ne7 e.symm, lk_ne fun e => ne9 e.symm, lk_ne fun e => ne10 e.symm, lk_eq]
theorem wf_no {tl tk n b1 b2} {m : Str} (h1 : ¬ m = "letters") (h2 : ¬ m = "length") (h3 : ¬ m = "kinds") (h4 : ¬ m = "is_short") (h5 : ¬ m = "is_short_round") : (wf tl n tk b1 b2).lookup m = none := by
  unfold wf
  rw [lk_ne h1, lk_ne h2, lk_ne h3, lk_ne h4, lk_ne h5]
  rfl
def WordAt (K : PySem.W.Frag) (C : Addr) (H : Hp) (p : Addr) (ns : List Int) : Prop :=
  ∃ (dx tl tk : Addr) (ks : List Int), H p = some (.ins C dx (wf tl ns.length tk (decide (Fr.shr ns = ns)) (decide (Fr.rnd ns = ns)))) ∧ SqB K H tl (iv ns) ∧ SqT K H tk (iv ks) ∧ kindsOk ns ks
theorem WordAt.same {K : PySem.W.Frag} {C : Addr} {H H' : Hp} {p : Addr} {ns : List Int} (h : WordAt K C H p ns) (s : Same H H') : WordAt K C H' p ns := by
  obtain ⟨dx, tl, tk, ks, h1, h2, h3, h4⟩ := h
  exact ⟨dx, tl, tk, ks, s _ _ h1, SqB.same s h2, WR.Same.seqT s h3, h4⟩
theorem Lts.nz {ns : List Int} (h : Lts ns) : Fr.NZ ns := fun a ha => by
  have := h a ha
  omega
def spInit (K : PySem.W.Frag) (C : Addr) : Sp := fun vs H Q _ => ∃ (H0 : Hp) (p dx a : Addr) (ns : List Int), vs = [.ref p, .ref a] ∧ Same H0 H ∧ H0 p = none ∧ H p = some (.ins C dx []) ∧ SqW K H0 a (iv ns) ∧ ns.length ≤ 500 ∧ Lts ns ∧
  ∀ H', Same H0 H' → WordAt K C H' p ns → Q .non H'
/-! ### tuples of ints held against one another -/
theorem dp_iv {K : PySem.W.Frag} {H : Hp} : ∀ ns : List Int, DpAll K H (iv ns) (ns.map PyData.int)
  | [] => .nil
  | n :: r => .cons (.int n) (dp_iv r)
theorem eqvAll_ints : ∀ ns ms : List Int, PyData.eqvAll (ns.map PyData.int) (ms.map PyData.int) = decide (ns = ms)
  | [], [] => rfl
  | [], b :: r => rfl
  | a :: r, [] => rfl
  | a :: r, b :: q => by
    have ih := eqvAll_ints r q
    show (PyData.eqv (.int a) (.int b) && PyData.eqvAll (r.map PyData.int) (q.map PyData.int)) = _
    rw [ih]
    have : PyData.eqv (.int a) (.int b) = decide (a = b) := by
      simp only [PyData.eqv]
      exact Bool.eq_iff_iff.mpr (by simp)
    rw [this]
    by_cases e1 : a = b <;> by_cases e2 : r = q <;> simp [e1, e2]
theorem eqv_ints (ns ms : List Int) : PyData.eqv (.tuple (ns.map .int)) (.tuple (ms.map .int)) = decide (ns = ms) := by
  show PyData.eqvAll _ _ = _
  exact eqvAll_ints ns ms
theorem lay_ints : ∀ ns : List Int, PyData.canLayAll0 (ns.map PyData.int) = true ∧ PyData.depthAll (ns.map PyData.int) = 0
  | [] => ⟨rfl, rfl⟩
  | n :: r => by
    obtain ⟨h1, h2⟩ := lay_ints r
    exact ⟨by simp [PyData.canLayAll0, PyData.canLay0, h1], by simp [PyData.depthAll, PyData.depth, h2]⟩
theorem shaped_ints (ns : List Int) : SeqAt.shaped (.tuple (ns.map .int)) = true := by
  obtain ⟨h1, h2⟩ := lay_ints ns
  simp [SeqAt.shaped, PyData.canLay0, PyData.depth, h1, h2]
section
variable {P : Program} {w : World} {K : PySem.W.Frag} {mg : Str → Option Value} {base : Heap}
theorem ok_listE {f : Addr} {fd : FuncData} (F : Fun K "is_listed" "is_listed" sListed f fd) (T : TxI mg) : FnOk P w K mg base CX0 1 f fd ["value"] (spListE K) := by
  refine F.ok scListed (fun vs H Q E h => ?_) (fun cdv A outer s H vs Q E hr h => ?_)
  · obtain ⟨a, xs, rfl, _⟩ := h
    rfl
  · obtain ⟨a, xs, rfl, hS, k⟩ := h
    refine ⟨_, pss_one (ps_ret (pe_callB call_isiT (by rfl) T.isin (by decide +kernel) (pa_cons (pv 0) (pa_cons (pe_tup (pa_cons (pe_bltn (v := .ty "list") (by rfl) T.list (by decide +kernel) rfl) (pa_cons (pe_bltn (v := .ty "tuple") (by rfl) T.tuple (by decide +kernel) rfl) pa_nil))) pa_nil)))), ?_⟩
    refine ⟨_, rfl, (by show 2 ≤ sizeLine; decide), fun p hp => ?_⟩
    have sm : Same H (upd H p (.tup [.ty "list", .ty "tuple"])) := same_upd hp
    rcases hS.same sm with hS | hS
    · exact ⟨_, p, _, _, _, _, rfl, upd_same, .cons (.ty _) (.cons (.ty _) .nil), SqL.tyx hS, (by rfl), k _ sm⟩
    · exact ⟨_, p, _, _, _, _, rfl, upd_same, .cons (.ty _) (.cons (.ty _) .nil), SqT.tyx hS, (Typ.tup (H := fun _ => some (.tup [])) (p := a) (xs := []) rfl).kSeq, k _ sm⟩
theorem scFew : FnScope ["many"] ["many"] (defScope sFew) := ⟨rfl, rfl, rfl, by decide +kernel, rfl, by decide +kernel, by decide +kernel⟩
theorem ok_few {C : Addr} {f : Addr} {fd : FuncData} (F : Fun K "need_few_letters" "need_few_letters" sFew f fd) (T : TxW K mg C) : FnOk P w K mg base CX0 1 f fd ["many"] spFew := by
  refine F.ok scFew (fun vs H Q E h => ?_) (fun cdv A outer s H vs Q E hr h => ?_)
  · obtain ⟨n, rfl, _⟩ := h
    rfl
  · obtain ⟨n, rfl, hn, k⟩ := h
    obtain ⟨tk, mM⟩ := T.most
    refine ⟨_, pss_one (ps_if (pt_cmpR op_gt (pv 0) (pe_glob (v := .int 500) (by rfl) mM ⟨_, rfl⟩) (nomark _)) (pss_one ps_never) pss_nil), ?_⟩
    refine ⟨_, rfl, _, _, rfl, rfl, _, rfl, ?_⟩
    exact iteF' (decide_eq_false (by omega)) k
end
end W33
set_option Elab.async false
set_option linter.all false
set_option maxRecDepth 100000
set_option maxHeartbeats 2000000
namespace W33
open PySem L2 PySem.Spec PyProof.Rows WR WB
theorem SqT.put {K : PySem.W.Frag} {H : Hp} {a p C dx : Addr} {fs : List (Str × V)} {o : HO} {xs : List V} (h : SqT K H a xs) (hp : H p = some (.ins C dx fs)) : SqT K (L2.upd H p o) a xs := by
  rcases h with h | h
  · left
    have ne : ∀ u, H a = some u → (∀ C dx fs, u ≠ .ins C dx fs) → a ≠ p := fun u e q z => by
      rw [z, hp] at e
      exact q _ _ _ (Option.some.inj e).symm
    rcases h with h | ⟨o', h⟩
    · exact .inl (by rw [upd_ne (ne _ h fun _ _ _ => by intro z; cases z)]; exact h)
    · exact .inr ⟨o', by rw [upd_ne (ne _ h fun _ _ _ => by intro z; cases z)]; exact h⟩
  · exact .inr h
theorem SqB.put {K : PySem.W.Frag} {H : Hp} {a p C dx : Addr} {fs : List (Str × V)} {o : HO} {xs : List V} (h : SqB K H a xs) (hp : H p = some (.ins C dx fs)) : SqB K (L2.upd H p o) a xs := by
  obtain ⟨h1, h2⟩ := h
  refine ⟨SqT.put h1 hp, ?_⟩
  obtain ⟨o', u, e, d⟩ := h2
  exact ⟨o', u, by rw [upd_ne (fun z => by rw [z, hp] at e; cases e)]; exact e, d⟩
theorem same_put {H0 H : Hp} {p : Addr} {o : HO} (s : Same H0 H) (hp : H0 p = none) : Same H0 (L2.upd H p o) := fun b u e => by
  have : b ≠ p := fun z => by rw [z, hp] at e; cases e
  rw [upd_ne this]
  exact s _ _ e
theorem letter_ok {i : Int} (h : 1 ≤ i.natAbs ∧ i.natAbs ≤ 26) : letterB (.int i) = true := by
  show ((decide (-26 ≤ i) && decide (i ≤ 26)) && !decide (i = 0)) = true
  rw [decide_eq_true (by omega), decide_eq_true (by omega), decide_eq_false (by omega)]
  rfl
theorem all_ok {ns : List Int} (h : Lts ns) : ((ns.map fun i => letterB (.int i)).all id) = true := by
  rw [List.all_eq_true]
  intro b hb
  obtain ⟨i, hi, rfl⟩ := List.mem_map.mp hb
  exact letter_ok (h i hi)
theorem not_lc {r : List V → Hp → VK → Prop} {wi : TI} {g : TG} {tt : TT} {te : TE} {vs : List Nat} {σ : L2.St} {H : Hp} {Q : Bool → Hp → Prop}
    (h : wi σ H fun J H1 => tLc (fun _ H R => R J H) g tt te vs σ H1 fun x H2 => r [x] H2 fun v H3 => ∃ c, v = .bl c ∧ Q (!c) H3) :
    tNot (fun σ H Q => tCB r (tCons (tLc wi g tt te vs) tNil) σ H fun x H1 => ∃ c, x = .bl c ∧ Q c H1) σ H Q := h
abbrev nInit : List Str := ["self", "letters", "letter"]
section
variable {P : Program} {w : World} {K : PySem.W.Frag} {mg : Str → Option Value} {base : Heap}
theorem scInit : FnScope nInit ["self", "letters"] (defScope sInit) := ⟨rfl, rfl, rfl, by decide +kernel, rfl, by decide +kernel, by decide +kernel⟩
theorem ok_init {C f : Addr} {fd : FuncData} (F : Fun K "__init__" "Word.__init__" sInit f fd) (T : TxW K mg C) (TA : TxA mg) (GL : Cal P w K mg base "is_listed" 1 ["value"] (spListE K)) (GX : Cal P w K mg base "is_letter" 3 ["value"] spLetter)
    (GF : Cal P w K mg base "need_few_letters" 1 ["many"] spFew) (GK : Cal P w K mg base "kinds_of" 1 ["letters"] (spKinds K)) (GS : Cal P w K mg base "shortened_letters" 1 ["letters"] (spShr K)) (GR : Cal P w K mg base "rounded_letters" 2 ["letters"] (spRnd K)) :
    FnOk P w K mg base CX0 4 f fd ["self", "letters"] (spInit K C) := by
  refine F.ok scInit (fun vs H Q E h => ?_) (fun cdv A outer s H vs Q E hr h => ?_)
  · obtain ⟨H0, p, dx, a, ns, rfl, _⟩ := h
    rfl
  · obtain ⟨H0, p, dx, a, ns, rfl, s0, p0, hp, hS, hlen, hl, k⟩ := h
    rcases hS with hS | hS
    · refine ⟨_, pss_cons (ps_if (PW.pt (pw_or (pt_not (pt_val (pe_cal GL hr (by decide) (by rfl) (pa_cons (pv 1) pa_nil)))) (pw_or1 (pt_not (pt_val (pe_callB (cr_all rfl) (by rfl) T.all (by decide +kernel) (pa_cons (pe_lc (own := [("letter", 2)]) (g := gName 2) (tt := tYes) rfl scInit.nd (pi_list (pv 1))
          (blkOk_by (N := nInit) (sc := defScope sInit) (by decide +kernel)) (fun _ _ _ _ _ => pg_name (i := 2) scInit.nd rfl (Or.inl rfl)) (fun _ _ _ _ _ => pts_nil)
          (fun _ _ _ _ _ => pe_cal GX hr (by decide) (by rfl) (pa_cons (pv 2) pa_nil))) pa_nil))))))) (pss_one ps_never) pss_nil)
        (pss_cons (ps_expr (pe_cal GF hr (by decide) (by rfl) (pa_cons (pe_callB call_len_seq (by rfl) TA.len PySem.boot_len (pa_cons (pv 1) pa_nil)) pa_nil)))
        (pss_cons (ps_fld (pv 0) (pe_callTy call_tupB (by rfl) TA.tuple (by decide +kernel) (pa_cons (pv 1) pa_nil)) rfl)
        (pss_cons (ps_fld (pv 0) (pe_callB call_len_seq (by rfl) TA.len PySem.boot_len (pa_cons (pv 1) pa_nil)) rfl)
        (pss_cons (ps_fld (pv 0) (pe_cal GK hr (by decide) (by rfl) (pa_cons (pv 1) pa_nil)) rfl)
        (pss_cons (ps_fld (pv 0) (pe_cmpR (op_eqD hr.units) (pe_cal GS hr (by decide) (by rfl) (pa_cons (pv 1) pa_nil)) (pe_fld (pv 0) rfl) (nomark _)) rfl)
        (pss_one (ps_fld (pv 0) (pe_cmpR (op_eqD hr.units) (pe_cal GR hr (by decide) (by rfl) (pa_cons (pv 1) pa_nil)) (pe_fld (pv 0) rfl) (nomark _)) rfl))))))), ?_⟩
      have E0 : SqE K H0 a (iv ns) := .inl hS
      refine ⟨_, rfl, a, _, rfl, E0.same s0, fun H1 s1 => ⟨_, rfl, ?_⟩⟩
      have s01 := s0.trans s1
      refine iteF ?_
      refine not_lc ?_
      refine ⟨_, rfl, a, rfl, ⟨_, (s01.seq hS)⟩, ?_⟩
      refine lcp (walk_list (xs := iv ns)) (fun _ => true) (fun x => .bl (letterB x)) (by simp; omega) (fun H2 s2 => (s01.trans s2).seq hS) ?_ ?_
      · intro x hx H2 s2 Qy Qn ky kn
        obtain ⟨i, hi, rfl⟩ := List.mem_map.mp hx
        exact ⟨rfl, yes_te ⟨_, rfl, .int i, _, rfl, .int i, ky rfl H2 (fun _ _ e => e)⟩⟩
      intro D H2 hD s2 h2
      have s02 := s01.trans s2
      refine ⟨D, ns.map fun i => letterB (.int i), rfl, SqL.of (by
        rw [h2, List.filter_eq_self.mpr (fun _ _ => rfl), List.map_map, List.map_map]
        rfl), ?_⟩
      rw [all_ok hl]
      refine ⟨_, rfl, iteF ?_⟩
      -- not too many
      refine ⟨_, rfl, a, _, rfl, E0.same s02, ((iv ns).length : Int), rfl, by rw [List.length_map]; omega, ?_⟩
      have hp2 : H2 p = some (.ins C dx []) := s2 _ _ (s1 _ _ hp)
      -- its letters
      refine ⟨_, rfl, a, _, rfl, .inl ⟨s02.seq hS, fun tl H3 s23 t3 => ?_⟩⟩
      have s3 := s02.trans s23
      have hp3 := s23 _ _ hp2
      refine ⟨_, rfl, p, C, dx, _, rfl, hp3, T.cl, T.nL, (by show 0 < 1000; decide), ?_⟩
      have hp4 : L2.upd H3 p (.ins C dx (putF "letters" (.ref tl) [])) p = some (.ins C dx [("letters", .ref tl)]) := by rw [upd_same]; rfl
      have s4 := same_put (o := .ins C dx (putF "letters" (.ref tl) [])) s3 p0
      have t4 := SqB.put (o := .ins C dx (putF "letters" (.ref tl) [])) t3 hp3
      refine gen_heap fun H4 e4 => ?_
      rw [← e4] at hp4 s4 t4
      -- how many
      refine ⟨_, rfl, a, _, rfl, E0.same s4, _, rfl, p, C, dx, _, rfl, hp4, T.cl, T.nN, (by show 1 < 1000; decide), ?_⟩
      have hp5 : L2.upd H4 p (.ins C dx (putF "length" (.int ((iv ns).length : Nat)) [("letters", .ref tl)])) p = some (.ins C dx [("letters", .ref tl), ("length", .int (ns.length : Nat))]) := by
        rw [upd_same, pf_ne ne1, List.length_map]
        rfl
      have s5 := same_put (o := .ins C dx (putF "length" (.int ((iv ns).length : Nat)) [("letters", .ref tl)])) s4 p0
      have t5 := SqB.put (o := .ins C dx (putF "length" (.int ((iv ns).length : Nat)) [("letters", .ref tl)])) t4 hp4
      refine gen_heap fun H5 e5 => ?_
      rw [← e5] at hp5 s5 t5
      -- its kinds
      refine ⟨_, rfl, a, ns, rfl, E0.same s5, by omega, hl, fun ks hk tk H6 s6 tk6 => ?_⟩
      have hp6 := s6 _ _ hp5
      have s06 := s5.trans s6
      have t6 := SqB.same s6 t5
      refine ⟨_, rfl, p, C, dx, _, rfl, hp6, T.cl, T.nK, (by show 2 < 1000; decide), ?_⟩
      have hp7 : L2.upd H6 p (.ins C dx (putF "kinds" (.ref tk) [("letters", .ref tl), ("length", .int (ns.length : Nat))])) p = some (.ins C dx [("letters", .ref tl), ("length", .int (ns.length : Nat)), ("kinds", .ref tk)]) := by
        rw [upd_same, pf_ne ne2, pf_ne ne5]
        rfl
      have s7 := same_put (o := .ins C dx (putF "kinds" (.ref tk) [("letters", .ref tl), ("length", .int (ns.length : Nat))])) s06 p0
      have t7 := SqB.put (o := .ins C dx (putF "kinds" (.ref tk) [("letters", .ref tl), ("length", .int (ns.length : Nat))])) t6 hp6
      have k7 := SqT.put (o := .ins C dx (putF "kinds" (.ref tk) [("letters", .ref tl), ("length", .int (ns.length : Nat))])) tk6 hp6
      refine gen_heap fun H7 e7 => ?_
      rw [← e7] at hp7 s7 t7 k7
      -- short
      refine ⟨_, rfl, a, ns, rfl, E0.same s7, by omega, fun q H8 s8 q8 => ?_⟩
      have hp8 := s8 _ _ hp7
      have s08 := s7.trans s8
      have t8 := SqB.same s8 t7
      have k8 := WR.Same.seqT s8 k7
      refine ⟨_, rfl, p, C, dx, _, _, rfl, hp8, T.cl, T.nL, lk_eq, ?_⟩
      refine ⟨_, _, .tup q8.sq (dp_iv _), .tup t8.sq (dp_iv _), shaped_ints _, shaped_ints _, ?_⟩
      rw [eqv_ints]
      refine ⟨_, rfl, p, C, dx, _, rfl, hp8, T.cl, T.nS, (by show 3 < 1000; decide), ?_⟩
      have hp9 : L2.upd H8 p (.ins C dx (putF "is_short" (.bl (decide (Fr.shr ns = ns))) [("letters", .ref tl), ("length", .int (ns.length : Nat)), ("kinds", .ref tk)])) p = some (.ins C dx [("letters", .ref tl), ("length", .int (ns.length : Nat)), ("kinds", .ref tk), ("is_short", .bl (decide (Fr.shr ns = ns)))]) := by
        rw [upd_same, pf_ne ne3, pf_ne ne6, pf_ne ne8]
        rfl
      have s9 := same_put (o := .ins C dx (putF "is_short" (.bl (decide (Fr.shr ns = ns))) [("letters", .ref tl), ("length", .int (ns.length : Nat)), ("kinds", .ref tk)])) s08 p0
      have t9 := SqB.put (o := .ins C dx (putF "is_short" (.bl (decide (Fr.shr ns = ns))) [("letters", .ref tl), ("length", .int (ns.length : Nat)), ("kinds", .ref tk)])) t8 hp8
      have k9 := SqT.put (o := .ins C dx (putF "is_short" (.bl (decide (Fr.shr ns = ns))) [("letters", .ref tl), ("length", .int (ns.length : Nat)), ("kinds", .ref tk)])) k8 hp8
      refine gen_heap fun H9 e9 => ?_
      rw [← e9] at hp9 s9 t9 k9
      -- short round
      refine ⟨_, rfl, a, ns, rfl, E0.same s9, by omega, hl.nz, fun q2 Ha sa qa => ?_⟩
      have hpa := sa _ _ hp9
      have s0a := s9.trans sa
      have ta := SqB.same sa t9
      have ka := WR.Same.seqT sa k9
      refine ⟨_, rfl, p, C, dx, _, _, rfl, hpa, T.cl, T.nL, lk_eq, ?_⟩
      refine ⟨_, _, .tup qa.sq (dp_iv _), .tup ta.sq (dp_iv _), shaped_ints _, shaped_ints _, ?_⟩
      rw [eqv_ints]
      refine ⟨_, rfl, p, C, dx, _, rfl, hpa, T.cl, T.nR, (by show 4 < 1000; decide), ?_⟩
      refine k _ (same_put s0a p0) ⟨dx, tl, tk, ks, ?_, SqB.put ta hpa, SqT.put ka hpa, hk⟩
      rw [upd_same, pf_ne ne4, pf_ne ne7, pf_ne ne9, pf_ne ne10]
      rfl
    · refine ⟨_, pss_cons (ps_if (PW.pt (pw_or (pt_not (pt_val (pe_cal GL hr (by decide) (by rfl) (pa_cons (pv 1) pa_nil)))) (pw_or1 (pt_not (pt_val (pe_callB (cr_all rfl) (by rfl) T.all (by decide +kernel) (pa_cons (pe_lc (own := [("letter", 2)]) (g := gName 2) (tt := tYes) rfl scInit.nd (pi_tup (pv 1))
          (blkOk_by (N := nInit) (sc := defScope sInit) (by decide +kernel)) (fun _ _ _ _ _ => pg_name (i := 2) scInit.nd rfl (Or.inl rfl)) (fun _ _ _ _ _ => pts_nil)
          (fun _ _ _ _ _ => pe_cal GX hr (by decide) (by rfl) (pa_cons (pv 2) pa_nil))) pa_nil))))))) (pss_one ps_never) pss_nil)
        (pss_cons (ps_expr (pe_cal GF hr (by decide) (by rfl) (pa_cons (pe_callB call_len_seq (by rfl) TA.len PySem.boot_len (pa_cons (pv 1) pa_nil)) pa_nil)))
        (pss_cons (ps_fld (pv 0) (pe_callTy call_tupB (by rfl) TA.tuple (by decide +kernel) (pa_cons (pv 1) pa_nil)) rfl)
        (pss_cons (ps_fld (pv 0) (pe_callB call_len_seq (by rfl) TA.len PySem.boot_len (pa_cons (pv 1) pa_nil)) rfl)
        (pss_cons (ps_fld (pv 0) (pe_cal GK hr (by decide) (by rfl) (pa_cons (pv 1) pa_nil)) rfl)
        (pss_cons (ps_fld (pv 0) (pe_cmpR (op_eqD hr.units) (pe_cal GS hr (by decide) (by rfl) (pa_cons (pv 1) pa_nil)) (pe_fld (pv 0) rfl) (nomark _)) rfl)
        (pss_one (ps_fld (pv 0) (pe_cmpR (op_eqD hr.units) (pe_cal GR hr (by decide) (by rfl) (pa_cons (pv 1) pa_nil)) (pe_fld (pv 0) rfl) (nomark _)) rfl))))))), ?_⟩
      have E0 : SqE K H0 a (iv ns) := .inr hS
      refine ⟨_, rfl, a, _, rfl, E0.same s0, fun H1 s1 => ⟨_, rfl, ?_⟩⟩
      have s01 := s0.trans s1
      refine iteF ?_
      refine not_lc ?_
      refine ⟨_, rfl, a, rfl, ⟨_, (WR.Same.seqT s01 hS.sq)⟩, ?_⟩
      refine lcp (walk_tup (xs := iv ns)) (fun _ => true) (fun x => .bl (letterB x)) (by simp; omega) (fun H2 s2 => WR.Same.seqT (s01.trans s2) hS.sq) ?_ ?_
      · intro x hx H2 s2 Qy Qn ky kn
        obtain ⟨i, hi, rfl⟩ := List.mem_map.mp hx
        exact ⟨rfl, yes_te ⟨_, rfl, .int i, _, rfl, .int i, ky rfl H2 (fun _ _ e => e)⟩⟩
      intro D H2 hD s2 h2
      have s02 := s01.trans s2
      refine ⟨D, ns.map fun i => letterB (.int i), rfl, SqL.of (by
        rw [h2, List.filter_eq_self.mpr (fun _ _ => rfl), List.map_map, List.map_map]
        rfl), ?_⟩
      rw [all_ok hl]
      refine ⟨_, rfl, iteF ?_⟩
      -- not too many
      refine ⟨_, rfl, a, _, rfl, E0.same s02, ((iv ns).length : Int), rfl, by rw [List.length_map]; omega, ?_⟩
      have hp2 : H2 p = some (.ins C dx []) := s2 _ _ (s1 _ _ hp)
      -- its letters
      refine ⟨_, rfl, a, _, rfl, .inr ⟨SqB.same s02 hS, ?_⟩⟩
      have s3 := s02
      have hp3 := hp2
      have t3 : SqB K H2 a (iv ns) := SqB.same s02 hS
      refine gen_heap fun H3 e3 => ?_
      rw [← e3] at s3 hp3 t3
      refine ⟨_, rfl, p, C, dx, _, rfl, hp3, T.cl, T.nL, (by show 0 < 1000; decide), ?_⟩
      have hp4 : L2.upd H3 p (.ins C dx (putF "letters" (.ref a) [])) p = some (.ins C dx [("letters", .ref a)]) := by rw [upd_same]; rfl
      have s4 := same_put (o := .ins C dx (putF "letters" (.ref a) [])) s3 p0
      have t4 := SqB.put (o := .ins C dx (putF "letters" (.ref a) [])) t3 hp3
      refine gen_heap fun H4 e4 => ?_
      rw [← e4] at hp4 s4 t4
      -- how many
      refine ⟨_, rfl, a, _, rfl, E0.same s4, _, rfl, p, C, dx, _, rfl, hp4, T.cl, T.nN, (by show 1 < 1000; decide), ?_⟩
      have hp5 : L2.upd H4 p (.ins C dx (putF "length" (.int ((iv ns).length : Nat)) [("letters", .ref a)])) p = some (.ins C dx [("letters", .ref a), ("length", .int (ns.length : Nat))]) := by
        rw [upd_same, pf_ne ne1, List.length_map]
        rfl
      have s5 := same_put (o := .ins C dx (putF "length" (.int ((iv ns).length : Nat)) [("letters", .ref a)])) s4 p0
      have t5 := SqB.put (o := .ins C dx (putF "length" (.int ((iv ns).length : Nat)) [("letters", .ref a)])) t4 hp4
      refine gen_heap fun H5 e5 => ?_
      rw [← e5] at hp5 s5 t5
      -- its kinds
      refine ⟨_, rfl, a, ns, rfl, E0.same s5, by omega, hl, fun ks hk tk H6 s6 tk6 => ?_⟩
      have hp6 := s6 _ _ hp5
      have s06 := s5.trans s6
      have t6 := SqB.same s6 t5
      refine ⟨_, rfl, p, C, dx, _, rfl, hp6, T.cl, T.nK, (by show 2 < 1000; decide), ?_⟩
      have hp7 : L2.upd H6 p (.ins C dx (putF "kinds" (.ref tk) [("letters", .ref a), ("length", .int (ns.length : Nat))])) p = some (.ins C dx [("letters", .ref a), ("length", .int (ns.length : Nat)), ("kinds", .ref tk)]) := by
        rw [upd_same, pf_ne ne2, pf_ne ne5]
        rfl
      have s7 := same_put (o := .ins C dx (putF "kinds" (.ref tk) [("letters", .ref a), ("length", .int (ns.length : Nat))])) s06 p0
      have t7 := SqB.put (o := .ins C dx (putF "kinds" (.ref tk) [("letters", .ref a), ("length", .int (ns.length : Nat))])) t6 hp6
      have k7 := SqT.put (o := .ins C dx (putF "kinds" (.ref tk) [("letters", .ref a), ("length", .int (ns.length : Nat))])) tk6 hp6
      refine gen_heap fun H7 e7 => ?_
      rw [← e7] at hp7 s7 t7 k7
      -- short
      refine ⟨_, rfl, a, ns, rfl, E0.same s7, by omega, fun q H8 s8 q8 => ?_⟩
      have hp8 := s8 _ _ hp7
      have s08 := s7.trans s8
      have t8 := SqB.same s8 t7
      have k8 := WR.Same.seqT s8 k7
      refine ⟨_, rfl, p, C, dx, _, _, rfl, hp8, T.cl, T.nL, lk_eq, ?_⟩
      refine ⟨_, _, .tup q8.sq (dp_iv _), .tup t8.sq (dp_iv _), shaped_ints _, shaped_ints _, ?_⟩
      rw [eqv_ints]
      refine ⟨_, rfl, p, C, dx, _, rfl, hp8, T.cl, T.nS, (by show 3 < 1000; decide), ?_⟩
      have hp9 : L2.upd H8 p (.ins C dx (putF "is_short" (.bl (decide (Fr.shr ns = ns))) [("letters", .ref a), ("length", .int (ns.length : Nat)), ("kinds", .ref tk)])) p = some (.ins C dx [("letters", .ref a), ("length", .int (ns.length : Nat)), ("kinds", .ref tk), ("is_short", .bl (decide (Fr.shr ns = ns)))]) := by
        rw [upd_same, pf_ne ne3, pf_ne ne6, pf_ne ne8]
        rfl
      have s9 := same_put (o := .ins C dx (putF "is_short" (.bl (decide (Fr.shr ns = ns))) [("letters", .ref a), ("length", .int (ns.length : Nat)), ("kinds", .ref tk)])) s08 p0
      have t9 := SqB.put (o := .ins C dx (putF "is_short" (.bl (decide (Fr.shr ns = ns))) [("letters", .ref a), ("length", .int (ns.length : Nat)), ("kinds", .ref tk)])) t8 hp8
      have k9 := SqT.put (o := .ins C dx (putF "is_short" (.bl (decide (Fr.shr ns = ns))) [("letters", .ref a), ("length", .int (ns.length : Nat)), ("kinds", .ref tk)])) k8 hp8
      refine gen_heap fun H9 e9 => ?_
      rw [← e9] at hp9 s9 t9 k9
      -- short round
      refine ⟨_, rfl, a, ns, rfl, E0.same s9, by omega, hl.nz, fun q2 Ha sa qa => ?_⟩
      have hpa := sa _ _ hp9
      have s0a := s9.trans sa
      have ta := SqB.same sa t9
      have ka := WR.Same.seqT sa k9
      refine ⟨_, rfl, p, C, dx, _, _, rfl, hpa, T.cl, T.nL, lk_eq, ?_⟩
      refine ⟨_, _, .tup qa.sq (dp_iv _), .tup ta.sq (dp_iv _), shaped_ints _, shaped_ints _, ?_⟩
      rw [eqv_ints]
      refine ⟨_, rfl, p, C, dx, _, rfl, hpa, T.cl, T.nR, (by show 4 < 1000; decide), ?_⟩
      refine k _ (same_put s0a p0) ⟨dx, a, tk, ks, ?_, SqB.put ta hpa, SqT.put ka hpa, hk⟩
      rw [upd_same, pf_ne ne4, pf_ne ne7, pf_ne ne9, pf_ne ne10]
      rfl
end
end W33
set_option Elab.async false
set_option linter.all false
set_option maxRecDepth 100000
set_option maxHeartbeats 2000000
namespace W33
open PySem L2 PySem.Spec PyProof.Rows WR WB
abbrev sEq : Stmt := inClass (top 40) 1
abbrev sContrary : Stmt := inClass (top 40) 4
/-- some word of these letters, all else as it stood -/
def NewW (K : PySem.W.Frag) (C : Addr) (H : Hp) (Q : VK) (ns : List Int) : Prop := ∀ p H', Same H H' → WordAt K C H' p ns → Q (.ref p) H'
theorem make_word {K : PySem.W.Frag} {C : Addr} {H1 : Hp} {q : Addr} {ms : List Int} {Q : VK} {E : XK} (hq : SqW K H1 q (iv ms)) (hlen : ms.length ≤ 500) (hl : Lts ms) (k : NewW K C H1 Q ms) :
    ∀ x dx, H1 x = none → H1 dx = none → dx ≠ x → spInit K C [.ref x, .ref q] (L2.upd (L2.upd H1 dx (.own x)) x (.ins C dx [])) (fun v H2 => v = .non ∧ Q (.ref x) H2) E := by
  intro x dx nx ndx nex
  have s0 : Same H1 (L2.upd (L2.upd H1 dx (.own x)) x (.ins C dx [])) := fun b o e => by
    rw [upd_ne (ne_of_none e nx), upd_ne (ne_of_none e ndx)]
    exact e
  exact ⟨H1, x, dx, q, ms, rfl, s0, nx, upd_same, hq, hlen, hl, fun H' s' W' => ⟨rfl, k x H' s' W'⟩⟩
def spOne (K : PySem.W.Frag) (C : Addr) (fn : List Int → List Int) : Sp := fun vs H Q _ => ∃ (p : Addr) (ns : List Int), vs = [.ref p] ∧ WordAt K C H p ns ∧ ns.length ≤ 500 ∧ Lts ns ∧ NewW K C H Q (fn ns)
def spEq (K : PySem.W.Frag) (C : Addr) : Sp := fun vs H Q _ => ∃ (p q : Addr) (ns ms : List Int), vs = [.ref p, .ref q] ∧ WordAt K C H p ns ∧ WordAt K C H q ms ∧ Q (.bl (decide (ns = ms))) H
theorem Lts.con {ns : List Int} (h : Lts ns) : Lts (Fr.con ns) := fun x hx => by
  unfold Fr.con at hx
  obtain ⟨y, hy, rfl⟩ := List.mem_map.mp hx
  have := h y (List.mem_reverse.mp hy)
  rw [Int.natAbs_neg]
  exact this
theorem Lts.app {ns ms : List Int} (h : Lts ns) (k : Lts ms) : Lts (ns ++ ms) := fun x hx => by
  rcases List.mem_append.mp hx with e | e
  · exact h x e
  · exact k x e
theorem Lts.shr {ns : List Int} (h : Lts ns) : Lts (Fr.shr ns) := fun x hx => h x (Fr.shr_mem hx)
theorem rnd_sub {ns : List Int} (nz : Fr.NZ ns) : ∃ u, Fr.shr ns = u ++ Fr.rnd ns ++ Fr.con u := by
  obtain ⟨u, m, e, c, z⟩ := Fr.parted (Fr.shr ns) nz.shr (Fr.rd_shr ns)
  refine ⟨u, ?_⟩
  have er : Fr.rnd ns = m := by
    unfold Fr.rnd
    rw [e, Fr.ends_eq c z]
  rw [er]
  exact e
theorem Lts.rnd {ns : List Int} (h : Lts ns) : Lts (Fr.rnd ns) := fun x hx => by
  obtain ⟨u, e⟩ := rnd_sub h.nz
  refine h.shr x ?_
  rw [e]
  simp [hx]
theorem rnd_len {ns : List Int} (h : Lts ns) : (Fr.rnd ns).length ≤ ns.length := by
  obtain ⟨u, e⟩ := rnd_sub h.nz
  have h1 := shr_len ns
  rw [e] at h1
  rw [whole_len] at h1
  omega
theorem WordAt.tyx {K : PySem.W.Frag} {mg : Str → Option Value} {C : Addr} {H : Hp} {p : Addr} {ns : List Int} (h : WordAt K C H p ns) (T : TxW K mg C) : TyX K H (.ref p) (.ref C) := by
  obtain ⟨dx, tl, tk, ks, h1, _⟩ := h
  exact .base (.ins h1 T.cl T.ca T.cn T.ct T.cm)
theorem kit_self {K : PySem.W.Frag} (C : Addr) : PySem.W.kitOne K (.ref C) (.ref C) = some true := by
  unfold PySem.W.kitOne
  rw [if_pos (by simp)]
structure MkW (P : Program) (w : World) (K : PySem.W.Frag) (mg : Str → Option Value) (base : Heap) (C : Addr) : Prop where
  ex : ∃ (f : Addr) (fd : FuncData), Mk K C f ∧ FnOk P w K mg base CX0 4 f fd ["self", "letters"] (spInit K C) ∧ Binds K fd ["self", "letters"] []
section
variable {X : Cx} {C : Addr} {p pos : Pos} {e : Expr} {es : List Expr} {t : TA} {j : Nat}
theorem pe_word (M : MkW X.prog X.w X.K X.mg X.base C) (T : TxW X.K X.mg C) (hr : Room j X.A) (hkj : 5 ≤ j) (hg : Gl X "Word") (ha : PA X (e :: es) t)
    (he : starEach (e :: es) X.env = (false, eval e X.env) :: starEach es X.env := by rfl) (hpl : (backTo pos (starEach es X.env)).any (·.1) = false := by rfl) :
    PE X (.Call (.Name "Word" p) (e :: es) [] pos) (tMake C (spInit X.K C) [] E0 t) := by
  obtain ⟨f, fd, M, F, hb⟩ := M.ex
  exact pe_make M F (hr.mono hkj) hg T.mgW hb .nil pass0 ha (by decide) he hpl
end
section
variable {P : Program} {w : World} {K : PySem.W.Frag} {mg : Str → Option Value} {base : Heap}
theorem scEq : FnScope ["self", "other"] ["self", "other"] (defScope sEq) := ⟨rfl, rfl, rfl, by decide +kernel, rfl, by decide +kernel, by decide +kernel⟩
theorem ok_eq {C f : Addr} {fd : FuncData} (F : Fun K "__eq__" "Word.__eq__" sEq f fd) (T : TxW K mg C) : FnOk P w K mg base CX0 1 f fd ["self", "other"] (spEq K C) := by
  refine F.ok scEq (fun vs H Q E h => ?_) (fun cdv A outer s H vs Q E hr h => ?_)
  · obtain ⟨p, q, ns, ms, rfl, _⟩ := h
    rfl
  · obtain ⟨p, q, ns, ms, rfl, W1, W2, k⟩ := h
    refine ⟨_, pss_one (ps_ret (pe_and (pe_callB call_isi (by rfl) T.isin (by decide +kernel) (pa_cons (pv 1) (pa_cons (pe_glob (v := .ref C) (by rfl) T.mgW rfl) pa_nil)))
      (pe_one (pe_cmpR (op_eqD hr.units) (pe_fld (pv 0) rfl) (pe_fld (pv 1) rfl) (nomark _))))), ?_⟩
    refine ⟨_, rfl, _, _, _, _, _, rfl, .own C, W2.tyx T, kit_self C, _, rfl, ?_⟩
    refine iteT ?_
    obtain ⟨dx, tl, tk, ks, h1, h2, h3, h4⟩ := W1
    obtain ⟨dx', tl', tk', ks', h1', h2', h3', h4'⟩ := W2
    refine ⟨_, rfl, p, C, dx, _, _, rfl, h1, T.cl, T.nL, wf_letters, _, rfl, q, C, dx', _, _, rfl, h1', T.cl, T.nL, wf_letters, ?_⟩
    refine ⟨_, _, .tup h2.sq (dp_iv _), .tup h2'.sq (dp_iv _), shaped_ints _, shaped_ints _, ?_⟩
    rw [eqv_ints]
    exact k
theorem scContrary : FnScope ["self"] ["self"] (defScope sContrary) := ⟨rfl, rfl, rfl, by decide +kernel, rfl, by decide +kernel, by decide +kernel⟩
theorem ok_contrary {C f : Addr} {fd : FuncData} (F : Fun K "contrary" "Word.contrary" sContrary f fd) (T : TxW K mg C) (M : MkW P w K mg base C) (GC : Cal P w K mg base "contrary_letters" 1 ["letters"] (spCon K)) :
    FnOk P w K mg base CX0 6 f fd ["self"] (spOne K C Fr.con) := by
  refine F.ok scContrary (fun vs H Q E h => ?_) (fun cdv A outer s H vs Q E hr h => ?_)
  · obtain ⟨p, ns, rfl, _⟩ := h
    rfl
  · obtain ⟨p, ns, rfl, ⟨dx, tl, tk, ks, h1, h2, h3, h4⟩, hlen, hl, k⟩ := h
    refine ⟨_, pss_one (ps_ret (pe_word M T hr (by decide) (by rfl) (pa_cons (pe_cal GC hr (by decide) (by rfl) (pa_cons (pe_fld (pv 0) rfl) pa_nil)) pa_nil))), ?_⟩
    refine ⟨_, rfl, p, C, dx, _, _, rfl, h1, T.cl, T.nL, wf_letters, tl, ns, rfl, h2, by omega, fun q H1 s1 hq => ?_⟩
    exact make_word (.inr hq) (by rw [Fr.con_length]; exact hlen) hl.con fun x H' s' W => k x H' (s1.trans s') W
end
end W33
set_option Elab.async false
set_option linter.all false
set_option maxRecDepth 100000
set_option maxHeartbeats 2000000
namespace W33
open PySem L2 WR WB
abbrev sJar : Stmt := top 74
abbrev sDraw : Stmt := top 75
/-! ### the hand that draws -/
/-- at a: a hand, of which at most n cells were begun -/
def HandAt (H : Hp) (a c : Addr) (n : Nat) : Prop := ∃ (ns : List Int) (i r : Int), H a = some (.lst [.ref c, .int i, .int r]) ∧ H c = some (.lst (ns.map V.int)) ∧ c ≠ a ∧ ns.length ≤ 1000 ∧ 0 ≤ i ∧ i ≤ (n : Int) ∧ 0 ≤ r
/-- all but what is at a stands as it did -/
def Kept (a : Addr) (H H' : Hp) : Prop := ∀ b o, b ≠ a → H b = some o → H' b = some o
theorem Kept.refl {a : Addr} {H : Hp} : Kept a H H := fun _ _ _ e => e
theorem Kept.trans {a : Addr} {H H1 H2 : Hp} (h1 : Kept a H H1) (h2 : Kept a H1 H2) : Kept a H H2 := fun b o n e => h2 b o n (h1 b o n e)
theorem Kept.upd {a : Addr} {H : Hp} {o : HO} : Kept a H (upd H a o) := fun b u n e => by rw [upd_ne n]; exact e
theorem Kept.new {a p : Addr} {H H' : Hp} {o : HO} (k : Kept a H H') (hp : H' p = none) : Kept a H (L2.upd H' p o) := fun b u n e => by
  rw [upd_ne (ne_of_none (k b u n e) hp)]
  exact k b u n e
theorem HandAt.put {H : Hp} {a c : Addr} {ns : List Int} {i r : Int} {n : Nat} (hC : H c = some (.lst (ns.map V.int))) (hca : c ≠ a) (hl : ns.length ≤ 1000) (i0 : 0 ≤ i) (hi : i ≤ (n : Int)) (r0 : 0 ≤ r) :
    HandAt (L2.upd H a (.lst [.ref c, .int i, .int r])) a c n := ⟨ns, i, r, upd_same, by rw [upd_ne hca]; exact hC, hca, hl, i0, hi, r0⟩
def spHand (K : PySem.W.Frag) : Sp := fun vs H Q _ => ∃ (a : Addr) (ns : List Int), vs = [.ref a] ∧ SqL K H a (ns.map V.int) ∧ ns.length ≤ 1000 ∧
  ∀ (H' : Hp) (p c : Addr), Same H H' → H p = none → H c = none → HandAt H' p c 0 → Q (.ref p) H'
def spTake : Sp := fun vs H Q _ => ∃ (a c : Addr) (m : Int) (n : Nat), vs = [.ref a, .int m] ∧ HandAt H a c n ∧ n ≤ 10000 ∧ 0 < m ∧ m.natAbs < 2 ^ 200 ∧
  ∀ (H' : Hp) (q : Int), 0 ≤ q → q < m → HandAt H' a c (n + 1) → Kept a H H' → Q (.int q) H'
theorem dpInts {K : PySem.W.Frag} {H : Hp} : ∀ ns : List Int, DpAll K H (ns.map V.int) (ns.map PyData.int)
  | [] => .nil
  | n :: r => .cons (.int n) (dpInts r)
structure TxL (mg : Str → Option Value) : Prop where
  int : mg "int" = none
  len : mg "len" = none
  abs : mg "abs" = none
section
variable {P : Program} {w : World} {K : PySem.W.Frag} {mg : Str → Option Value} {base : Heap}
theorem scHand : FnScope ["_law_script", "_law_cell"] ["_law_script"] (defScope sJar) := ⟨rfl, rfl, rfl, by decide +kernel, rfl, by decide +kernel, by decide +kernel⟩
theorem ok_hand {f : Addr} {fd : FuncData} (F : Fun K "_law_pen" "_law_pen" sJar f fd) (T : TxL mg) : FnOk P w K mg base CX0 1 f fd ["_law_script"] (spHand K) := by
  refine F.ok scHand (fun vs H Q E h => ?_) (fun cdv A outer s H vs Q E hr h => ?_)
  · obtain ⟨a, ns, rfl, _⟩ := h
    rfl
  · obtain ⟨a, ns, rfl, hS, hlen, k⟩ := h
    refine ⟨_, pss_one (ps_ret (pe_lst (pa_cons (pe_lc (own := [("_law_cell", 1)]) (g := gName 1) (tt := tYes) rfl scHand.nd (pi_list (pe_slice sl_list (pv 0) po_none (po_some pe_int)))
      (blkOk_by (N := ["_law_script", "_law_cell"]) (sc := defScope sJar) (by decide +kernel)) (fun _ _ _ _ _ => pg_name (i := 1) scHand.nd rfl (Or.inl rfl)) (fun _ _ _ _ _ => pts_nil)
      (fun _ _ _ _ _ => pe_callTy call_int1 (by rfl) T.int (by decide +kernel) (pa_cons (pv 1) pa_nil))) (pa_cons pe_int (pa_cons pe_int pa_nil))))), ?_⟩
    refine ⟨_, rfl, 60, rfl, a, ns.map V.int, rfl, hS, fun p hp => ?_⟩
    refine ⟨p, rfl, ⟨_, SqL.of upd_same⟩, fun D hD => ?_⟩
    have hDp : D ≠ p := fun e => by
      rw [e, upd_same] at hD
      cases hD
    have hD0 : H D = none := by
      rw [upd_ne hDp] at hD
      exact hD
    have hc : cutV (ns.map V.int) none (some 60) = (ns.take 60).map V.int := by
      unfold cutV
      rw [List.map_take, List.length_map]
      have e0 : HT.sIx ns.length 0 none = 0 := rfl
      rw [e0, List.drop_zero]
      have e1 : HT.sIx ns.length ns.length (some 60) = min 60 ns.length := by
        unfold HT.sIx
        simp
        try omega
      rw [e1, Nat.sub_zero]
      by_cases h : 60 ≤ ns.length
      · rw [Nat.min_eq_left h]
      · rw [Nat.min_eq_right (by omega), List.take_of_length_le (by simp), List.take_of_length_le (by simp; omega)]
    refine lc_list (K := K) (a := p) (xs := (ns.take 60).map V.int) (fun i H' => H' D = some (.lst (((ns.take 60).take i).map V.int)) ∧ H' p = some (.lst ((ns.take 60).map V.int)) ∧ Same H H') ⟨upd_same, ?_, ?_⟩ (fun i H' _ q => SqL.of q.2.1) ?_ ?_
    · rw [upd_ne hDp.symm, upd_same, hc]
    · intro b o e
      rw [upd_ne (ne_of_none e hD0), upd_ne (ne_of_none e hp)]
      exact e
    · intro i x H' hi q
      obtain ⟨z, hz, rfl⟩ : ∃ z, (ns.take 60)[i]? = some z ∧ x = V.int z := by
        rw [List.getElem?_map] at hi
        cases e : (ns.take 60)[i]? with
        | none =>
          rw [e] at hi
          cases hi
        | some z =>
          rw [e] at hi
          exact ⟨z, rfl, (Option.some.inj hi).symm⟩
      have hli : i < (ns.take 60).length := (List.getElem?_eq_some_iff.mp hz).1
      have hl60 : (ns.take 60).length ≤ 60 := by rw [List.length_take]; omega
      refine ⟨rfl, ?_⟩
      refine yes_te ?_
      refine ⟨_, rfl, .inl ⟨z, rfl, _, q.1, Evl.sz_lt (by rw [List.length_map, List.length_take]; omega), ?_⟩⟩
      refine ⟨?_, ?_, ?_⟩
      · rw [upd_same]
        congr 2
        have ez : (ns.take 60)[i] = z := (List.getElem?_eq_some_iff.mp hz).2
        rw [List.take_succ_eq_append_getElem hli, ez, List.map_append]
        rfl
      · rw [upd_ne hDp.symm]
        exact q.2.1
      · intro b o e
        rw [upd_ne (ne_of_none e hD0)]
        exact q.2.2 b o e
    · intro H' q
      refine ⟨by show 3 ≤ sizeLine; decide, fun l hl => ?_⟩
      have hlD : D ≠ l := ne_of_none q.1 hl
      have hl0 : H l = none := by
        cases e : H l with
        | none => rfl
        | some o => rw [q.2.2 l o e] at hl; cases hl
      refine k _ l D (fun b o e => by rw [upd_ne (ne_of_none e hl0)]; exact q.2.2 b o e) hl0 hD0 ?_
      have q1 := q.1
      rw [List.length_map, List.take_length] at q1
      exact ⟨ns.take 60, 0, 0, upd_same, by rw [upd_ne hlD]; exact q1, hlD, by rw [List.length_take]; omega, Int.le_refl _, Int.le_refl _, Int.le_refl _⟩
theorem scTake : FnScope ["_law_pen_here", "_law_many", "_law_rest", "_law_at", "_law_cell", "_law_mixed"] ["_law_pen_here", "_law_many"] (defScope sDraw) := ⟨rfl, rfl, rfl, by decide +kernel, rfl, by decide +kernel, by decide +kernel⟩
theorem ok_take {f : Addr} {fd : FuncData} (F : Fun K "_law_draw" "_law_draw" sDraw f fd) (T : TxL mg) : FnOk P w K mg base CX0 1 f fd ["_law_pen_here", "_law_many"] spTake := by
  refine F.ok scTake (fun vs H Q E h => ?_) (fun cdv A outer s H vs Q E hr h => ?_)
  · obtain ⟨a, c, m, n, rfl, _⟩ := h
    rfl
  · obtain ⟨a, c, m, n, rfl, ⟨ns, i, r, hA, hC, hca, hlen, i0, hi, r0⟩, hn, m0, hm, k⟩ := h
    refine ⟨_, pss_cons (ps_if (pt_cmpR op_gt (pe_ix ix_list (pv 0) pe_int (fun _ _ => rfl)) pe_int (nomark _))
        (pss_cons (ps_set (i := 2) scTake.nd rfl (Or.inl rfl) (pe_callTy call_int1 (by rfl) T.int (by decide +kernel) (pa_cons (pe_ix ix_list (pv 0) pe_int (fun _ _ => rfl)) pa_nil)))
        (pss_cons (ps_asg (pe_op op_fdivW (pv 2) (pv 1)) (pg_sub (pv 0) pe_int set_list))
        (pss_one (ps_ret (pe_op op_mod (pe_callTy call_int1 (by rfl) T.int (by decide +kernel) (pa_cons (pv 2) pa_nil)) (pv 1)))))) pss_nil)
      (pss_cons (ps_set (i := 3) scTake.nd rfl (Or.inl rfl) (pe_ix ix_list (pv 0) pe_int (fun _ _ => rfl)))
      (pss_cons (ps_asg (pe_op op_add (pv 3) pe_int) (pg_sub (pv 0) pe_int set_list))
      (pss_cons (ps_set (i := 4) scTake.nd rfl (Or.inl rfl) (pe_op op_add (pe_op op_mul pe_int (pv 3)) pe_int))
      (Evl.pss_cut (ps_if (pt_cmpR (op_neD hr.units) (pe_ix ix_list (pv 0) pe_int (fun _ _ => rfl)) (pe_lst pa_nil) (nomark _))
        (pss_one (ps_set (i := 4) scTake.nd rfl (Or.inl rfl) (pe_ix ix_list (pe_ix ix_list (pv 0) pe_int (fun _ _ => rfl)) (pe_op op_mod (pe_callTy call_int1 (by rfl) T.int (by decide +kernel) (pa_cons (pv 3) pa_nil)) (pe_callB call_len_seq (by rfl) T.len PySem.boot_len (pa_cons (pe_ix ix_list (pv 0) pe_int (fun _ _ => rfl)) pa_nil))) (fun _ _ => rfl)))) pss_nil)
      (Evl.pss_cut (ps_if (PW.pt (pw_and (pt_cmpR op_lt (pv 3) (pe_callB call_len_seq (by rfl) T.len PySem.boot_len (pa_cons (pe_ix ix_list (pv 0) pe_int (fun _ _ => rfl)) pa_nil)) (nomark _)) (pw_and1 (pt_cmpR op_ge (pe_callB call_abs (by rfl) T.abs (by decide +kernel) (pa_cons (pv 4) pa_nil)) (pe_op op_pow pe_int pe_int) (nomark _)))))
        (pss_cons (ps_set (i := 2) scTake.nd rfl (Or.inl rfl) (pe_op op_add (pe_op op_mul pe_int (pe_op op_sub (pe_callB call_abs (by rfl) T.abs (by decide +kernel) (pa_cons (pv 4) pa_nil)) (pe_op op_pow pe_int pe_int))) (pe_callTy call_int1 (by rfl) T.int (by decide +kernel) (pa_cons (pe_cmpR op_lt (pv 4) pe_int (nomark _)) pa_nil))))
        (pss_cons (ps_asg (pe_op op_fdivW (pe_callTy call_int1 (by rfl) T.int (by decide +kernel) (pa_cons (pv 2) pa_nil)) (pv 1)) (pg_sub (pv 0) pe_int set_list))
        (pss_one (ps_ret (pe_op op_mod (pe_callTy call_int1 (by rfl) T.int (by decide +kernel) (pa_cons (pv 2) pa_nil)) (pv 1)))))) pss_nil)
      (pss_cons (ps_set (i := 5) scTake.nd rfl (Or.inl rfl) (pe_op op_mod (pe_callTy call_int1 (by rfl) T.int (by decide +kernel) (pa_cons (pe_op op_pow (pe_op op_add (pe_op op_add (pe_op op_mod (pe_callTy call_int1 (by rfl) T.int (by decide +kernel) (pa_cons (pv 4) pa_nil)) pe_int) (pe_op op_mul pe_int (pv 3))) pe_int) pe_int) pa_nil)) pe_int))
      (pss_cons (ps_set (i := 5) scTake.nd rfl (Or.inl rfl) (pe_op op_mod (pe_callTy call_int1 (by rfl) T.int (by decide +kernel) (pa_cons (pe_op op_pow (pe_op op_add (pe_op op_add (pe_op op_mul (pv 5) (pe_op op_add (pe_op op_mul pe_int (pv 3)) pe_int)) (pe_op op_mul (pe_op op_mul pe_int (pv 3)) (pv 3))) pe_int) pe_int) pa_nil)) pe_int))
      (pss_one (ps_ret (pe_op op_mod (pe_callTy call_int1 (by rfl) T.int (by decide +kernel) (pa_cons (pe_op op_fdiv (pv 5) pe_int) pa_nil)) (pv 1)))))))))))
      , ?_⟩
    have hdv : ∀ x : Int, CDivW x m := fun x => wide_div m0 hm (by decide) (by decide)
    -- if hand[2] > 0
    refine ⟨_, rfl, a, _, 2, _, rfl, rfl, SqL.of hA, rfl, _, _, rfl, rfl, _, rfl, ?_⟩
    refine ite2 (fun hp => ?_) (fun _ => ?_)
    · refine ⟨_, rfl, a, _, 2, _, rfl, rfl, SqL.of hA, rfl, .inl ⟨_, rfl, ?_⟩⟩
      refine ⟨_, rfl, _, rfl, _, _, rfl, rfl, hdv _, _, rfl, a, _, 2, 2, rfl, rfl, hA, rfl, ?_⟩
      refine ⟨_, rfl, .inl ⟨_, rfl, _, rfl, _, _, rfl, rfl, m0, ?_⟩⟩
      exact k _ (r % m) (Int.emod_nonneg _ (by omega)) (Int.emod_lt_of_pos _ m0) (HandAt.put hC hca hlen i0 (by omega) (Int.ediv_nonneg r0 (by omega))) Kept.upd
    -- at = hand[1]; hand[1] = at + 1; cell = ..
    refine ⟨_, rfl, a, _, 1, _, rfl, rfl, SqL.of hA, rfl, ?_⟩
    refine ⟨_, rfl, _, _, rfl, rfl, _, rfl, a, _, 1, 1, rfl, rfl, hA, rfl, ?_⟩
    refine ⟨_, rfl, _, _, rfl, rfl, .inl ⟨by decide, by decide⟩, _, _, rfl, rfl, ?_⟩
    -- H1: the heap behind this
    obtain ⟨H1, eH1⟩ : ∃ H1, H1 = upd H a (.lst [.ref c, .int (i + 1), .int r]) := ⟨_, rfl⟩
    have kH : Kept a H H1 := by rw [eH1]; exact Kept.upd
    have hA1 : H1 a = some (.lst [.ref c, .int (i + 1), .int r]) := by rw [eH1]; exact upd_same
    have hC1 : H1 c = some (.lst (ns.map V.int)) := by rw [eH1, upd_ne hca]; exact hC
    show Evl.tCut _ _ _ _ (upd H a (.lst [.ref c, .int (i + 1), .int r]))
    rw [← eH1]
    refine ⟨fun σ' H' => Same H1 H' ∧ ∃ cell : Int, σ' = [some (.ref a), some (.int m), none, some (.int i), some (.int cell), none], ?_, ?_⟩
    · refine ⟨_, rfl, a, _, 0, _, rfl, rfl, SqL.of hA1, rfl, Nat.zero_le _, fun p hp => ?_⟩
      have hcp : c ≠ p := ne_of_none hC1 hp
      have hap : a ≠ p := ne_of_none hA1 hp
      have sm : Same H1 (upd H1 p (.lst [])) := fun b o e => by rw [upd_ne (ne_of_none e hp)]; exact e
      refine ⟨.list (ns.map PyData.int), .list [], .lst (SqL.of (sm _ _ hC1)) (dpInts ns), .lst (SqL.of upd_same) .nil, PySem.W.ke_shaped_ints ns, rfl, _, rfl, ?_⟩
      refine ite2 (fun hne => ?_) (fun _ => ?_)
      · have hn0 : 0 < ns.length := by
          cases ns with
          | nil => exact absurd hne (by decide)
          | cons x xs => exact Nat.succ_pos _
        have hl0 : (0 : Int) < (((ns.map V.int).length : Nat) : Int) := by rw [List.length_map]; omega
        have hj0 : 0 ≤ i % (((ns.map V.int).length : Nat) : Int) := Int.emod_nonneg _ (by omega)
        have hj1 : i % (((ns.map V.int).length : Nat) : Int) < (((ns.map V.int).length : Nat) : Int) := Int.emod_lt_of_pos _ hl0
        obtain ⟨j, hj⟩ : ∃ j : Nat, i % (((ns.map V.int).length : Nat) : Int) = (j : Int) := ⟨(i % (((ns.map V.int).length : Nat) : Int)).toNat, by omega⟩
        have hjl : j < ns.length := by rw [List.length_map] at hj1 hj; omega
        refine ⟨_, rfl, a, _, 0, _, rfl, rfl, SqL.of (sm _ _ hA1), rfl, _, rfl, .inl ⟨_, rfl, ?_⟩⟩
        refine ⟨_, rfl, a, _, 0, _, rfl, rfl, SqL.of (sm _ _ hA1), rfl, c, _, rfl, .inl (SqL.of (sm _ _ hC1)), _, _, rfl, rfl, hl0, c, _, _, .int ns[j], rfl, rfl, SqL.of (sm _ _ hC1), ?_, ?_⟩
        · rw [hj]
          exact atI_nat (by rw [List.getElem?_map, List.getElem?_eq_getElem hjl]; rfl)
        · exact ⟨sm, ns[j], rfl⟩
      · exact ⟨sm, _, rfl⟩
    · rintro σ' H2 ⟨sm, cell, rfl⟩
      have hA2 := sm _ _ hA1
      have hC2 := sm _ _ hC1
      have kH2 : Kept a H H2 := fun b o e q => sm b o (kH b o e q)
      -- a great cell: what is left of it
      refine ⟨fun σ' H' => σ' = [some (.ref a), some (.int m), none, some (.int i), some (.int cell), none] ∧ H' = H2, ?_, ?_⟩
      · refine ⟨_, rfl, _, rfl, a, _, 0, _, rfl, rfl, SqL.of hA2, rfl, c, _, rfl, .inl (SqL.of hC2), _, _, rfl, rfl, _, rfl, ?_⟩
        refine ite2 (fun _ => ?_) (fun _ => ?_)
        · refine ⟨_, rfl, cell, rfl, _, _, rfl, rfl, ⟨by decide, by decide, by decide⟩, _, _, rfl, rfl, _, rfl, ?_⟩
          refine ite2 (fun hge => ?_) (fun _ => ⟨rfl, rfl⟩)
          have hge' := of_decide_eq_true hge
          refine ⟨_, rfl, cell, rfl, _, _, rfl, rfl, ⟨by decide, by decide, by decide⟩, _, _, rfl, rfl, _, _, rfl, rfl, .inl ⟨by decide, by decide⟩, _, rfl, _, _, rfl, rfl, .inr ⟨_, rfl, _, _, rfl, rfl, ?_⟩⟩
          have hr2 : ∀ b : Bool, 0 ≤ 2 * ((if cell < 0 then -cell else cell) - (10 : Int) ^ Int.toNat 18) + (if b = true then 1 else 0) := by
            intro b
            have e1 : (if b = true then (1 : Int) else 0) ≥ 0 := by cases b <;> decide
            have e2 : (10 : Int) ^ Int.toNat 18 ≤ (if cell < 0 then -cell else cell) := hge'
            omega
          refine ⟨_, rfl, .inl ⟨_, rfl, _, rfl, _, _, rfl, rfl, hdv _, _, rfl, a, _, 2, 2, rfl, rfl, hA2, rfl, ?_⟩⟩
          refine ⟨_, rfl, .inl ⟨_, rfl, _, rfl, _, _, rfl, rfl, m0, ?_⟩⟩
          exact k _ _ (Int.emod_nonneg _ (by omega)) (Int.emod_lt_of_pos _ m0) (HandAt.put hC2 hca hlen (by omega) (by omega) (Int.ediv_nonneg (hr2 _) (by omega))) (kH2.trans Kept.upd)
        · exact ⟨rfl, rfl⟩
      · rintro σ' H3 ⟨rfl, rfl⟩
        have hin : i ≤ 10000 := by omega
        have b1 : 0 ≤ cell % 2147483563 := Int.emod_nonneg _ (by decide)
        have b2 : cell % 2147483563 < 2147483563 := Int.emod_lt_of_pos _ (by decide)
        refine ⟨_, rfl, .inl ⟨_, rfl, _, _, rfl, rfl, (by decide : (0 : Int) < 2147483563), _, rfl, _, _, rfl, rfl, .inl ⟨by decide, by decide⟩, _, _, rfl, rfl, _, _, rfl, rfl, _, _, rfl, rfl, ⟨by decide, by decide, ?_⟩, ?_⟩⟩
        · show (cell % 2147483563 + 74413 * i + 5479).natAbs < 2 ^ 64
          have e : (2 : Nat) ^ 64 = 18446744073709551616 := by decide
          rw [e]
          omega
        have hb : ∀ x : Int, ((x % 2147483587) * (2 * i + 3023) + 62047 * i * i + 93967).natAbs < 2 ^ 64 := by
          intro x
          have b3 : 0 ≤ x % 2147483587 := Int.emod_nonneg _ (by decide)
          have b4 : x % 2147483587 < 2147483587 := Int.emod_lt_of_pos _ (by decide)
          have e : (2 : Nat) ^ 64 = 18446744073709551616 := by decide
          have c1 : 0 ≤ (x % 2147483587) * (2 * i + 3023) := Int.mul_nonneg b3 (by omega)
          have c2 : (x % 2147483587) * (2 * i + 3023) ≤ 2147483587 * 23023 := Int.mul_le_mul (by omega) (by omega) (by omega) (by omega)
          have c3 : 0 ≤ 62047 * i * i := Int.mul_nonneg (by omega) i0
          have c4 : 62047 * i * i ≤ 620470000 * 10000 := Int.mul_le_mul (by omega) hin i0 (by omega)
          rw [e]
          omega
        have hc : ∀ x : Int, CMul (x % 2147483587) (2 * i + 3023) := by
          intro x
          have b3 : 0 ≤ x % 2147483587 := Int.emod_nonneg _ (by decide)
          have b4 : x % 2147483587 < 2147483587 := Int.emod_lt_of_pos _ (by decide)
          exact .inl ⟨by omega, by omega⟩
        refine .inl ⟨_, rfl, _, _, rfl, rfl, (by decide : (0 : Int) < 2147483587), ?_⟩
        refine ⟨_, rfl, _, rfl, _, _, rfl, rfl, .inl ⟨by decide, by decide⟩, _, _, rfl, rfl, _, _, rfl, rfl, hc _, _, rfl, _, _, rfl, rfl, .inl ⟨by decide, by decide⟩, _, rfl, _, _, rfl, rfl, .inl ⟨by omega, by omega⟩, _, _, rfl, rfl, _, _, rfl, rfl, _, _, rfl, rfl, ⟨by decide, by decide, hb _⟩, ?_⟩
        refine .inl ⟨_, rfl, _, _, rfl, rfl, (by decide : (0 : Int) < 2147483629), ?_⟩
        refine ⟨_, rfl, _, _, rfl, rfl, ⟨by decide, by decide⟩, .inl ⟨_, rfl, _, rfl, _, _, rfl, rfl, m0, ?_⟩⟩
        exact k _ _ (Int.emod_nonneg _ (by omega)) (Int.emod_lt_of_pos _ m0) ⟨ns, i + 1, r, hA2, hC2, hca, hlen, by omega, by omega, r0⟩ kH2
end
end W33
set_option Elab.async false
set_option linter.all false
set_option maxRecDepth 100000
set_option maxHeartbeats 2000000
namespace W33
open PySem L2 PySem.Spec PyProof.Rows WR WB
structure EqW (P : Program) (w : World) (K : PySem.W.Frag) (mg : Str → Option Value) (base : Heap) (C : Addr) : Prop where
  ex : ∃ (f : Addr) (fd : FuncData), FnOk P w K mg base CX0 1 f fd ["self", "other"] (spEq K C) ∧ PySem.W.findIn K (.ref C) "__eq__" = some (some (.ref f)) ∧ PySem.W.isFn K (.ref f) = true ∧ Binds K fd ["self", "other"] []
end W33
set_option Elab.async false
set_option linter.all false
set_option maxRecDepth 100000
set_option maxHeartbeats 2000000
/-! x != y, of two instances whose class has an own == and no own !=. -/
namespace NeK
open PySem PySem.Spec PyProof.Rows PySem.SeqAt
section
variable {M : Model} {prog : Program} {w : World} {A : Around} {E : Value → Shared → Prop} {s : Shared} {K : PySem.W.Frag} {x y f C : Addr} {ox oy : Obj} {od od' : Option Obj}
theorem ne_entry (hu : A.units < cLine) (X : K.In s.heap) (I : PySem.W.InstAt s.heap x ox C od) (hs : PySem.W.findIn K (.ref C) "__eq__" = some (some (.ref f))) (hf : PySem.W.isFn K (.ref f) = true) {Q : Fin → Shared → Prop}
    (hcall : wpAny (model prog w) A (call (.ref f) [.ref x, .ref y]) (fun v s' => ∃ b, v = .bool b ∧ Q (.done (.ret (.bool (!b)))) s') E s) :
    wpAny (model prog w) A (Builtin.«object.__ne__» ⟨[.ref x, .ref y], []⟩) Q E s := by
  unfold Builtin.«object.__ne__»
  repeat (first
    | with_reducible refine wpAny_cRoomFor hu ?_
    | (refine wpAny_bind (m := callSpecialIfBound? (.ref x) (Str.ofString "__eq__") [.ref y])
        (PySem.W.ifBound_K X I hs hf (wpAny_mono hcall (fun r s' hr => by
          obtain ⟨b, rfl, hq⟩ := hr
          repeat (first | exact hq | exact wpAny_pure hq | exact wpAny_truthy_bool hq | (refine wpAny_bind (m := truthy (.bool _)) (wpAny_truthy_bool ?_)) | wp_step)) fun _ _ e => e)))
    | wp_step)
theorem ifBound_ne {args : List Value} {Q : Option Value → Shared → Prop} (X : K.In s.heap) (I : PySem.W.InstAt s.heap x ox C od) (hs : PySem.W.findIn K (.ref C) "__ne__" = some (some (.builtin "object.__ne__")))
    (h : wpAny M A (call (.builtin "object.__ne__") (.ref x :: args)) (fun v => Q (some v)) E s) : wpAny M A (callSpecialIfBound? (.ref x) "__ne__" args) Q E s := by
  simp only [callSpecialIfBound?, bindSpecialIfBound?]
  refine wpAny_holding (wpAny_bind (wpAny_bind (wpAny_bind (I.type.here ((PySem.W.looks_findIn X hs).here ?_)))))
  refine wpAny_bind (wpAny_askSetting (wpAny_ite ?_))
  have fin : wpAny M A (call (.builtin "object.__ne__") ([.ref x] ++ args) >>= fun v => pure (some v)) Q E s := wpAny_bind (wpAny_mono h (fun v s' h' => wpAny_pure h') fun _ _ h' => h')
  split
  · exact wpAny_bind (wpAny_of_eq (F.cmp_object.ne.bind _) (wpAny_pure (by exact fin)))
  · exact wpAny_tryCatch (wpAny_bind (wpAny_of_eq (F.cmp_object.ne.bind _) (wpAny_pure (by exact fin))))
theorem rc_ne (hu : A.units + 1 < cLine) (X : K.In s.heap) (I : PySem.W.InstAt s.heap x ox C od) (I' : PySem.W.InstAt s.heap y oy C od') (hm : PySem.W.mroIn K C (.type "object") = some true) (hs : PySem.W.findIn K (.ref C) "__eq__" = some (some (.ref f))) (hf : PySem.W.isFn K (.ref f) = true)
    (hn : PySem.W.findIn K (.ref C) "__ne__" = some (some (.builtin "object.__ne__"))) {Q : Value → Shared → Prop}
    (hcall : wpAny (model prog w) A.in1 (call (.ref f) [.ref x, .ref y]) (fun v s' => ∃ b, v = .bool b ∧ Q (.bool (!b)) s') E s) :
    wpAny (model prog w) A (richCompare .NotEq (.ref x) (.ref y)) Q E s := by
  have one : wpAny (model prog w) A (tryCompare (.ref x) "__ne__" (.ref y)) (fun r s' => ∃ b, r = some (.bool b) ∧ Q (.bool b) s') E s := by
    unfold tryCompare
    refine wpAny_bind (ifBound_ne X I hn (wpAny_call (codeAny_call_builtin F.cmp_object.ne.plain F.cmpEntry_ne (PySem.W.check_slot F.cmpKind_ne F.cmpSplit_ne (I.type.andThen (PySem.W.looks_mroIn X hm)) (F.cmpArgs_ne _ _)
      (ne_entry (A := A.in1) hu X I hs hf (wpAny_mono hcall (fun v s' hv => ?_) fun _ _ e => e))))))
    obtain ⟨b, rfl, hq⟩ := hv
    first | exact ⟨b, rfl, wpAny_pure ⟨_, rfl, hq⟩⟩ | exact ⟨b, rfl, wpAny_pure (wpAny_pure ⟨_, rfl, hq⟩)⟩ | exact ⟨b, rfl, _, rfl, hq⟩
  unfold richCompare
  simp only [oneThing_ref]
  refine wpAny_holding (wpAny_bind (wpAny_cRoomFor (Nat.lt_of_succ_lt hu) ?_))
  rw [cmpInfo_NotEq]
  dsimp only
  refine wpAny_bind (I.type.here (wpAny_bind (I'.type.here ?_)))
  rw [show (Value.ref C != Value.ref C) = false from by simp]
  simp only [Bool.false_eq_true, if_false]
  refine wpAny_bind (wpAny_pure ?_)
  simp only [Bool.false_eq_true, if_false]
  refine wpAny_bind (wpAny_mono one (fun v s' hv => ?_) fun _ _ e => e)
  obtain ⟨b, rfl, hq⟩ := hv
  first | exact wpAny_pure hq | exact wpAny_pure (wpAny_pure hq) | exact hq
end
end NeK
namespace W33
open PySem L2 PySem.Spec PyProof.Rows WR WB
def rNeW (K : PySem.W.Frag) (C : Addr) : R2 := fun x y H Q => ∃ (p q : Addr) (ns ms : List Int), x = .ref p ∧ y = .ref q ∧ WordAt K C H p ns ∧ WordAt K C H q ms ∧ Q (.bl (!decide (ns = ms))) H
section
variable {X : Cx} {C : Addr}
theorem op_neW (M : EqW X.prog X.w X.K X.mg X.base C) (hne : PySem.W.findIn X.K (.ref C) "__ne__" = some (some (.builtin "object.__ne__"))) (hmr : PySem.W.mroIn X.K C (.type "object") = some true) {j : Nat} (hr : Room j X.A) (hj : 2 ≤ j) : OpR X (compareOp .NotEq) (rNeW X.K C) := by
  intro pins s σ H x y u v Q I rx ry d
  obtain ⟨f, fd, F, hs, hf, hb⟩ := M.ex
  obtain ⟨a, b, ns, ms, rfl, rfl, W1, W2, hq⟩ := d
  cases rx
  cases ry
  obtain ⟨dx, tl, tk, ks, ha, _⟩ := id W1
  obtain ⟨dx', tl', tk', ks', hb', _⟩ := id W2
  obtain ⟨mA, J, _⟩ := ins_get I.hok ha
  obtain ⟨mB, J', _⟩ := ins_get I.hok hb'
  obtain ⟨od, J, _⟩ := J.look
  obtain ⟨od', J', _⟩ := J'.look
  have rm2 : Room 2 X.A := hr.mono hj
  have rm : Room 1 X.A.in1 := rm2.in1
  show wpAny (model X.prog X.w) X.A (richCompare .NotEq (.ref a) (.ref b)) (EP X pins σ Q) X.xe s
  refine NeK.rc_ne (by have := rm.units0; exact this) I.kIn J J' hmr hs hf hne ?_
  have hsp : spEq X.K C [.ref a, .ref b] H (fun v H' => ∃ c, v = .bl c ∧ Q (.bl (!c)) H') E0 := ⟨a, b, ns, ms, rfl, W1, W2, _, rfl, hq⟩
  have e0 : Env0 X.prog X.w X.K X.mg X.base X.A.in1 X.stack s H := by
    have e := I.env0
    exact ⟨e.frames, e.mod, e.bs, e.bsz, e.funs, e.frf, e.hok, e.bare⟩
  have hl := F.len _ _ _ _ hsp
  have r2 : Vals [V.ref a, V.ref b] [Value.ref a, Value.ref b] := .cons rfl (.cons rfl .nil)
  refine wpAny_call (codeAny_mono (F.run X.A.in1 X.stack s H ⟨[.ref a, .ref b], []⟩ [.ref a, .ref b] [.ref a, .ref b] _ E0 rm e0 (by
    have := hb s [.ref a, .ref b] I.kIn (by simpa using hl)
    simpa using this) r2 hsp) fun r s' hq => ?_)
  cases r with
  | error e => exact pass0 pins σ H s e s' I hq
  | ok fl =>
    cases fl with
    | ret w =>
      obtain ⟨z, H', I', rz, c, ez, q⟩ := I.after hq
      subst ez
      cases rz
      exact ⟨c, rfl, .bl (!c), H', I', rfl, q⟩
    | next => exact False.elim hq
    | brk => exact False.elim hq
    | cont => exact False.elim hq
end
end W33
set_option Elab.async false
set_option linter.all false
set_option maxRecDepth 100000
set_option maxHeartbeats 2000000
namespace W33
open PySem L2 PySem.Spec PyProof.Rows WR WB
abbrev sPick : Stmt := top 76
def Drew (a c : Addr) (n : Nat) (H H' : Hp) : Prop := HandAt H' a c n ∧ Kept a H H'
theorem HandAt.mono {H : Hp} {a c : Addr} {m n : Nat} (h : HandAt H a c m) (l : m ≤ n) : HandAt H a c n := by
  obtain ⟨ns, i, r, h1, h2, h3, h4, h5, h6, h7⟩ := h
  exact ⟨ns, i, r, h1, h2, h3, h4, h5, by omega, h7⟩
theorem HandAt.off {H : Hp} {a c p : Addr} {n : Nat} {o : HO} (h : HandAt H a c n) (h1 : p ≠ a) (h2 : p ≠ c) : HandAt (L2.upd H p o) a c n := by
  obtain ⟨ns, i, r, h3, h4, h5⟩ := h
  exact ⟨ns, i, r, by rw [upd_ne h1.symm]; exact h3, by rw [upd_ne h2.symm]; exact h4, h5⟩
theorem HandAt.ne {H : Hp} {a c p : Addr} {n : Nat} (h : HandAt H a c n) (hp : H p = none) : p ≠ a := by
  obtain ⟨ns, i, r, h1, _⟩ := h
  exact (ne_of_none h1 hp).symm
theorem HandAt.neC {H : Hp} {a c p : Addr} {n : Nat} (h : HandAt H a c n) (hp : H p = none) : p ≠ c := by
  obtain ⟨ns, i, r, h1, h2, _⟩ := h
  exact (ne_of_none h2 hp).symm
theorem HandAt.new {H : Hp} {a c p : Addr} {n : Nat} {o : HO} (h : HandAt H a c n) (hp : H p = none) : HandAt (L2.upd H p o) a c n := h.off (h.ne hp) (h.neC hp)
theorem Drew.refl {a c : Addr} {n : Nat} {H : Hp} (h : HandAt H a c n) : Drew a c n H H := ⟨h, Kept.refl⟩
theorem Drew.trans {a c : Addr} {m n : Nat} {H H1 H2 : Hp} (h1 : Drew a c m H H1) (h2 : Drew a c n H1 H2) : Drew a c n H H2 := ⟨h2.1, h1.2.trans h2.2⟩
theorem Drew.new {a c p : Addr} {n : Nat} {H H1 : Hp} {o : HO} (h : Drew a c n H H1) (hp : H1 p = none) : Drew a c n H (L2.upd H1 p o) := ⟨h.1.new hp, h.2.new hp⟩
theorem Drew.mono {a c : Addr} {m n : Nat} {H H1 : Hp} (h : Drew a c m H H1) (l : m ≤ n) : Drew a c n H H1 := ⟨h.1.mono l, h.2⟩
/-- an object that was not there at first may change -/
theorem Drew.put {a c p : Addr} {n : Nat} {H H1 : Hp} {o : HO} (h : Drew a c n H H1) (h0 : H p = none) (h1 : p ≠ a) (h2 : p ≠ c) : Drew a c n H (L2.upd H1 p o) :=
  ⟨h.1.off h1 h2, fun b u nb e => by rw [upd_ne (ne_of_none e h0)]; exact h.2 b u nb e⟩
theorem Drew.back {a c p : Addr} {n : Nat} {H H1 : Hp} (h : Drew a c n H H1) (hp : H1 p = none) : H p = none := by
  cases e : H p with
  | none => rfl
  | some o =>
    have q := h.2 p o (h.1.ne hp) e
    rw [hp] at q
    cases q
theorem HandAt.same {H H' : Hp} {a c : Addr} {n : Nat} (h : HandAt H a c n) (s : Same H H') : HandAt H' a c n := by
  obtain ⟨ns, i, r, h1, h2, h3⟩ := h
  exact ⟨ns, i, r, s _ _ h1, s _ _ h2, h3⟩
theorem Drew.same {a c : Addr} {n : Nat} {H H1 H2 : Hp} (h : Drew a c n H H1) (s : Same H1 H2) : Drew a c n H H2 := ⟨h.1.same s, fun b o nb e => s b o (h.2 b o nb e)⟩
/-- a new list of these ints -/
def NewL (H : Hp) (Q : VK) (ns : List Int) : Prop := ∀ p H', H p = none → Same H H' → H' p = some (.lst (iv ns)) → Q (.ref p) H'
def spPick : Sp := fun vs H Q _ => ∃ (a c p : Addr) (xs : List V) (n : Nat), vs = [.ref a, .ref p] ∧ HandAt H a c n ∧ n ≤ 10000 ∧ p ≠ a ∧ H p = some (.lst xs) ∧ 0 < xs.length ∧ xs.length ≤ 1000 ∧ ∀ v ∈ xs, ∀ H', Drew a c (n + 1) H H' → Q v H'
structure TxN (mg : Str → Option Value) : Prop where
  range : mg "range" = none
  list : mg "list" = none
section
variable {P : Program} {w : World} {K : PySem.W.Frag} {mg : Str → Option Value} {base : Heap}
theorem scPick : FnScope ["_law_pen_here", "_law_some"] ["_law_pen_here", "_law_some"] (defScope sPick) := ⟨rfl, rfl, rfl, by decide +kernel, rfl, by decide +kernel, by decide +kernel⟩
theorem ok_pick {f : Addr} {fd : FuncData} (F : Fun K "_law_pick" "_law_pick" sPick f fd) (GT : Cal P w K mg base "_law_draw" 1 ["_law_pen_here", "_law_many"] spTake) (T : TxL mg) : FnOk P w K mg base CX0 2 f fd ["_law_pen_here", "_law_some"] spPick := by
  refine F.ok scPick (fun vs H Q E h => ?_) (fun cdv A outer s H vs Q E hr h => ?_)
  · obtain ⟨a, c, p, xs, n, rfl, _⟩ := h
    rfl
  · obtain ⟨a, c, p, xs, n, rfl, hH, hn, hpa, hp, h0, h1, k⟩ := h
    refine ⟨_, pss_one (ps_ret (pe_ix ix_list (pv 1) (pe_cal GT hr (by decide) (by rfl) (pa_cons (pv 0) (pa_cons (pe_callB call_len_seq (by rfl) T.len PySem.boot_len (pa_cons (pv 1) pa_nil)) pa_nil))) (fun _ _ => rfl))), ?_⟩
    refine ⟨_, rfl, _, rfl, _, rfl, p, _, rfl, .inl (SqL.of hp), a, c, _, n, rfl, hH, hn, by omega, ?_, ?_⟩
    · have : (((xs.length : Nat) : Int)).natAbs ≤ 1000 := by omega
      exact Nat.lt_of_le_of_lt this (by decide)
    · intro H' q q0 q1 hH' hK
      obtain ⟨j, rfl⟩ : ∃ j : Nat, q = (j : Int) := ⟨q.toNat, by omega⟩
      have hj : j < xs.length := by omega
      refine ⟨p, xs, _, xs[j], rfl, rfl, SqL.of (hK _ _ hpa hp), atI_nat (List.getElem?_eq_getElem hj), ?_⟩
      exact k _ (List.getElem_mem hj) H' ⟨hH', hK⟩
end
end W33
set_option Elab.async false
set_option linter.all false
set_option maxRecDepth 100000
set_option maxHeartbeats 2000000
/-! C.m(..), m a staticmethod of the class C. -/
namespace MStat
open PySem L2 PySem.Spec PyProof.Rows
/-- C.m(..) by place -/
def tSMeth (C : Addr) (sp : Sp) (ta : TE) (t : TA) : TE := fun σ H Q => ta σ H fun x H1 => x = .ref C ∧ t σ H1 fun vs H2 => sp vs H2 Q E0
end MStat
set_option Elab.async false
set_option linter.all false
set_option maxRecDepth 100000
set_option maxHeartbeats 2000000
/-! str(x), len(x), x an instance of an own class with an own __str__, __len__. -/
set_option Elab.async false
set_option linter.all false
set_option maxRecDepth 100000
set_option maxHeartbeats 2000000
/-! A text parted at a sign, and put together again. -/
namespace MText
open PySem PySem.StrLaws Builtin Builtin.Str
/-- the places of c -/
def places (x : Str) (c a n : Nat) : List Nat := (List.range' a n).filter fun i => decide (x.cps.toList[i]? = some c)
theorem len_eq (x : Str) : x.cps.toList.length = x.length := by simp [Str.length]
end MText
set_option Elab.async false
set_option linter.all false
set_option maxRecDepth 100000
set_option maxHeartbeats 4000000
set_option Elab.async false
set_option linter.all false
set_option maxRecDepth 100000
set_option maxHeartbeats 1000000
/-! repr of data, by defs that are called where no repr is under way. -/
namespace RG
open PySem L2 PySem.Spec PyProof.Rows
/-- a def's promise where no repr is under way -/
structure FnG (P : Program) (w : World) (K : PySem.W.Frag) (mg : Str → Option Value) (base : Heap) (k : Nat) (f : Addr) (fd : FuncData) (ps : List Str) (sp : Sp) : Prop where
  many : ∀ zs G R S, sp zs G R S → zs.length = ps.length
  does : ∀ (B : Around) (fr : List Env) (t : Shared) (G : Hp) (as : Args) (us : List Value) (zs : List V) (R : VK) (S : XK), B.guards = some [] → Room k B → Env0 P w K mg base B fr t G → BindsTo t fd as (ps.zip us) → Vals zs us → sp zs G R S →
    codeAny (model P w) B (.call (.ref f) as) (CR CX0 fr P w G t R S) t
theorem FnG.mono {P : Program} {w : World} {K : PySem.W.Frag} {mg : Str → Option Value} {base : Heap} {j k : Nat} {f : Addr} {fd : FuncData} {ps : List Str} {sp : Sp} (F : FnG P w K mg base j f fd ps sp) (h : j ≤ k) : FnG P w K mg base k f fd ps sp :=
  ⟨F.many, fun B fr t G as us zs R S g room => F.does B fr t G as us zs R S g (room.mono h)⟩
theorem fnG_of {P : Program} {w : World} {K : PySem.W.Frag} {mg : Str → Option Value} {base : Heap} {k : Nat} {f : Addr} {nm qual : Str} {params : Arguments} {body : List Stmt} {scope : Scope} {dV kV doc pm cdv ct oc : Value} {an od : Option Addr} {osl : Array (Option Value)} {N ps : List Str} {sp : Sp}
    (lk : K.lookup f = some ⟨oc, od, .func (PySem.W.fnOf nm qual params body scope dV kV doc pm an cdv ct), osl⟩) (cd : PySem.W.codeIn K cdv qual = true) (S : FnScope N ps scope) (many : ∀ zs G R E, sp zs G R E → zs.length = ps.length)
    (B0 : ∀ (B : Around) (fr : List Env) (t : Shared) (G : Hp) (zs : List V) (R : VK) (E : XK), B.guards = some [] → Room k (B.deeper (envOfC qual scope t.heap.objs.size f cdv)) → sp zs G R E →
      ∃ tb, PSs (cxOf CX0 P w K mg base N qual scope f cdv B fr t G E) body tb ∧ tb { nx := fun _ G' => R .non G', rt := R } (L2.start N zs) G) :
    FnG P w K mg base (k + 1) f (PySem.W.fnOf nm qual params body scope dV kV doc pm an cdv ct) ps sp where
  many := many
  does := by
    intro B fr t G as us zs R E hg room e0 bind rel asked
    have n1 := many _ _ _ _ asked
    have old : ∀ b o, base.get? b = some o → t.heap.get? b = some o := fun b o e => (e0.bs b o e).1
    have KX := e0.mod.kin.keeps old
    have names : ∀ y ∈ ps.zip us, scope.names.lookup y.1 = some .local ∨ (scope.names.lookup y.1 = some .cell ∧ ((cellsFrom (t.heap.objs.size + 1) scope.names []).lookup y.1).isSome = true) := by
      rintro ⟨a, b⟩ hy
      exact (S.par a (List.of_mem_zip hy).1).imp id fun c => ⟨c, PySem.W.cellsFrom_some _ _ _ (Or.inl c)⟩
    refine codeAny_call_function room.depth (KX _ _ lk) rfl S.co S.gen rfl (PySem.W.codeRec_of KX cd) (bind _ _ _ _ (wpAny_newFunctionEnv_cells S.kind names fun env he t1 x => ?_))
    subst he
    refine ⟨(e0.mod.nolimit.keeps old).keeps x.toInCall.keep, codeAny_func ?_⟩
    obtain ⟨tb, run, read⟩ := B0 B fr t G zs R E hg (room.deeper _) asked
    have I0 := inv_start (CX := CX0) (P := P) (w := w) (E := E) S room.hd e0 n1 rel x
    refine wpAny_mono (run.run [] t1 _ G _ I0 read) ?_ fun _ _ z => z
    intro fl t2 z
    cases fl with
    | next =>
      obtain ⟨τ, G2, J, q⟩ := z
      exact ⟨.non, G2, J.os, J.bare, J.base, J.hok, rfl, q⟩
    | ret u =>
      obtain ⟨v, τ, G2, J, rv, q⟩ := z
      exact ⟨v, G2, J.os, J.bare, J.base, J.hok, rv, q⟩
    | brk => exact z.elim fun _ z => z.elim fun _ z => False.elim z.2
    | cont => exact z.elim fun _ z => z.elim fun _ z => False.elim z.2
theorem Fun.okG {P : Program} {w : World} {K : PySem.W.Frag} {mg : Str → Option Value} {base : Heap} {x qual : Str} {st : Stmt} {f : Addr} {fd : FuncData} {N ps : List Str} {k : Nat} {sp : Sp} (F : L2.Fun K x qual st f fd) (S : FnScope N ps (defScope st)) (many : ∀ zs G R E, sp zs G R E → zs.length = ps.length)
    (B0 : ∀ (cdv : Value) (B : Around) (fr : List Env) (t : Shared) (G : Hp) (zs : List V) (R : VK) (E : XK), B.guards = some [] → Room k (B.deeper (envOfC qual (defScope st) t.heap.objs.size f cdv)) → sp zs G R E →
      ∃ tb, PSs (cxOf CX0 P w K mg base N qual (defScope st) f cdv B fr t G E).nox (defBody st) tb ∧ tb { nx := fun _ G' => R .non G', rt := R } (L2.start N zs) G) : FnG P w K mg base (k + 1) f fd ps sp := by
  obtain ⟨oc, od, kV, doc, pm, an, cdv, ct, osl, rfl, lk, cd⟩ := F.ex
  refine fnG_of lk cd S many fun B fr t G zs R E hg room asked => ?_
  obtain ⟨tb, run, read⟩ := B0 cdv B fr t G zs R E hg room asked
  exact ⟨tb, run.nox, read⟩
end RG
set_option Elab.async false
set_option linter.all false
set_option maxRecDepth 100000
set_option maxHeartbeats 1000000
/-! the law's own call: no repr is under way. -/
namespace RG
open PySem L2 PySem.Spec PyProof.Rows
section
variable {P : Program} {w : World} {K : PySem.W.Frag} {s : Shared} {a : Addr} {vs : List Value} {ns : List Int}
/-- the list that the script is -/
def scriptO (vs : List Value) : Obj := { cls := .type "list", data := .seq vs.toArray }
/-- the script is told, if the module has it not -/
def startH (K : PySem.W.Frag) (a : Addr) (vs : List Value) (ns : List Int) : Hp := fun b => if b = a ∧ K.lookup a = none then some (.frz (scriptO vs) (.lst (ns.map V.int))) else none
theorem startH_some {b : Addr} {u : HO} (h : startH K a vs ns b = some u) : b = a ∧ K.lookup a = none ∧ u = .frz (scriptO vs) (.lst (ns.map V.int)) := by
  unfold startH at h
  split at h
  · rename_i c
    exact ⟨c.1, c.2, (Option.some.inj h).symm⟩
  · cases h
theorem startH_seq (KX : K.In s.heap) (at_ : s.heap.get? a = some (scriptO vs)) (whole : IntsAre vs ns) (few : ns.length ≤ sizeLine) : SqL K (startH K a vs ns) a (ns.map V.int) := by
  cases hk : K.lookup a with
  | none => exact Or.inl (Or.inr ⟨scriptO vs, if_pos ⟨rfl, hk⟩⟩)
  | some o =>
    have same : o = scriptO vs := Option.some.inj ((KX a o hk).symm.trans at_)
    subst same
    exact Or.inr ⟨_, vs.toArray, _, hk, rfl, rfl, rfl, by rw [List.size_toArray, whole.length]; exact few, by simpa using vals_ints whole⟩
end
end RG
set_option Elab.async false
set_option linter.all false
set_option maxRecDepth 100000
set_option maxHeartbeats 4000000
/-! set(a list of ints). -/
namespace WS
open PySem PySem.Spec PyProof.Rows L2
section
variable {P : Program} {w : World} {A : Around} {E : Value → Shared → Prop} {s : Shared}
/-- the heap with the new set, and with the walk of the list besides -/
abbrev hSet (w : World) (s : Shared) : Heap := s.heap.push (bareSet w)
abbrev hWalk (w : World) (s : Shared) (l : Addr) : Heap := (hSet w s).push { cls := .type "list_iterator", data := .fields #[.ref l, .int 0 0] }
theorem bare_zero {h : Heap} {a : Addr} {ns : List Int} (e : h.get? a = some (bareSet w)) : SetR w h a (fun j => decide (j ∈ ns.take 0)) 0 := setR_new_at e
/-- what set.__init__ leaves -/
def Filled (w : World) (s : Shared) (ns : List Int) (t : Shared) : Prop :=
  ∃ (g : Heap) (k m : Nat), t = { s with heap := g, toks := k } ∧ SetR w g s.heap.objs.size (fun j => decide (j ∈ ns)) m ∧ m ≤ ns.length ∧ ∀ b o, s.heap.get? b = some o → g.get? b = some o
theorem init_list {l : Addr} {its : Array Value} {ns : List Int} (quiet : A.handled = none) (hl : s.heap.IsList l its) (hit : IntsAre its.toList ns) (few : ns.length + 1 < scanBound) :
    wpAny (model P w) A (Builtin.«set.__init__» ⟨[.ref s.heap.objs.size, .ref l], []⟩) (fun r t => r = .done (.ret .none) ∧ Filled w s ns t) E { s with heap := hSet w s } := by
  have many : its.size = ns.length := by have z := hit.length; rwa [Array.length_toList] at z
  have new : (hSet w s).get? s.heap.objs.size = some (bareSet w) := Heap.get?_push_size _ rfl
  have old : ∀ {b o}, s.heap.get? b = some o → (hSet w s).get? b = some o := fun e => Heap.get?_push_of_some _ e
  have ty : Shared.TypeIs { s with heap := hSet w s } (.ref s.heap.objs.size) "set" := ⟨_, new, rfl⟩
  have hl1 : (hSet w s).IsList l its := hl.push _
  have lo : l < s.heap.objs.size := by obtain ⟨_, e, _⟩ := hl; exact Heap.lt_size e
  have sz : (hSet w s).objs.size = s.heap.objs.size + 1 := Heap.size_push ..
  obtain ⟨⟨c0, d0, x0, o0⟩, at0, cls0, n0, dat0⟩ := id hl1
  simp only at cls0 dat0
  subst cls0 dat0
  have u1 := PySem.F.sub_list_set
  have u2 := PySem.F.sub_list_frozenset
  have u3 : (Value.type "list" == Value.type "dict") = false := rfl
  unfold Builtin.«set.__init__» noKeywords Builtin.Frozenset.updateFrom
  generalize hid : pyIter = it
  wp_walk
  subst hid
  refine wpAny_pyIter_list hl1 (wpAny_bind (wpAny_runValue ?_))
  have off : s.heap.objs.size ∉ [(hSet w s).objs.size, l] := by
    intro m
    rcases List.mem_cons.mp m with m | m
    · exact absurd (m.trans sz) (Nat.ne_of_lt (Nat.lt_succ_self _))
    · exact absurd (List.mem_singleton.mp m).symm (Nat.ne_of_lt lo)
  have apart : l ≠ (hSet w s).objs.size := fun e => absurd (e.trans sz) (Nat.ne_of_lt (Nat.lt_succ_of_lt lo))
  refine set_update_ints (Walks.list (by simpa using quiet) _ l apart its).toS _ off ns many few (fun i v q => ?_) (its.size - 0) 0 { s with heap := hWalk w s l } (by omega) (Nat.zero_le _) ⟨⟨_, Heap.get?_push_size _ rfl, rfl, rfl⟩, hl1.push _⟩ ⟨0, Nat.le_refl 0, bare_zero (Heap.get?_push_of_some _ new)⟩ fun t m mv le S => ?_
  · have lt : i < ns.length := by rw [← many]; exact (Array.getElem?_eq_some_iff.mp q).1
    obtain ⟨k, e⟩ := hit.int_at i v (by rw [Array.getElem?_toList]; exact q)
    rw [List.getD_eq_getElem?_getD, List.getElem?_eq_getElem lt] at e
    exact ⟨_, k, List.getElem?_eq_getElem lt, e⟩
  · obtain ⟨g, q, d, k, z⟩ := t
    obtain rfl : q = s.gens := mv.gens
    obtain rfl : d = s.drawn := mv.drawn
    obtain rfl : z = s.os := mv.os
    refine wpAny_pure (wpAny_pure ⟨rfl, g, k, m, rfl, S, by rw [← many]; exact le, fun b o e => ?_⟩)
    have lb : b < s.heap.objs.size := Heap.lt_size e
    refine mv.heap b o (fun h => ?_) (Heap.get?_push_of_some _ (old e))
    rcases List.mem_cons.mp h with h | h
    · exact absurd h (Nat.ne_of_lt lb)
    · exact absurd ((List.mem_singleton.mp h).trans sz) (Nat.ne_of_lt (Nat.lt_succ_of_lt lb))
/-- set(xs) of a list of ints -/
theorem set_list {l : Addr} {its : Array Value} {ns : List Int} {Q : Value → Shared → Prop} (quiet : A.handled = none) (hl : s.heap.IsList l its) (hit : IntsAre its.toList ns) (few : ns.length + 1 < scanBound)
    (fin : ∀ t, Filled w s ns t → Q (.ref s.heap.objs.size) t) : wpAny (model P w) A (call (.type "set") [.ref l]) Q E s := by
  have F := PySem.F.called_set
  obtain ⟨top, below, mro⟩ := F.mro
  have f1 := F.made; have f2 := F.sub; have f3 := F.notType; have f4 := F.canCreate
  have f5 := PySem.F.typeCall_set_1 (.ref l)
  have new : (hSet w s).get? s.heap.objs.size = some (bareSet w) := Heap.get?_push_size _ rfl
  have ty : Shared.TypeIs { s with heap := hSet w s } (.ref s.heap.objs.size) "set" := ⟨_, new, rfl⟩
  have f6 := F.init.lookup; have f7 := F.init.bind (.ref s.heap.objs.size)
  refine wpAny_call (codeAny_of_tree (show wpAny _ _ (callAny (.type "set") _) _ _ _ from wpAny_pure ⟨Code.quiet_builtin _ (by decide +kernel), codeAny_builtin PySem.F.entry_type_call ?_⟩))
  rw [Around.under_plain (weight_type_call_type "set" [.ref l] []) rfl]
  repeat (any_goals (first | assumption | wp_step))
  refine codeAny_mono (code_set_led1 (.ref l) (E := E) (Q₁ := fun v t => v = .ref s.heap.objs.size ∧ t = { s with heap := hSet w s }) ⟨rfl, rfl⟩) ?_
  rintro (e | fl) t ht
  · exact ht
  cases fl with
  | next => exact ht.elim
  | brk => exact ht.elim
  | cont => exact ht.elim
  | ret v =>
  obtain ⟨rfl, rfl⟩ := ht
  repeat (any_goals (first | assumption | wp_step))
  refine codeAny_mono (codeAny_call_builtin (R := wants (fun v t => v = .none ∧ Filled w s ns t) E) F.init.plain PySem.F.entry_set_init (check_set_init_1 ty ?_)) ?_
  · refine wpAny_mono (init_list (by simpa using quiet) hl hit few) ?_ fun _ _ z => z
    rintro _ t ⟨rfl, z⟩
    exact ⟨rfl, z⟩
  rintro (e | fl) t ht
  · exact ht
  cases fl with
  | next => exact ht.elim
  | brk => exact ht.elim
  | cont => exact ht.elim
  | ret v =>
  obtain ⟨rfl, z⟩ := ht
  repeat (any_goals (first | assumption | wp_step))
  exact fin _ z
end
section
variable {X : Cx}
def rSetLI (K : PySem.W.Frag) (w : World) : List V → Hp → VK → Prop := fun xs H Q => ∃ (p : Addr) (ns : List Int), xs = [.ref p] ∧ SqL K H p (ns.map V.int) ∧ ns.length ≤ 1000 ∧
  ∀ (D : Addr) (L : List Int), H D = none → L.Nodup → (∀ k, k ∈ L ↔ k ∈ ns) → Q (.ref D) (upd H D (SetO w D (fun j => decide (j ∈ ns)) L.length))
theorem call_setLI (hc : X.calm = true) : CallR X (.type "set") (rSetLI X.K X.w) := by
  intro pins s σ H xs us Q I rel ask
  obtain ⟨p, ns, rfl, hs, few, q⟩ := ask
  obtain ⟨u, rfl, ru⟩ := vals1 rel
  cases ru
  obtain ⟨its, rv, pl, hlen⟩ := I.list hs
  refine set_list (ns := ns) (I.ok.hd hc) pl.isList (by simpa using ints_of_vals rv) (by unfold scanBound; omega) fun t ⟨g, k, m, e, S, le, keep⟩ => ?_
  subst e
  have J := I.laid (t' := k) keep (Nat.le_refl _) (setO_new S)
  obtain ⟨o, es, ep, tb, e1, e2, e3, e4, nd, mem, e5, e6, sz, _⟩ := S
  have z := q s.heap.objs.size (es.toList.map keyOf) (I.hok.fresh (Nat.le_refl _)) nd fun k => by rw [← mem k, decide_eq_true_eq]
  rw [List.length_map, Array.length_toList, sz] at z
  exact ⟨.ref _, _, J, rfl, z⟩
end
end WS
set_option linter.all false
/-! The least turned form of a row, by two places that race. -/
namespace Lt
/-- the row from place p on, read round, is less than that from place q on -/
def Ls (f : Nat → Int) (n p q : Nat) : Prop := ∃ k, k < n ∧ (∀ t, t < k → f (p + t) = f (q + t)) ∧ f (p + k) < f (q + k)
theorem Ls.irr {f n p} : ¬ Ls f n p p := by
  rintro ⟨k, _, _, h⟩
  omega
theorem Ls.trans {f : Nat → Int} {n p q r : Nat} (h1 : Ls f n p q) (h2 : Ls f n q r) : Ls f n p r := by
  obtain ⟨k, hk, e1, l1⟩ := h1
  obtain ⟨m, hm, e2, l2⟩ := h2
  by_cases h : k < m
  · exact ⟨k, hk, fun t ht => (e1 t ht).trans (e2 t (by omega)), by rw [← e2 k h]; exact l1⟩
  · by_cases h' : m < k
    · exact ⟨m, hm, fun t ht => (e1 t (by omega)).trans (e2 t ht), by rw [e1 m h']; exact l2⟩
    · have : k = m := by omega
      subst this
      exact ⟨k, hk, fun t ht => (e1 t ht).trans (e2 t ht), by omega⟩
theorem Ls.total (f : Nat → Int) (n p q : Nat) : Ls f n p q ∨ Ls f n q p ∨ ∀ t, t < n → f (p + t) = f (q + t) := by
  induction n with
  | zero => exact .inr (.inr fun t ht => by omega)
  | succ n ih =>
    rcases ih with ⟨k, hk, e, l⟩ | ⟨k, hk, e, l⟩ | e
    · exact .inl ⟨k, by omega, e, l⟩
    · exact .inr (.inl ⟨k, by omega, e, l⟩)
    · by_cases h : f (p + n) < f (q + n)
      · exact .inl ⟨n, by omega, e, h⟩
      · by_cases h' : f (q + n) < f (p + n)
        · exact .inr (.inl ⟨n, by omega, fun t ht => (e t ht).symm, h'⟩)
        · refine .inr (.inr fun t ht => ?_)
          by_cases htn : t < n
          · exact e t htn
          · have : t = n := by omega
            subst this
            omega
theorem ex_min (f : Nat → Int) (n : Nat) : ∀ m, 0 < m → ∃ p, p < m ∧ ∀ q, q < m → ¬ Ls f n q p := by
  intro m
  induction m with
  | zero => intro h; omega
  | succ m ih =>
    intro _
    by_cases h0 : m = 0
    · subst h0
      exact ⟨0, by omega, fun q hq => by have : q = 0 := by omega
                                         subst this; exact Ls.irr⟩
    · obtain ⟨p, hp, hm⟩ := ih (by omega)
      by_cases h : Ls f n m p
      · refine ⟨m, by omega, fun q hq hl => ?_⟩
        by_cases hqm : q = m
        · subst hqm; exact Ls.irr hl
        · exact hm q (by omega) (hl.trans h)
      · refine ⟨p, by omega, fun q hq => ?_⟩
        by_cases hqm : q = m
        · subst hqm; exact h
        · exact hm q (by omega)
/-- what is left out can't be least -/
def Out (f : Nat → Int) (n p : Nat) : Prop := ∃ q, Ls f n q p
structure Race (f : Nat → Int) (n one other alike : Nat) : Prop where
  a : ∀ p, p < one → Out f n p
  b : ∀ p, p < other → p ≠ one → Out f n p
  ne : one ≠ other
  al : alike ≤ n
  e : ∀ t, t < alike → f (one + t) = f (other + t)
theorem Race.start (f : Nat → Int) (n : Nat) : Race f n 0 1 0 := ⟨fun p h => by omega, fun p h h' => by omega, by omega, Nat.zero_le _, fun t h => by omega⟩
theorem out_run {f : Nat → Int} {n p q alike t : Nat} (h : alike < n) (e : ∀ t, t < alike → f (p + t) = f (q + t)) (l : f (q + alike) < f (p + alike)) (ht : t ≤ alike) : Out f n (p + t) := by
  refine ⟨q + t, alike - t, by omega, fun s hs => ?_, ?_⟩
  · have := e (t + s) (by omega)
    rw [Nat.add_assoc, Nat.add_assoc]
    exact this.symm
  · have e1 : q + t + (alike - t) = q + alike := by omega
    have e2 : p + t + (alike - t) = p + alike := by omega
    rw [e1, e2]
    exact l
theorem Race.one {f n one other alike} (R : Race f n one other alike) (h : alike < n) (l : f (other + alike) < f (one + alike)) :
    Race f n (one + (alike + 1)) (if one + (alike + 1) = other then other + 1 else other) 0 := by
  have A : ∀ p, p < one + (alike + 1) → Out f n p := by
    intro p hp
    by_cases h' : p < one
    · exact R.a p h'
    · obtain ⟨t, rfl⟩ : ∃ t, p = one + t := ⟨p - one, by omega⟩
      exact out_run h R.e l (by omega)
  refine ⟨A, fun p hp hn => ?_, ?_, Nat.zero_le _, fun t ht => by omega⟩
  · by_cases hp1 : p < one + (alike + 1)
    · exact A p hp1
    · split at hp
      · omega
      · by_cases hpo : p = one
        · omega
        · exact R.b p hp hpo
  · split <;> omega
theorem Race.other {f n one other alike} (R : Race f n one other alike) (h : alike < n) (l : f (one + alike) < f (other + alike)) :
    Race f n one (if one = other + (alike + 1) then other + (alike + 1) + 1 else other + (alike + 1)) 0 := by
  have B : ∀ p, p < other + (alike + 1) → p ≠ one → Out f n p := by
    intro p hp hn
    by_cases h' : p < other
    · exact R.b p h' hn
    · obtain ⟨t, rfl⟩ : ∃ t, p = other + t := ⟨p - other, by omega⟩
      exact out_run h (fun t ht => (R.e t ht).symm) l (by omega)
  refine ⟨R.a, fun p hp hn => ?_, ?_, Nat.zero_le _, fun t ht => by omega⟩
  · split at hp
    · exact B p (by omega) hn
    · exact B p hp hn
  · split <;> omega
end Lt
namespace Lt
/-! ### rows read round -/
def rot (xs : List Int) (p : Nat) : List Int := xs.drop p ++ xs.take p
def rd (xs : List Int) (s : Nat) : Int := xs.getD (s % xs.length) 0
theorem rot_length (xs : List Int) (p : Nat) : (rot xs p).length = xs.length := by
  unfold rot
  rw [List.length_append, List.length_drop, List.length_take]
  omega
theorem rot_getD {xs : List Int} {p t : Nat} (hp : p ≤ xs.length) (ht : t < xs.length) : (rot xs p).getD t 0 = rd xs (p + t) := by
  unfold rot rd
  rw [List.getD_eq_getElem?_getD, List.getD_eq_getElem?_getD]
  congr 1
  by_cases h : p + t < xs.length
  · rw [Nat.mod_eq_of_lt h, List.getElem?_append_left (by rw [List.length_drop]; omega), List.getElem?_drop]
  · have e : (p + t) % xs.length = p + t - xs.length := by
      rw [Nat.mod_eq_sub_mod (by omega)]
      by_cases h2 : p + t - xs.length < xs.length
      · exact Nat.mod_eq_of_lt h2
      · omega
    rw [e, List.getElem?_append_right (by rw [List.length_drop]; omega), List.length_drop, List.getElem?_take]
    have h3 : t - (xs.length - p) = p + t - xs.length := by omega
    rw [h3, if_pos (by omega)]
theorem ext_getD {a b : List Int} (hl : a.length = b.length) (h : ∀ t, t < a.length → a.getD t 0 = b.getD t 0) : a = b := by
  apply List.ext_getElem hl
  intro i h1 h2
  have := h i h1
  rw [List.getD_eq_getElem?_getD, List.getD_eq_getElem?_getD, List.getElem?_eq_getElem h1, List.getElem?_eq_getElem h2] at this
  exact this
theorem rot_eq_of {xs : List Int} {p q : Nat} (hp : p ≤ xs.length) (hq : q ≤ xs.length) (h : ∀ t, t < xs.length → rd xs (p + t) = rd xs (q + t)) : rot xs p = rot xs q := by
  refine ext_getD (by rw [rot_length, rot_length]) fun t ht => ?_
  rw [rot_length] at ht
  rw [rot_getD hp ht, rot_getD hq ht, h t ht]
theorem rd_rot {xs : List Int} {p : Nat} (hp : p ≤ xs.length) (h0 : 0 < xs.length) (s : Nat) : rd (rot xs p) s = rd xs (p + s) := by
  have h1 : rd (rot xs p) s = (rot xs p).getD (s % xs.length) 0 := by
    unfold rd
    rw [rot_length]
  rw [h1, rot_getD hp (Nat.mod_lt _ h0)]
  unfold rd
  rw [Nat.add_mod_mod]
theorem rot_rot {xs : List Int} {p q : Nat} (hp : p ≤ xs.length) (hq : q ≤ xs.length) (h0 : 0 < xs.length) : rot (rot xs p) q = rot xs ((p + q) % xs.length) := by
  refine ext_getD (by rw [rot_length, rot_length, rot_length]) fun t ht => ?_
  rw [rot_length, rot_length] at ht
  rw [rot_getD (by rw [rot_length]; exact hq) (by rw [rot_length]; exact ht), rd_rot hp h0, rot_getD (Nat.le_of_lt (Nat.mod_lt _ h0)) ht]
  unfold rd
  rw [Nat.mod_add_mod, Nat.add_assoc]
/-- ms is the least of the turned forms of ns -/
def Least (ns ms : List Int) : Prop := ∃ p, p < max 1 ns.length ∧ ms = rot ns p ∧ ∀ q, q < ns.length → ¬ Ls (rd ns) ns.length q p
theorem Least.ex (ns : List Int) : ∃ ms, Least ns ms := by
  by_cases h : 0 < ns.length
  · obtain ⟨p, hp, hm⟩ := ex_min (rd ns) ns.length ns.length h
    exact ⟨_, p, by omega, rfl, hm⟩
  · exact ⟨_, 0, by omega, rfl, fun q hq => by omega⟩
theorem Least.uniq {ns a b : List Int} (h1 : Least ns a) (h2 : Least ns b) : a = b := by
  obtain ⟨p, hp, rfl, m1⟩ := h1
  obtain ⟨q, hq, rfl, m2⟩ := h2
  by_cases h0 : 0 < ns.length
  · rcases Ls.total (rd ns) ns.length p q with h | h | h
    · exact absurd h (m2 p (by omega))
    · exact absurd h (m1 q (by omega))
    · exact rot_eq_of (by omega) (by omega) h
  · have : p = q := by omega
    rw [this]
theorem Ls.shift {xs : List Int} {j p q : Nat} (hj : j ≤ xs.length) (h0 : 0 < xs.length) : Ls (rd (rot xs j)) xs.length p q ↔ Ls (rd xs) xs.length (j + p) (j + q) := by
  constructor
  · rintro ⟨k, hk, e, l⟩
    refine ⟨k, hk, fun t ht => ?_, ?_⟩
    · have := e t ht
      rw [rd_rot hj h0, rd_rot hj h0] at this
      rw [Nat.add_assoc, Nat.add_assoc]
      exact this
    · rw [rd_rot hj h0, rd_rot hj h0] at l
      rw [Nat.add_assoc, Nat.add_assoc]
      exact l
  · rintro ⟨k, hk, e, l⟩
    refine ⟨k, hk, fun t ht => ?_, ?_⟩
    · rw [rd_rot hj h0, rd_rot hj h0, ← Nat.add_assoc, ← Nat.add_assoc]
      exact e t ht
    · rw [rd_rot hj h0, rd_rot hj h0, ← Nat.add_assoc, ← Nat.add_assoc]
      exact l
theorem Ls.modl {xs : List Int} {p q : Nat} : Ls (rd xs) xs.length (p % xs.length) (q % xs.length) ↔ Ls (rd xs) xs.length p q := by
  have e : ∀ s t, rd xs (s % xs.length + t) = rd xs (s + t) := fun s t => by
    unfold rd
    rw [Nat.mod_add_mod]
  constructor
  · rintro ⟨k, hk, h, l⟩
    exact ⟨k, hk, fun t ht => by rw [← e p, ← e q]; exact h t ht, by rw [← e p, ← e q]; exact l⟩
  · rintro ⟨k, hk, h, l⟩
    exact ⟨k, hk, fun t ht => by rw [e p, e q]; exact h t ht, by rw [e p, e q]; exact l⟩
theorem Least.turn {ns ms : List Int} {j : Nat} (hj : j ≤ ns.length) (h : Least (rot ns j) ms) : Least ns ms := by
  obtain ⟨p, hp, rfl, m⟩ := h
  rw [rot_length] at hp m
  by_cases h0 : 0 < ns.length
  · refine ⟨(j + p) % ns.length, by have := Nat.mod_lt (j + p) h0; omega, rot_rot hj (by omega) h0, fun q hq hl => ?_⟩
    refine m ((q + (ns.length - j)) % ns.length) (Nat.mod_lt _ h0) ?_
    rw [Ls.shift hj h0]
    have e1 : (j + (q + (ns.length - j)) % ns.length) % ns.length = q % ns.length := by
      rw [Nat.add_mod_mod]
      have : j + (q + (ns.length - j)) = q + ns.length := by omega
      rw [this, Nat.add_mod_right]
    rw [← Ls.modl, e1, Ls.modl, ← Ls.modl]
    have := Ls.modl.mpr hl
    rw [Nat.mod_mod] at this
    exact this
  · have : ns = [] := List.length_eq_zero_iff.mp (by omega)
    subst this
    refine ⟨0, by decide, ?_, fun q hq => absurd hq (by simp)⟩
    unfold rot
    simp
theorem Least.turn' {ns ms : List Int} {j : Nat} (hj : j ≤ ns.length) (h : Least ns ms) : Least (rot ns j) ms := by
  obtain ⟨ms', h'⟩ := Least.ex (rot ns j)
  have := h.uniq (h'.turn hj)
  rw [this]
  exact h'
theorem Least.self {ns ms : List Int} (h : Least ns ms) : Least ms ms := by
  obtain ⟨p, hp, e, m⟩ := id h
  by_cases h0 : 0 < ns.length
  · have := h.turn' (j := p) (by omega)
    rw [← e] at this
    exact this
  · have : ns = [] := List.length_eq_zero_iff.mp (by omega)
    subst this
    have : ms = [] := by rw [e]; unfold rot; simp
    rw [this] at h ⊢
    exact h
theorem Least.length {ns ms : List Int} (h : Least ns ms) : ms.length = ns.length := by
  obtain ⟨p, _, e, _⟩ := h
  rw [e, rot_length]
/-! ### the order of rows of one length -/
end Lt
set_option Elab.async false
set_option linter.all false
set_option maxRecDepth 100000
set_option maxHeartbeats 1000000
namespace W33
open PySem L2 PySem.Spec PyProof.Rows WR WB
structure MethW (P : Program) (w : World) (K : PySem.W.Frag) (mg : Str → Option Value) (base : Heap) (C : Addr) (m : Str) (ps : List Str) (sp : Sp) : Prop where
  ex : ∃ (f : Addr) (fd : FuncData), Meth K C m f ∧ FnOk P w K mg base CX0 6 f fd ps sp ∧ Binds K fd ps []
section
variable {X : Cx} {C : Addr} {o e : Expr} {es : List Expr} {ta : TE} {t : TA} {m : Str} {ps : List Str} {sp : Sp} {apos pos : Pos} {j : Nat}
theorem pe_w0 {pl : Sem Bool} (M : MethW X.prog X.w X.K X.mg X.base C m ps sp) (c : Cls X.K C) (hr : Room j X.A) (hj : 6 ≤ j) (he : PE X o ta)
    (ht : eval (.Call (.Attribute o m apos) [] [] pos) X.env = (do
      let ov ← eval o X.env
      standAt apos.atName
      let (f, first) ← holding [ov] (getMethod ov m pl)
      callWith pos f first (backTo pos (starEach [] X.env)) (backToKw pos (keywordEach [] X.env))) := by rfl) :
    PE X (.Call (.Attribute o m apos) [] [] pos) (tMeth C m sp [] E0 ta tNil) := by
  obtain ⟨f, fd, hm, F, hb⟩ := M.ex
  exact pe_meth0 he c hm F (hr.mono hj) hb .nil pass0 ht
end
theorem WordAt.at {K : PySem.W.Frag} {C : Addr} {H : Hp} {p : Addr} {ns : List Int} (h : WordAt K C H p ns) {m : Str} (h1 : ¬ m = "letters") (h2 : ¬ m = "length") (h3 : ¬ m = "kinds") (h4 : ¬ m = "is_short") (h5 : ¬ m = "is_short_round") :
    ∃ dx fs, H p = some (.ins C dx fs) ∧ fs.lookup m = none := by
  obtain ⟨dx, tl, tk, ks, h, _⟩ := h
  exact ⟨dx, _, h, wf_no h1 h2 h3 h4 h5⟩
theorem nm1 : ¬ (("contrary" : Str) = "letters") ∧ ¬ (("contrary" : Str) = "length") ∧ ¬ (("contrary" : Str) = "kinds") ∧ ¬ (("contrary" : Str) = "is_short") ∧ ¬ (("contrary" : Str) = "is_short_round") := by decide +kernel
theorem WordAt.no {K : PySem.W.Frag} {C : Addr} {H : Hp} {p : Addr} {ns : List Int} (h : WordAt K C H p ns) {m : Str} (n : ¬ m = "letters" ∧ ¬ m = "length" ∧ ¬ m = "kinds" ∧ ¬ m = "is_short" ∧ ¬ m = "is_short_round") :
    ∃ dx fs, H p = some (.ins C dx fs) ∧ fs.lookup m = none := h.at n.1 n.2.1 n.2.2.1 n.2.2.2.1 n.2.2.2.2
theorem WordAt.drew {K : PySem.W.Frag} {C : Addr} {H H' : Hp} {p a c : Addr} {n : Nat} {ns : List Int} (h : WordAt K C H p ns) (hH : HandAt H a c n) {m : Nat} (d : Drew a c m H H') : WordAt K C H' p ns := by
  have keep : ∀ {q : Addr} {xs : List V}, SqT K H q xs → SqT K H' q xs := by
    intro q xs h
    obtain ⟨cs, i, r, hA, _⟩ := hH
    rcases h with h | h
    · left
      rcases h with h | ⟨o, h⟩
      · exact .inl (d.2 _ _ (fun z => by rw [z, hA] at h; cases h) h)
      · exact .inr ⟨o, d.2 _ _ (fun z => by rw [z, hA] at h; cases h) h⟩
    · exact .inr h
  obtain ⟨dx, tl, tk, ks, h1, h2, h3, h4⟩ := h
  have keepB : SqB K H' tl (iv ns) := by
    refine ⟨keep h2.sq, ?_⟩
    obtain ⟨cs, i, r, hA, _⟩ := hH
    obtain ⟨o, u, e, dn⟩ := h2.bare
    exact ⟨o, u, d.2 _ _ (fun z => by rw [z, hA] at e; cases e) e, dn⟩
  refine ⟨dx, tl, tk, ks, d.2 _ _ (fun z => ?_) h1, keepB, keep h3, h4⟩
  obtain ⟨cs, i, r, hA, _⟩ := hH
  rw [z, hA] at h1
  cases h1
theorem make_at {K : PySem.W.Frag} {C : Addr} {H1 : Hp} {q x dx : Addr} {ms : List Int} {G : Hp → Prop} {E : XK} (nx : H1 x = none) (ndx : H1 dx = none) (hq : SqW K H1 q (iv ms)) (hlen : ms.length ≤ 500) (hl : Lts ms) (k : ∀ H', Same H1 H' → WordAt K C H' x ms → G H') :
    spInit K C [.ref x, .ref q] (L2.upd (L2.upd H1 dx (.own x)) x (.ins C dx [])) (fun v H2 => v = .non ∧ G H2) E := by
  have s0 : Same H1 (L2.upd (L2.upd H1 dx (.own x)) x (.ins C dx [])) := fun b o e => by
    rw [upd_ne (ne_of_none e nx), upd_ne (ne_of_none e ndx)]
    exact e
  exact ⟨H1, x, dx, q, ms, rfl, s0, nx, upd_same, hq, hlen, hl, fun H' s' W' => ⟨rfl, k H' s' W'⟩⟩
theorem no_ne {b : Bool} {A B : Prop} (h : b = true) (k : B) : if (!b) = true then A else B := by rw [h]; exact iteF k
inductive All2 {α β : Type} (R : α → β → Prop) : List α → List β → Prop
  | nil : All2 R [] []
  | cons {a : α} {b : β} {as : List α} {bs : List β} (h : R a b) (r : All2 R as bs) : All2 R (a :: as) (b :: bs)
theorem All2.length {α β : Type} {R : α → β → Prop} {as : List α} {bs : List β} (h : All2 R as bs) : as.length = bs.length := by
  induction h with
  | nil => rfl
  | cons _ _ ih => simp [ih]
theorem All2.imp {α β : Type} {R S : α → β → Prop} {as : List α} {bs : List β} (h : All2 R as bs) (k : ∀ a b, R a b → S a b) : All2 S as bs := by
  induction h with
  | nil => exact .nil
  | cons h _ ih => exact .cons (k _ _ h) ih
theorem All2.at {α β : Type} {R : α → β → Prop} {as : List α} {bs : List β} (h : All2 R as bs) : ∀ {i : Nat} {a : α}, as[i]? = some a → ∃ b, bs[i]? = some b ∧ R a b := by
  induction h with
  | nil => intro i a e; simp at e
  | cons h r ih =>
    intro i a e
    cases i with
    | zero => simp at e; subst e; exact ⟨_, by simp, h⟩
    | succ i => simpa using ih (by simpa using e)
theorem All2.mem {α β : Type} {R : α → β → Prop} {as : List α} {bs : List β} (h : All2 R as bs) {a : α} (ha : a ∈ as) : ∃ b, b ∈ bs ∧ R a b := by
  obtain ⟨i, e⟩ := List.mem_iff_getElem?.mp ha
  obtain ⟨b, e2, r⟩ := h.at e
  exact ⟨b, List.mem_of_getElem? e2, r⟩
theorem All2.app {α β : Type} {R : α → β → Prop} {as : List α} {bs : List β} (h : All2 R as bs) {cs : List α} {ds : List β} (k : All2 R cs ds) : All2 R (as ++ cs) (bs ++ ds) := by
  induction h with
  | nil => exact k
  | cons h _ ih => exact .cons h ih
theorem lcM {β : Type} {J : It} {xs : List V} {G : Hp → Prop} (w : Walk J xs.length G (YAt xs)) (ys : List β) (R : Addr → Hp → V → β → Prop) (hst : ∀ D H H' v b, R D H v b → Same H H' → R D H' v b) (hput : ∀ D H ws o v b, H D = some (.lst ws) → R D H v b → R D (L2.upd H D o) v b)
    (hz : xs.length < 40000) (hl : xs.length = ys.length) {g : TG} {te : TE} {vs : List Nat} {σ : L2.St} {H1 : Hp} {Q : VK} (hG : ∀ H, Same H1 H → G H)
    (hs : ∀ (i : Nat) (x : V) (b : β), xs[i]? = some x → ys[i]? = some b → ∀ D H, H1 D = none → (∃ ws, H D = some (.lst ws)) → Same H1 H → ∀ (Qy : V → Hp → Prop), (∀ v H', Same H H' → R D H' v b → Qy v H') →
      g x (wipe σ vs) H fun σ2 H2 => wipe σ2 vs = wipe σ vs ∧ te σ2 H2 Qy)
    (hg : ∀ x σ1 H A B, (∀ σ2 H2, A σ2 H2 → B σ2 H2) → g x σ1 H A → g x σ1 H B)
    (hd : ∀ (D : Addr) H' ws, H1 D = none → Same H1 H' → H' D = some (.lst ws) → All2 (R D H') ws ys → Q (.ref D) H') : tLc (fun _ H R => R J H) g tYes te vs σ H1 Q := by
  intro D hD
  refine lc_it w (fun i H => Same H1 H ∧ ∃ ws, H D = some (.lst ws) ∧ All2 (R D H) ws (ys.take i)) ⟨fun b o e => by rw [upd_ne (ne_of_none e hD)]; exact e, [], upd_same, by simp only [List.take_zero]; exact .nil⟩ (fun i H _ q => hG H q.1) ?_ ?_
  · rintro i x H H' hi ⟨sm, ws, hw, h2⟩ ⟨rfl, hx⟩
    have hi2 : i < ys.length := by omega
    refine hg _ _ _ _ _ (fun σ2 H2 q => ⟨q.1, yes_te q.2⟩) (hs i x ys[i] hx (List.getElem?_eq_getElem hi2) D H' hD ⟨ws, hw⟩ sm _ fun v H2 s2 r => ?_)
    have hw2 := s2 _ _ hw
    have hlen := h2.length
    rw [List.length_take] at hlen
    refine ⟨ws, hw2, Evl.sz_lt (by omega), fun b o e => ?_, ws ++ [v], upd_same, ?_⟩
    · rw [upd_ne (ne_of_none e hD)]
      exact s2 _ _ (sm _ _ e)
    · rw [List.take_succ_eq_append_getElem hi2]
      exact (h2.imp fun v b r => hput D H2 ws _ v b hw2 (hst D _ _ v b r s2)).app (.cons (hput D H2 ws _ v _ hw2 r) .nil)
  · rintro H ⟨sm, ws, hw, h2⟩
    rw [List.take_of_length_le (by omega)] at h2
    exact hd D H ws hD sm hw h2
theorem gName_mono {i : Nat} {x : V} {σ : L2.St} {H : Hp} {A B : L2.St → Hp → Prop} (k : ∀ σ2 H2, A σ2 H2 → B σ2 H2) (h : gName i x σ H A) : gName i x σ H B := k _ _ h
theorem gTup_mono {K : PySem.W.Frag} {i j : Nat} {x : V} {σ : L2.St} {H : Hp} {A B : L2.St → Hp → Prop} (k : ∀ σ2 H2, A σ2 H2 → B σ2 H2) (h : gTup K 2 (gCons (gName i) (gCons (gName j) gNil)) x σ H A) : gTup K 2 (gCons (gName i) (gCons (gName j) gNil)) x σ H B := by
  obtain ⟨a, xs, e1, e2, e3, v, r, e4, v2, r2, e5, e6, h⟩ := h
  exact ⟨a, xs, e1, e2, e3, v, r, e4, v2, r2, e5, e6, k _ _ h⟩
theorem SqT.keptL {K : PySem.W.Frag} {H H' : Hp} {l q : Addr} {vs xs : List V} (hl : H l = some (.lst vs)) (d : Kept l H H') (h : SqT K H q xs) : SqT K H' q xs := by
  rcases h with h | h
  · left
    rcases h with h | ⟨o, h⟩
    · exact .inl (d _ _ (fun z => by rw [z, hl] at h; cases h) h)
    · exact .inr ⟨o, d _ _ (fun z => by rw [z, hl] at h; cases h) h⟩
  · exact .inr h
section
variable {X : Cx} {K : PySem.W.Frag} {T : String} {name : Str} {id : String} {r : V → List V → Hp → VK → Prop} {o e : Expr} {es : List Expr} {to : TE} {t : TA} {apos cpos : Pos}
theorem pe_bmK (hK : X.K = K) (pa : PlainAttrs T) (slot : PySem.Slot T name id) (hty : typeOf (.builtin id) = pure (.type "method_descriptor")) (hm : MtR X id r) (ho : PE X o to) (ha : PA X (e :: es) t)
    (hbase : attributeBase o name X.env (eval o X.env) = eval o X.env := by rfl)
    (hfew : ((backTo cpos (starEach (e :: es) X.env)).all (fun x => !x.1) && (backToKw cpos (keywordEach [] X.env)).all (fun x => x.1.isSome)
      && decide ((e :: es).length + ([] : List Keyword).length + (if ([] : List Keyword).isEmpty then 0 else 1) < 30)) = true := by rfl)
    (hline : (apos.endLine == cpos.line) = true := by rfl) (hs : starEach (e :: es) X.env = (false, eval e X.env) :: starEach es X.env := by rfl) (hplain : (backTo cpos (starEach es X.env)).any (·.1) = false := by rfl) :
    PE X (.Call (.Attribute o name apos) (e :: es) [] cpos) (tBM K T r to t) := by
  subst hK
  exact pe_bm pa slot hty hm ho ha hbase hfew hline hs hplain
end
theorem as_lc {wi : TI} {g : TG} {tt : TT} {te : TE} {gg : TG} {vs : List Nat} {D : Ends} {σ : L2.St} {H : Hp}
    (h : wi σ H fun J H1 => tLc (fun _ H R => R J H) g tt te vs σ H1 fun z H4 => gg z σ H4 D.nx) : tAsg (tLc wi g tt te vs) gg D σ H := h
theorem at_set {σ : L2.St} {H : Hp} {v : V} {i : Nat} {f : L2.St → Hp → Prop} (h : f (σ.set i (some v)) H) : gName i v σ H f := h
theorem ixl {X : Cx} {K : PySem.W.Frag} (h : X.K = K) : IxR X (rIxL K) := h ▸ ix_list
theorem call_listK {X : Cx} {K : PySem.W.Frag} (h : X.K = K) : CallR X (.type "list") (fun xs H Q => ∃ p ys, xs = [.ref p] ∧ (SqL K H p ys ∨ SqT K H p ys) ∧ ∀ l, H l = none → Q (.ref l) (L2.upd H l (.lst ys))) := by
  subst h
  exact call_list_of
theorem cb_lc {r : List V → Hp → VK → Prop} {wi : TI} {g : TG} {tt : TT} {te : TE} {vs : List Nat} {σ : L2.St} {H : Hp} {Q : VK}
    (h : wi σ H fun J H1 => tLc (fun _ H R => R J H) g tt te vs σ H1 fun y H2 => r [y] H2 Q) : tCB r (tCons (tLc wi g tt te vs) tNil) σ H Q := h
/-! ### the methods that the law calls besides -/
end W33
set_option Elab.async false
set_option linter.all false
/-! Words put for letters, kinds renamed, what a row holds more of a letter than of its contrary. -/
namespace Fr
def sub (f : Int → List Int) (xs : List Int) : List Int := (xs.map f).flatten
/-! ### one kind's letters -/
/-! ### kinds renamed -/
/-! ### balance -/
def cnt (xs : List Int) (k : Int) : Int := (xs.count k : Int) - (xs.count (-k) : Int)
/-- each kind that stands more often forward than backward, or less -/
def bal (xs : List Int) : List (Int × Int) := ((List.range 26).map fun (i : Nat) => ((i : Int) + 1, cnt xs ((i : Int) + 1))).filter fun p => decide (p.2 ≠ 0)
end Fr
set_option Elab.async false
set_option linter.all false
set_option maxRecDepth 100000
set_option maxHeartbeats 1000000
namespace W33
open PySem L2 PySem.Spec PyProof.Rows WR WB
theorem sorted_ext : ∀ (l1 l2 : List Int), l1.Pairwise (· < ·) → l2.Pairwise (· < ·) → (∀ x, x ∈ l1 ↔ x ∈ l2) → l1 = l2
  | [], [], _, _, _ => rfl
  | [], b :: t, _, _, h => absurd ((h b).mpr List.mem_cons_self) (fun q => nomatch q)
  | a :: s, [], _, _, h => absurd ((h a).mp List.mem_cons_self) (fun q => nomatch q)
  | a :: s, b :: t, h1, h2, h => by
    rw [List.pairwise_cons] at h1 h2
    have e : a = b := by
      rcases List.mem_cons.mp ((h a).mp List.mem_cons_self) with e | m
      · exact e
      · rcases List.mem_cons.mp ((h b).mpr List.mem_cons_self) with e | m2
        · exact e.symm
        · have := h2.1 a m
          have := h1.1 b m2
          omega
    subst e
    rw [sorted_ext s t h1.2 h2.2 fun x => ⟨fun hx => ?_, fun hx => ?_⟩]
    · rcases List.mem_cons.mp ((h x).mp (List.mem_cons_of_mem _ hx)) with e | m
      · have := h1.1 x hx
        omega
      · exact m
    · rcases List.mem_cons.mp ((h x).mpr (List.mem_cons_of_mem _ hx)) with e | m
      · have := h2.1 x hx
        omega
      · exact m
theorem cnt_zero {ns : List Int} {k : Int} (h : ¬ ∃ x ∈ ns, k = (x.natAbs : Int)) (hk : 0 < k) : Fr.cnt ns k = 0 := by
  have h1 : ns.count k = 0 := List.count_eq_zero.mpr fun q => h ⟨k, q, by omega⟩
  have h2 : ns.count (-k) = 0 := List.count_eq_zero.mpr fun q => h ⟨-k, q, by omega⟩
  unfold Fr.cnt
  rw [h1, h2]
  rfl
theorem bal_kinds {ns ks : List Int} (h : Lts ns) (hk : kindsOk ns ks) : (ks.map fun k => (k, Fr.cnt ns k)).filter (fun p => decide (p.2 ≠ 0)) = Fr.bal ns := by
  have e : Fr.bal ns = (((List.range 26).map fun (i : Nat) => (i : Int) + 1).map fun k => (k, Fr.cnt ns k)).filter (fun p => decide (p.2 ≠ 0)) := by
    unfold Fr.bal
    rw [List.map_map]
    rfl
  rw [e, List.filter_map, List.filter_map]
  congr 1
  refine sorted_ext _ _ (hk.1.filter _) (List.Pairwise.filter _ ?_) fun x => ?_
  · rw [List.pairwise_map]
    exact List.pairwise_lt_range.imp fun h => by omega
  · rw [List.mem_filter, List.mem_filter]
    refine and_congr_left fun hc => ?_
    have hc : Fr.cnt ns x ≠ 0 := of_decide_eq_true hc
    rw [hk.2 x, List.mem_map]
    constructor
    · rintro ⟨y, hy, rfl⟩
      obtain ⟨y1, y2⟩ := h y hy
      exact ⟨y.natAbs - 1, List.mem_range.mpr (by omega), by omega⟩
    · rintro ⟨i, hi, rfl⟩
      exact Decidable.byContradiction fun q => hc (cnt_zero q (by omega))
abbrev sBalOf : Stmt := top 29
theorem mt_lcountK {X : Cx} {K : PySem.W.Frag} (h : X.K = K) : MtR X "list.count" (rCntI K) := by
  subst h
  exact mt_lcount
/-- a tuple of two ints -/
def PrT (K : PySem.W.Frag) (H : Hp) (v : V) (p : Int × Int) : Prop := ∃ q : Addr, v = .ref q ∧ SqT K H q [.int p.1, .int p.2]
theorem PrT.same {K : PySem.W.Frag} {H H' : Hp} {v : V} {p : Int × Int} (h : PrT K H v p) (s : Same H H') : PrT K H' v p := by
  obtain ⟨q, e, h⟩ := h
  exact ⟨q, e, WR.Same.seqT s h⟩
theorem PrT.put {K : PySem.W.Frag} {D : Addr} {H : Hp} {ws : List V} {o : HO} {v : V} {p : Int × Int} (hD : H D = some (.lst ws)) (h : PrT K H v p) : PrT K (L2.upd H D o) v p := by
  obtain ⟨q, e, h⟩ := h
  exact ⟨q, e, SqT.keptL hD Kept.upd h⟩
def BalAt (K : PySem.W.Frag) (H : Hp) (a : Addr) (ps : List (Int × Int)) : Prop := ∃ vs, SqT K H a vs ∧ All2 (PrT K H) vs ps
theorem BalAt.same {K : PySem.W.Frag} {H H' : Hp} {a : Addr} {ps : List (Int × Int)} (h : BalAt K H a ps) (s : Same H H') : BalAt K H' a ps := by
  obtain ⟨vs, h1, h2⟩ := h
  exact ⟨vs, WR.Same.seqT s h1, h2.imp fun _ _ r => r.same s⟩
def spBalOf (K : PySem.W.Frag) : Sp := fun vs H Q _ => ∃ (a : Addr) (ns : List Int), vs = [.ref a] ∧ SqL K H a (iv ns) ∧ ns.length ≤ 1000 ∧ Lts ns ∧ ∀ p H', Same H H' → BalAt K H' p (Fr.bal ns) → Q (.ref p) H'
abbrev nBalOf : List Str := ["letters", "pairs", "kind", "more"]
theorem kinds_len {ns ks : List Int} (h : Lts ns) (hk : kindsOk ns ks) : ks.length ≤ 26 := by
  refine pigeon 26 ks ?_ fun k hk' => ?_
  · exact hk.1.imp fun h => by omega
  · obtain ⟨x, hx, rfl⟩ := (hk.2 k).mp hk'
    obtain ⟨y1, y2⟩ := h x hx
    omega
section
variable {P : Program} {w : World} {K : PySem.W.Frag} {mg : Str → Option Value} {base : Heap}
theorem scBalOf : FnScope nBalOf ["letters"] (defScope sBalOf) := ⟨rfl, rfl, rfl, by decide +kernel, rfl, by decide +kernel, by decide +kernel⟩
theorem ok_balOf {f : Addr} {fd : FuncData} (F : Fun K "balance_of" "balance_of" sBalOf f fd) (T : TxA mg) (GK : Cal P w K mg base "kinds_of" 1 ["letters"] (spKinds K)) : FnOk P w K mg base CX0 2 f fd ["letters"] (spBalOf K) := by
  refine F.ok scBalOf (fun vs H Q E h => ?_) (fun cdv A outer s H vs Q E hr h => ?_)
  · obtain ⟨a, ns, rfl, _⟩ := h
    rfl
  · obtain ⟨a, ns, rfl, hA, hlen, hl, k⟩ := h
    refine ⟨_, pss_cons (ps_setLc (i := 1) (own := [("kind", 2)]) (g := gName 2) (tt := tYes) rfl scBalOf.nd rfl rfl (sw_true rfl rfl rfl (by decide +kernel)) (pi_tup (pe_cal GK hr (by decide) (by rfl) (pa_cons (pv 0) pa_nil)))
        (blkOk_by (N := nBalOf) (sc := defScope sBalOf) (by decide +kernel)) (fun _ _ _ _ _ => pg_name (i := 2) scBalOf.nd rfl (Or.inl rfl)) (fun _ _ _ _ _ => pts_nil)
        (fun _ _ _ _ _ => pe_tup (pa_cons (pv 2) (pa_cons (pe_op op_sub (pe_bmK (K := K) rfl PySem.F.plainAttrs_list PySem.F.slot_list_count PySem.F.type_list_count (mt_lcountK (K := K) rfl) (pv 0) (pa_cons (pv 2) pa_nil)) (pe_bmK (K := K) rfl PySem.F.plainAttrs_list PySem.F.slot_list_count PySem.F.type_list_count (mt_lcountK (K := K) rfl) (pv 0) (pa_cons (pe_un un_neg (pv 2)) pa_nil))) pa_nil))))
      (pss_one (ps_ret (pe_callTy call_tuple_of (by rfl) T.tuple (by decide +kernel) (pa_cons (pe_lc (own := [("kind", 2), ("more", 3)]) (g := gTup K 2 (gCons (gName 2) (gCons (gName 3) gNil))) rfl scBalOf.nd (pi_list (pv 1))
        (blkOk_by (N := nBalOf) (sc := defScope sBalOf) (by decide +kernel)) (fun _ _ _ _ _ => pg_tup (n := 2) rfl (pgs_cons (pg_name (i := 2) scBalOf.nd rfl (Or.inl rfl)) (pgs_cons (pg_name (i := 3) scBalOf.nd rfl (Or.inl rfl)) pgs_nil)))
        (fun _ _ _ _ _ => pts_one (pt_cmpR op_ne (pv 3) pe_int (nomark _))) (fun _ _ _ _ _ => pe_tup (pa_cons (pv 2) (pa_cons (pv 3) pa_nil)))) pa_nil)))), ?_⟩
    refine as_lc ?_
    refine ⟨_, rfl, a, ns, rfl, .inl hA, hlen, hl, fun ks hk kp H1 s1 hkp => ?_⟩
    have hkl := kinds_len hl hk
    have hA1 := s1.seq hA
    refine ⟨kp, rfl, ⟨_, hkp⟩, ?_⟩
    refine lcM (walk_tup (K := K) (a := kp) (xs := iv ks)) (ks.map fun k => (k, Fr.cnt ns k)) (fun D H v p => PrT K H v p) (fun _ _ _ _ _ h s => h.same s) (fun _ _ _ _ _ _ hD h => h.put hD) (by rw [List.length_map]; omega) (by rw [List.length_map, List.length_map]) (fun H2 s2 => WR.Same.seqT s2 hkp) ?_ (fun x σ1 H A B k h => gName_mono k h) ?_
    · intro i x b hx hb D H2 hD ⟨us, hus⟩ s2 Qy ky
      obtain ⟨z, hz, rfl⟩ : ∃ z, ks[i]? = some z ∧ x = V.int z := by
        rw [List.getElem?_map] at hx
        cases e : ks[i]? with
        | none => rw [e] at hx; cases hx
        | some z => rw [e] at hx; exact ⟨z, rfl, (Option.some.inj hx).symm⟩
      rw [List.getElem?_map, hz] at hb
      obtain rfl := Option.some.inj hb
      have hA2 := s2.seq hA1
      have hne : iv ns ≠ [] := fun e => by
        obtain ⟨y, hy, _⟩ := (hk.2 z).mp (List.mem_of_getElem? hz)
        have : ns = [] := List.map_eq_nil_iff.mp e
        rw [this] at hy
        cases hy
      refine ⟨rfl, ?_⟩
      refine ⟨_, rfl, _, rfl, .inl ⟨rfl, _, hA2⟩, _, rfl, a, ns, z, rfl, rfl, hA2, _, rfl, .inl ⟨rfl, _, hA2⟩, _, rfl, _, rfl, a, ns, -z, rfl, rfl, hA2, ?_⟩
      refine ⟨_, _, rfl, rfl, by show 2 ≤ sizeLine; decide, fun q hq => ?_⟩
      exact ky (.ref q) _ (same_upd hq) ⟨q, rfl, SqT.of upd_same⟩
    intro D H2 ws hD s2 h2 r2
    have l2 := r2.length
    rw [List.length_map] at l2
    refine at_set ?_
    try dsimp only
    refine ⟨_, rfl, D, rfl, ⟨_, SqL.of h2⟩, fun D2 hD2 => ?_⟩
    refine lc_it (walk_list (K := K) (a := D) (xs := ws)) (fun j H' => Same H2 H' ∧ ∃ us, H' D2 = some (.lst us) ∧ us.length ≤ j ∧ All2 (PrT K H') us (((ks.map fun k => (k, Fr.cnt ns k)).take j).filter fun p => decide (p.2 ≠ 0)))
      ⟨same_upd hD2, [], upd_same, Nat.le_refl _, by rw [List.take_zero]; exact .nil⟩ (fun j H' _ q => SqL.of (q.1 _ _ h2)) ?_ ?_
    · rintro j x H3 _ hj ⟨sm, us, hus, lu, hu⟩ ⟨rfl, hx⟩
      obtain ⟨b, hb, q, rfl, hq⟩ := r2.at hx
      have hjk : j < (ks.map fun k => (k, Fr.cnt ns k)).length := (List.getElem?_eq_some_iff.mp hb).1
      have eb : (ks.map fun k => (k, Fr.cnt ns k))[j] = b := (List.getElem?_eq_some_iff.mp hb).2
      refine ⟨q, _, rfl, WR.Same.seqT sm hq, rfl, _, _, rfl, _, _, rfl, rfl, ?_⟩
      refine ⟨rfl, ?_⟩
      refine ⟨_, rfl, rfl, _, rfl, ?_⟩
      rw [List.take_succ_eq_append_getElem hjk, eb, List.filter_append]
      refine ite2 (fun hn => ?_) (fun hn => ?_)
      · refine ⟨_, rfl, _, rfl, by show 2 ≤ sizeLine; decide, fun t ht => ?_⟩
        have st := same_upd (o := .tup [.int b.1, .int b.2]) ht
        have hbn : b.2 ≠ 0 := fun z => by
          rw [z] at hn
          exact absurd hn (by decide)
        have hus2 := st _ _ hus
        refine ⟨us, hus2, Evl.sz_lt (by rw [List.length_map] at hjk; omega), fun b' o e => ?_, us ++ [.ref t], upd_same, by rw [List.length_append]; show _ + 1 ≤ _; omega, ?_⟩
        · rw [upd_ne (ne_of_none e hD2)]
          exact st _ _ (sm _ _ e)
        · refine All2.app (hu.imp fun _ _ r => (r.same st).put hus2) ?_
          have : ([b].filter fun p => decide (p.2 ≠ 0)) = [b] := by simp [hbn]
          rw [this]
          exact .cons (PrT.put hus2 ⟨t, rfl, SqT.of upd_same⟩) .nil
      · refine ⟨sm, us, hus, by omega, ?_⟩
        have hbz : b.2 = 0 := Decidable.byContradiction fun z => hn (by
          have : ¬ (V.int b.2 = V.int 0) := fun q => z (by injection q)
          simp [this])
        have : ([b].filter fun p => decide (p.2 ≠ 0)) = [] := by simp [hbz]
        rw [this, List.append_nil]
        exact hu
    · rintro H3 ⟨sm, us, hus, lu, hu⟩
      rw [l2] at hu
      rw [List.take_of_length_le (by rw [List.length_map]; exact Nat.le_refl _), bal_kinds hl hk] at hu
      refine ⟨D2, _, rfl, .inl ⟨SqL.of hus, fun p hp => ?_⟩⟩
      have sp := same_upd (o := .tup us) hp
      exact k p _ (((s1.trans s2).trans sm).trans sp) ⟨us, SqT.of upd_same, hu.imp fun _ _ r => r.same sp⟩
end
end W33
set_option Elab.async false
set_option linter.all false
set_option maxRecDepth 100000
set_option maxHeartbeats 1000000
namespace W33
open PySem L2 PySem.Spec PyProof.Rows WR WB
/-! ### a comprehension of two walks in which nothing else changes -/
theorem lc2_in {J1 : It} {ys : List V} {G1 : Hp → Prop} (w1 : Walk J1 ys.length G1 (YAt ys)) {g1 : TG} {tt1 : TT} {te : TE} {vs1 : List Nat} {σ2 : L2.St} {H1 H4 : Hp} {D : Addr} {acc : List V} {Nx : Hp → Prop} (v : V → V) (hD : H1 D = none) (s4 : Same H1 H4) (a4 : H4 D = some (.lst acc)) (hz : acc.length + ys.length < 40000) (hG : ∀ H, Same H1 H → G1 H)
    (hs : ∀ y ∈ ys, ∀ H, Same H1 H → ∀ Qy : V → Hp → Prop, (∀ H', Same H H' → Qy (v y) H') → ∀ Qn : Hp → Prop, g1 y (wipe σ2 vs1) H fun σ3 H5 => wipe σ3 vs1 = wipe σ2 vs1 ∧ tt1 σ3 H5 fun b H6 => if b = true then te σ3 H6 Qy else Qn H6)
    (hd : ∀ H, Same H1 H → H D = some (.lst (acc ++ ys.map v)) → Nx H) :
    ∃ W1 : Nat → Nat → Hp → Prop, (∃ m, W1 0 m H4) ∧ ∀ j k H, W1 j k H →
      (J1.stop j H ∧ Nx H) ∨ (J1.go j H ∧ ∃ Nx1 : Hp → Prop, (∀ H', Nx1 H' → ∃ k', k' < k ∧ W1 (j + 1) k' H') ∧ ∀ x H', J1.yld j H x H' → g1 x (wipe σ2 vs1) H' fun σ3 H5 => wipe σ3 vs1 = wipe σ2 vs1 ∧ tt1 σ3 H5 fun b H6 =>
        if b = true then te σ3 H6 fun y H7 => ∃ acc, H7 D = some (.lst acc) ∧ acc.length < sizeLine ∧ Nx1 (L2.upd H7 D (.lst (acc ++ [y]))) else Nx1 H6) := by
  refine ⟨fun j k H => k = ys.length - j ∧ j ≤ ys.length ∧ Same H1 H ∧ H D = some (.lst (acc ++ (ys.take j).map v)), ⟨_, rfl, Nat.zero_le _, s4, by rw [List.take_zero]; simpa using a4⟩, ?_⟩
  rintro j k H ⟨rfl, hj, sm, hDD⟩
  by_cases hlt : j < ys.length
  · right
    refine ⟨w1.goes j H hlt (hG H sm), fun H' => Same H1 H' ∧ H' D = some (.lst (acc ++ (ys.take (j + 1)).map v)), fun H' q => ⟨ys.length - (j + 1), by omega, rfl, hlt, q.1, q.2⟩, fun x H' hy => ?_⟩
    obtain ⟨rfl, hx⟩ := w1.yields j H x H' hlt (hG H sm) hy
    have ex : ys[j] = x := (List.getElem?_eq_some_iff.mp hx).2
    refine hs x (List.mem_of_getElem? hx) H' sm _ (fun H2 s2 => ⟨_, s2 _ _ hDD, ?_, ?_, ?_⟩) _
    · refine Evl.sz_lt ?_
      rw [List.length_append, List.length_map, List.length_take]
      omega
    · intro b o e
      rw [upd_ne (ne_of_none e hD)]
      exact s2 _ _ (sm _ _ e)
    · rw [upd_same, List.take_succ_eq_append_getElem hlt, ex, List.map_append, ← List.append_assoc]
      rfl
  · left
    have e : j = ys.length := by omega
    subst e
    rw [List.take_length] at hDD
    exact ⟨w1.stops H (hG H sm), hd H sm hDD⟩
theorem lc2_out {J : It} {n : Nat} {G : Hp → Prop} {Y : Nat → Hp → V → Hp → Prop} (w : Walk J n G Y) {g : TG} {tt : TT} {wi1 : TI} {g1 : TG} {tt1 : TT} {te : TE} {vs vs1 : List Nat} {σ : L2.St} {H1 : Hp} {Q : VK} (out : Nat → List V) (hG : ∀ H, Same H1 H → G H)
    (hs : ∀ i x D H H', i < n → Y i H x H' → H1 D = none → Same H1 H → H D = some (.lst (((List.range i).map out).flatten)) → ∀ Nx : Hp → Prop, (∀ H', Same H1 H' → H' D = some (.lst (((List.range i).map out).flatten ++ out i)) → Nx H') →
      g x (wipe σ vs) H' fun σ2 H2 => wipe σ2 vs = wipe σ vs ∧ tt σ2 H2 fun b H3 => if b = true then wi1 σ2 H3 fun J1 H4 => ∃ W1 : Nat → Nat → Hp → Prop, (∃ m, W1 0 m H4) ∧ ∀ j k H, W1 j k H →
      (J1.stop j H ∧ Nx H) ∨ (J1.go j H ∧ ∃ Nx1 : Hp → Prop, (∀ H', Nx1 H' → ∃ k', k' < k ∧ W1 (j + 1) k' H') ∧ ∀ x H', J1.yld j H x H' → g1 x (wipe σ2 vs1) H' fun σ3 H5 => wipe σ3 vs1 = wipe σ2 vs1 ∧ tt1 σ3 H5 fun b H6 =>
        if b = true then te σ3 H6 fun y H7 => ∃ acc, H7 D = some (.lst acc) ∧ acc.length < sizeLine ∧ Nx1 (L2.upd H7 D (.lst (acc ++ [y]))) else Nx1 H6) else Nx H3)
    (hd : ∀ D H, H1 D = none → Same H1 H → H D = some (.lst (((List.range n).map out).flatten)) → Q (.ref D) H) : tLc2 (fun _ H R => R J H) g tt wi1 g1 tt1 te vs vs1 σ H1 Q := by
  intro D hD
  refine ⟨fun i m H => m = n - i ∧ i ≤ n ∧ Same H1 H ∧ H D = some (.lst (((List.range i).map out).flatten)), ⟨_, rfl, Nat.zero_le _, fun b o e => by rw [upd_ne (ne_of_none e hD)]; exact e, by rw [upd_same]; rfl⟩, ?_⟩
  rintro i m H ⟨rfl, hi, sm, hDD⟩
  by_cases hlt : i < n
  · right
    refine ⟨w.goes i H hlt (hG H sm), fun H' => Same H1 H' ∧ H' D = some (.lst (((List.range (i + 1)).map out).flatten)), fun H' q => ⟨n - (i + 1), by omega, rfl, hlt, q.1, q.2⟩, fun x H' hy => ?_⟩
    refine hs i x D H H' hlt (w.yields i H x H' hlt (hG H sm) hy) hD sm hDD _ fun H2 s2 h2 => ⟨s2, ?_⟩
    rw [h2, List.range_succ, List.map_append, List.flatten_append]
    simp
  · left
    have e : i = n := by omega
    subst e
    exact ⟨w.stops H (hG H sm), hd D H hD sm hDD⟩
theorem pe_fldK {X : Cx} {K : PySem.W.Frag} {e : Expr} {f : Str} {pos : Pos} {ta : TE} (h : X.K = K) (he : PE X e ta) (hb : attributeBase e f X.env (eval e X.env) = eval e X.env) : PE X (.Attribute e f pos) (tFld K ta f) := by
  subst h
  exact pe_fld he hb
theorem ar_lc {wi : TI} {g : TG} {tt : TT} {te : TE} {vs : List Nat} {σ : L2.St} {H : Hp} {Q : List V → Hp → Prop}
    (h : wi σ H fun J H1 => tLc (fun _ H R => R J H) g tt te vs σ H1 fun y H2 => Q [y] H2) : tCons (tLc wi g tt te vs) tNil σ H Q := h
/-! ### the small defs that rims want -/
abbrev sFilled : Stmt := top 38
abbrev sNeedB : Stmt := top 42
abbrev sFewP : Stmt := top 48
abbrev sNexts : Stmt := top 50
structure TxR (mg : Str → Option Value) : Prop where
  words : ∃ t, mg "MOST_WORDS" = some (.int 4 t)
  places : ∃ t, mg "MOST_PLACES" = some (.int 24 t)
  range : mg "range" = none
  enum : mg "enumerate" = none
def spFilled (K : PySem.W.Frag) (C : Addr) : Sp := fun vs H Q _ => ∃ (p : Addr) (ns : List Int), vs = [.ref p] ∧ WordAt K C H p ns ∧ Q (.bl (decide (0 < (ns.length : Int)))) H
def spNeedB (K : PySem.W.Frag) : Sp := fun vs H Q _ => ∃ (a : Addr) (ns : List Int), vs = [.ref a] ∧ SqL K H a (iv ns) ∧ ns.length ≤ 1000 ∧ Lts ns ∧ Fr.bal ns = [] ∧ ∀ H', Same H H' → Q .non H'
def spFewP : Sp := fun vs H Q _ => ∃ n : Int, vs = [.int n] ∧ n ≤ 24 ∧ Q .non H
/-- the places that stand behind each one, from place f on -/
def nxF (f : Nat) : List (List Int) → List Int
  | [] => []
  | w :: r => ((List.range w.length).map fun (t : Nat) => (f : Int) + (((t + 1) % w.length : Nat) : Int)) ++ nxF (f + w.length) r
theorem nxF_len : ∀ (ws : List (List Int)) (f : Nat), (nxF f ws).length = ws.flatten.length
  | [], _ => rfl
  | w :: r, f => by
    unfold nxF
    rw [List.length_append, nxF_len r, List.flatten_cons, List.length_append, List.length_map, List.length_range]
theorem nxF_snoc : ∀ (ws : List (List Int)) (w : List Int) (f : Nat), nxF f (ws ++ [w]) = nxF f ws ++ ((List.range w.length).map fun (t : Nat) => ((f + ws.flatten.length : Nat) : Int) + (((t + 1) % w.length : Nat) : Int))
  | [], w, f => by simp [nxF]
  | a :: r, w, f => by
    rw [List.cons_append]
    unfold nxF
    rw [nxF_snoc r w, List.append_assoc, List.flatten_cons, List.length_append]
    congr 3
    funext t
    congr 2
    omega
theorem nxF_take {ws : List (List Int)} {i : Nat} {w : List Int} (h : ws[i]? = some w) : nxF 0 (ws.take (i + 1)) = nxF 0 (ws.take i) ++ ((List.range w.length).map fun (t : Nat) => (((ws.take i).flatten.length : Nat) : Int) + (((t + 1) % w.length : Nat) : Int)) := by
  have hi := (List.getElem?_eq_some_iff.mp h).1
  have e := (List.getElem?_eq_some_iff.mp h).2
  rw [List.take_succ_eq_append_getElem hi, e, nxF_snoc, Nat.zero_add]
theorem flat_take {ws : List (List Int)} {i : Nat} {w : List Int} (h : ws[i]? = some w) : (ws.take i).flatten.length + w.length ≤ ws.flatten.length := by
  have hi := (List.getElem?_eq_some_iff.mp h).1
  have e := (List.getElem?_eq_some_iff.mp h).2
  have s : ws = ws.take i ++ (w :: ws.drop (i + 1)) := by
    rw [← e, List.getElem_cons_drop, List.take_append_drop]
  have := congrArg (fun z => z.flatten.length) s
  simp only [List.flatten_append, List.flatten_cons, List.length_append] at this
  omega
/-- words that stand at these places -/
def Wds (K : PySem.W.Frag) (C : Addr) (H : Hp) (xs : List Addr) (ws : List (List Int)) : Prop := All2 (fun p ns => WordAt K C H p ns) xs ws
theorem Wds.same {K : PySem.W.Frag} {C : Addr} {H H' : Hp} {xs : List Addr} {ws : List (List Int)} (h : Wds K C H xs ws) (s : Same H H') : Wds K C H' xs ws := h.imp fun _ _ r => r.same s
def spNexts (K : PySem.W.Frag) (C : Addr) : Sp := fun vs H Q _ => ∃ (a : Addr) (xs : List Addr) (ws : List (List Int)), vs = [.ref a] ∧ SqL K H a (xs.map V.ref) ∧ Wds K C H xs ws ∧ ws.length ≤ 4 ∧ (∀ w ∈ ws, w ≠ []) ∧ ws.flatten.length ≤ 24 ∧ NewB K H Q (iv (nxF 0 ws))
section
variable {P : Program} {w : World} {K : PySem.W.Frag} {mg : Str → Option Value} {base : Heap} {C : Addr}
theorem scFilled : FnScope ["value"] ["value"] (defScope sFilled) := ⟨rfl, rfl, rfl, by decide +kernel, rfl, by decide +kernel, by decide +kernel⟩
theorem ok_filled {f : Addr} {fd : FuncData} (F : Fun K "is_filled" "is_filled" sFilled f fd) (T : TxW K mg C) : FnOk P w K mg base CX0 1 f fd ["value"] (spFilled K C) := by
  refine F.ok scFilled (fun vs H Q E h => ?_) (fun cdv A outer s H vs Q E hr h => ?_)
  · obtain ⟨p, ns, rfl, _⟩ := h
    rfl
  · obtain ⟨p, ns, rfl, W1, k⟩ := h
    refine ⟨_, pss_one (ps_ret (pe_and (pe_callB call_isi (by rfl) T.isin (by decide +kernel) (pa_cons (pv 0) (pa_cons (pe_glob (v := .ref C) (by rfl) T.mgW rfl) pa_nil)))
      (pe_one (pe_cmpR op_gt (pe_fld (pv 0) rfl) pe_int (nomark _))))), ?_⟩
    refine ⟨_, rfl, _, _, _, _, _, rfl, .own C, W1.tyx T, kit_self C, _, rfl, ?_⟩
    refine iteT ?_
    obtain ⟨dx, tl, tk, ks, h1, h2, h3, h4⟩ := W1
    exact ⟨_, rfl, p, C, dx, _, _, rfl, h1, T.cl, T.nN, wf_length, _, _, rfl, rfl, k⟩
theorem scFewP : FnScope ["many"] ["many"] (defScope sFewP) := ⟨rfl, rfl, rfl, by decide +kernel, rfl, by decide +kernel, by decide +kernel⟩
theorem ok_fewP {f : Addr} {fd : FuncData} (F : Fun K "need_few_places" "need_few_places" sFewP f fd) (T : TxR mg) : FnOk P w K mg base CX0 1 f fd ["many"] spFewP := by
  refine F.ok scFewP (fun vs H Q E h => ?_) (fun cdv A outer s H vs Q E hr h => ?_)
  · obtain ⟨n, rfl, _⟩ := h
    rfl
  · obtain ⟨n, rfl, hn, k⟩ := h
    obtain ⟨tk, mM⟩ := T.places
    refine ⟨_, pss_one (ps_if (pt_cmpR op_gt (pv 0) (pe_glob (v := .int 24) (by rfl) mM ⟨_, rfl⟩) (nomark _)) (pss_one ps_never) pss_nil), ?_⟩
    refine ⟨_, rfl, _, _, rfl, rfl, _, rfl, ?_⟩
    exact iteF' (decide_eq_false (by omega)) k
theorem scNeedB : FnScope ["letters", "pairs"] ["letters"] (defScope sNeedB) := ⟨rfl, rfl, rfl, by decide +kernel, rfl, by decide +kernel, by decide +kernel⟩
theorem ok_needB {f : Addr} {fd : FuncData} (F : Fun K "need_balanced" "need_balanced" sNeedB f fd) (GB : Cal P w K mg base "balance_of" 2 ["letters"] (spBalOf K)) : FnOk P w K mg base CX0 3 f fd ["letters"] (spNeedB K) := by
  refine F.ok scNeedB (fun vs H Q E h => ?_) (fun cdv A outer s H vs Q E hr h => ?_)
  · obtain ⟨a, ns, rfl, _⟩ := h
    rfl
  · obtain ⟨a, ns, rfl, hA, hlen, hl, hb, k⟩ := h
    refine ⟨_, pss_cons (ps_set (i := 1) scNeedB.nd rfl (Or.inl rfl) (pe_cal GB hr (by decide) (by rfl) (pa_cons (pv 0) pa_nil)))
      (pss_one (ps_if (pt_truth (pv 1) (by intro _; rfl)) (pss_one ps_never) pss_nil)), ?_⟩
    refine ⟨_, rfl, a, ns, rfl, hA, hlen, hl, fun p H1 s1 hB => ?_⟩
    rw [hb] at hB
    obtain ⟨vs, h1, h2⟩ := hB
    cases h2
    refine at_set ?_
    try dsimp only
    exact ⟨_, rfl, _, .inr (.inl ⟨_, h1, rfl⟩), iteF (k H1 s1)⟩
abbrev nNexts : List Str := ["words", "nexts", "word", "first", "at"]
theorem scNexts : FnScope nNexts ["words"] (defScope sNexts) := ⟨rfl, rfl, rfl, by decide +kernel, rfl, by decide +kernel, by decide +kernel⟩
theorem ok_nexts {f : Addr} {fd : FuncData} (F : Fun K "nexts_of" "nexts_of" sNexts f fd) (T : TxW K mg C) (TA : TxA mg) (R : TxR mg) : FnOk P w K mg base CX0 1 f fd ["words"] (spNexts K C) := by
  refine F.ok scNexts (fun vs H Q E h => ?_) (fun cdv A outer s H vs Q E hr h => ?_)
  · obtain ⟨a, xs, ws, rfl, _⟩ := h
    rfl
  · obtain ⟨a, xs, ws, rfl, hA, hW, l4, hne, l24, k⟩ := h
    refine ⟨_, pss_cons (ps_set (i := 1) scNexts.nd rfl (Or.inl rfl) (pe_lst pa_nil))
      (pss_cons (ps_for PassesOwn.never rfl (pi_list (pv 0)) (pg_name (i := 2) scNexts.nd rfl (Or.inr rfl))
        (pss_cons (ps_set (i := 3) scNexts.nd rfl (Or.inr rfl) (pe_callB call_len_seq (by rfl) TA.len PySem.boot_len (pa_cons (pv 1) pa_nil)))
        (pss_one (ps_expr (pe_bm PySem.F.plainAttrs_list PySem.F.slot_list_extend PySem.F.type_list_extend mt_extend (pv 1) (pa_cons (pe_lc (own := [("at", 4)]) (g := gName 4) (tt := tYes) rfl scNexts.nd (pi_range1 (by rfl) R.range (pa_cons (pe_fld (pv 2) rfl) pa_nil))
          (blkOk_by (N := nNexts) (sc := defScope sNexts) (by decide +kernel)) (fun _ _ _ _ _ => pg_name (i := 4) scNexts.nd rfl (Or.inl rfl)) (fun _ _ _ _ _ => pts_nil)
          (fun _ _ _ _ _ => pe_op op_add (pv 3) (pe_op op_mod (pe_op op_add (pv 4) pe_int) (pe_fldK (K := K) rfl (pv 2) rfl)))) pa_nil))))))
      (pss_one (ps_ret (pe_callTy call_tupB (by rfl) TA.tuple (by decide +kernel) (pa_cons (pv 1) pa_nil))))), ?_⟩
    refine ⟨Nat.zero_le _, fun l hl0 => ?_⟩
    have s0 := same_upd (o := .lst []) hl0
    refine ⟨_, rfl, a, rfl, ⟨_, s0.seq hA⟩, for_list (K := K) (a := a) (xs := xs.map V.ref) (fun i σ H' => ∃ v2 v3 : Option V, σ = [some (.ref a), some (.ref l), v2, v3, none] ∧ Same H H' ∧ H' l = some (.lst (iv (nxF 0 (ws.take i)))))
      ⟨none, none, rfl, s0, upd_same⟩ (fun i σ H1 _ ⟨_, _, _, s, _⟩ => s.seq hA) ?_ ?_⟩
    · rintro i y σ H1 hi ⟨v2, v3, rfl, sm, hL⟩
      obtain ⟨q, hq, rfl⟩ : ∃ q, xs[i]? = some q ∧ y = V.ref q := by
        rw [List.getElem?_map] at hi
        cases e : xs[i]? with
        | none => rw [e] at hi; cases hi
        | some q => rw [e] at hi; exact ⟨q, rfl, (Option.some.inj hi).symm⟩
      obtain ⟨u, hu, Wq⟩ := hW.at hq
      have Wq := Wq.same sm
      have hft := flat_take hu
      have hup : 0 < u.length := List.length_pos_iff.mpr (hne u (List.mem_of_getElem? hu))
      refine ⟨_, rfl, l, _, rfl, .inl (SqL.of hL), ?_⟩
      refine at_set ?_
      try dsimp only
      have el : ((iv (nxF 0 (ws.take i))).length : Int) = (((ws.take i).flatten.length : Nat) : Int) := by rw [List.length_map, nxF_len]
      rw [el]
      refine ⟨_, rfl, .inl ⟨rfl, _, SqL.of hL⟩, ?_⟩
      refine ar_lc ?_
      obtain ⟨dx, tl, tk, ks, w1, _⟩ := id Wq
      refine ⟨_, rfl, q, C, dx, _, _, rfl, w1, T.cl, T.nN, wf_length, _, rfl, by omega, by omega, fun D hD => ?_⟩
      have sD := same_upd (o := .lst []) hD
      refine lc_range (lo := 0) (n := ((u.length : Nat) : Int).toNat) (fun j H' => Same H1 H' ∧ H' D = some (.lst (iv ((List.range j).map fun (t : Nat) => (((ws.take i).flatten.length : Nat) : Int) + (((t + 1) % u.length : Nat) : Int))))) ⟨sD, upd_same⟩ ?_ ?_
      · rintro j H2 hj ⟨s2, hDD⟩
        rw [Int.toNat_natCast] at hj
        have w2 := s2 _ _ w1
        refine ⟨rfl, yes_te ?_⟩
        refine ⟨_, rfl, _, rfl, _, _, rfl, rfl, _, rfl, q, C, dx, _, _, rfl, w2, T.cl, T.nN, wf_length, _, _, rfl, rfl, by omega, _, _, rfl, rfl, ?_⟩
        refine ⟨_, hDD, Evl.sz_lt (by rw [List.length_map, List.length_map, List.length_range]; omega), fun b o e => ?_, ?_⟩
        · rw [upd_ne (ne_of_none e hD)]
          exact s2 _ _ e
        · rw [upd_same, List.range_succ, List.map_append]
          unfold iv
          rw [List.map_append]
          have ev : ((0 : Int) + (j : Nat) + 1) % ((u.length : Nat) : Int) = (((j + 1) % u.length : Nat) : Int) := by
            rw [Int.natCast_emod]
            congr 1
            omega
          exact congrArg (fun z => some (HO.lst (_ ++ [V.int ((((ws.take i).flatten.length : Nat) : Int) + z)]))) ev
      · rintro H2 ⟨s2, hDD⟩
        rw [Int.toNat_natCast] at hDD
        have hL2 := s2 _ _ hL
        refine ⟨l, D, _, _, rfl, rfl, hL2, hDD, Evl.sz_of (by rw [List.length_map, List.length_map, List.length_map, List.length_range, nxF_len]; omega), ?_⟩
        refine ⟨_, _, rfl, same_put (sm.trans s2) hl0, ?_⟩
        rw [upd_same, nxF_take hu]
        unfold iv
        rw [List.map_append]
    · rintro σ H1 ⟨v2, v3, rfl, sm, hL⟩
      have e : ws.take (xs.map V.ref).length = ws := List.take_of_length_le (by rw [List.length_map, hW.length]; exact Nat.le_refl _)
      rw [e] at hL
      refine ⟨_, rfl, l, _, rfl, .inl ⟨SqL.of hL, fun t H2 s2 B2 => k t H2 (sm.trans s2) B2⟩⟩
end
end W33
set_option Elab.async false
set_option linter.all false
set_option maxRecDepth 100000
set_option maxHeartbeats 1000000
namespace W33
open PySem L2 PySem.Spec PyProof.Rows WR WB
abbrev sInitR : Stmt := inClass (top 49) 0
theorem pi_tupK {X : Cx} {K : PySem.W.Frag} {tg l : Expr} {tl : TE} (h : X.K = K) (hl : PE X l tl) : PI X tg l (iTup K tl) := by
  subst h
  exact pi_tup hl
theorem nx_lc2 {wi wi1 : TI} {g g1 gg : TG} {tt tt1 : TT} {te : TE} {vs vs1 : List Nat} {D : Ends} {σ : L2.St} {H : Hp} {Cc : TS} {b1 b2 : L2.St → Hp → Prop} {rt : VK}
    (h : wi σ H fun J H1 => tLc2 (fun _ H R => R J H) g tt wi1 g1 tt1 te vs vs1 σ H1 fun z H4 => gg z σ H4 (Cc D)) : tNext { nx := tSeq (tAsg (tLc2 wi g tt wi1 g1 tt1 te vs vs1) gg) Cc D, rt := rt, bk := b1, ct := b2 } σ H := h
theorem nx_not_lc {r : List V → Hp → VK → Prop} {wi : TI} {g : TG} {tt : TT} {te : TE} {vs : List Nat} {D : Ends} {σ : L2.St} {H : Hp} {A B Cc : TS} {b1 b2 : L2.St → Hp → Prop} {rt : VK}
    (h : wi σ H fun J H1 => tLc (fun _ H R => R J H) g tt te vs σ H1 fun x H2 => r [x] H2 fun v H3 => ∃ c, v = .bl c ∧ if (!c) = true then A { D with nx := Cc D } σ H3 else B { D with nx := Cc D } σ H3) :
    tNext { nx := tSeq (tIfS (tNot (fun σ H Q => tCB r (tCons (tLc wi g tt te vs) tNil) σ H fun x H1 => ∃ c, x = .bl c ∧ Q c H1)) A B) Cc D, rt := rt, bk := b1, ct := b2 } σ H := h
theorem sq_fld {K : PySem.W.Frag} {ta tv : TE} {f : Str} {Cc : TS} {D : Ends} {σ : L2.St} {H : Hp} (h : tv σ H fun y H1 => sFld K ta (fun _ H Q => Q y H) f { D with nx := Cc D } σ H1) : tSeq (sFld K ta tv f) Cc D σ H := h
theorem cb_lc2 {r : List V → Hp → VK → Prop} {wi wi1 : TI} {g g1 : TG} {tt tt1 : TT} {te : TE} {vs vs1 : List Nat} {σ : L2.St} {H : Hp} {Q : VK}
    (h : wi σ H fun J H1 => tLc2 (fun _ H R => R J H) g tt wi1 g1 tt1 te vs vs1 σ H1 fun y H2 => r [y] H2 Q) : tCB r (tCons (tLc2 wi g tt wi1 g1 tt1 te vs vs1) tNil) σ H Q := h
theorem flat_to {ws : List (List Int)} {i : Nat} (h : i ≤ ws.length) : ((List.range i).map fun i => iv (ws.getD i [])).flatten = iv (ws.take i).flatten := by
  have e : (List.range i).map (fun i => ws.getD i []) = ws.take i := by
    refine List.ext_getElem (by rw [List.length_map, List.length_range, List.length_take]; omega) fun j h1 h2 => ?_
    rw [List.length_take] at h2
    rw [List.getElem_map, List.getElem_range, List.getElem_take, List.getD_eq_getElem?_getD, List.getElem?_eq_getElem (by omega)]
    rfl
  rw [← e]
  unfold iv
  rw [List.map_flatten, List.map_map]
  rfl
def rf (tw tl : Addr) (n b : Nat) (sh : Bool) (th tn : Addr) : List (Str × V) := [("words", .ref tw), ("letters", .ref tl), ("many", .int (n : Int)), ("bands", .int (b : Int)), ("is_short", .bl sh), ("homes", .ref th), ("nexts", .ref tn)]
theorem pr1 {tw : Addr} : putF "words" (.ref tw) ([] : List (Str × V)) = ([("words", .ref tw)] : List (Str × V)) := by
  rfl
theorem pr2 {tw : Addr} {tl : Addr} : putF "letters" (.ref tl) ([("words", .ref tw)] : List (Str × V)) = ([("words", .ref tw), ("letters", .ref tl)] : List (Str × V)) := by
  rw [pf_ne (show ¬ (("words" : Str) = "letters") by decide +kernel)]
  rfl
theorem pr3 {tw : Addr} {tl : Addr} {n : Nat} : putF "many" (.int (n : Int)) ([("words", .ref tw), ("letters", .ref tl)] : List (Str × V)) = ([("words", .ref tw), ("letters", .ref tl), ("many", .int (n : Int))] : List (Str × V)) := by
  rw [pf_ne (show ¬ (("words" : Str) = "many") by decide +kernel), pf_ne (show ¬ (("letters" : Str) = "many") by decide +kernel)]
  rfl
theorem pr4 {tw : Addr} {tl : Addr} {n : Nat} {b : Nat} : putF "bands" (.int (b : Int)) ([("words", .ref tw), ("letters", .ref tl), ("many", .int (n : Int))] : List (Str × V)) = ([("words", .ref tw), ("letters", .ref tl), ("many", .int (n : Int)), ("bands", .int (b : Int))] : List (Str × V)) := by
  rw [pf_ne (show ¬ (("words" : Str) = "bands") by decide +kernel), pf_ne (show ¬ (("letters" : Str) = "bands") by decide +kernel), pf_ne (show ¬ (("many" : Str) = "bands") by decide +kernel)]
  rfl
theorem pr5 {tw : Addr} {tl : Addr} {n : Nat} {b : Nat} {sh : Bool} : putF "is_short" (.bl sh) ([("words", .ref tw), ("letters", .ref tl), ("many", .int (n : Int)), ("bands", .int (b : Int))] : List (Str × V)) = ([("words", .ref tw), ("letters", .ref tl), ("many", .int (n : Int)), ("bands", .int (b : Int)), ("is_short", .bl sh)] : List (Str × V)) := by
  rw [pf_ne (show ¬ (("words" : Str) = "is_short") by decide +kernel), pf_ne (show ¬ (("letters" : Str) = "is_short") by decide +kernel), pf_ne (show ¬ (("many" : Str) = "is_short") by decide +kernel), pf_ne (show ¬ (("bands" : Str) = "is_short") by decide +kernel)]
  rfl
theorem pr6 {tw : Addr} {tl : Addr} {n : Nat} {b : Nat} {sh : Bool} {th : Addr} : putF "homes" (.ref th) ([("words", .ref tw), ("letters", .ref tl), ("many", .int (n : Int)), ("bands", .int (b : Int)), ("is_short", .bl sh)] : List (Str × V)) = ([("words", .ref tw), ("letters", .ref tl), ("many", .int (n : Int)), ("bands", .int (b : Int)), ("is_short", .bl sh), ("homes", .ref th)] : List (Str × V)) := by
  rw [pf_ne (show ¬ (("words" : Str) = "homes") by decide +kernel), pf_ne (show ¬ (("letters" : Str) = "homes") by decide +kernel), pf_ne (show ¬ (("many" : Str) = "homes") by decide +kernel), pf_ne (show ¬ (("bands" : Str) = "homes") by decide +kernel), pf_ne (show ¬ (("is_short" : Str) = "homes") by decide +kernel)]
  rfl
theorem pr7 {tw : Addr} {tl : Addr} {n : Nat} {b : Nat} {sh : Bool} {th : Addr} {tn : Addr} : putF "nexts" (.ref tn) ([("words", .ref tw), ("letters", .ref tl), ("many", .int (n : Int)), ("bands", .int (b : Int)), ("is_short", .bl sh), ("homes", .ref th)] : List (Str × V)) = rf tw tl n b sh th tn := by
  rw [pf_ne (show ¬ (("words" : Str) = "nexts") by decide +kernel), pf_ne (show ¬ (("letters" : Str) = "nexts") by decide +kernel), pf_ne (show ¬ (("many" : Str) = "nexts") by decide +kernel), pf_ne (show ¬ (("bands" : Str) = "nexts") by decide +kernel), pf_ne (show ¬ (("is_short" : Str) = "nexts") by decide +kernel), pf_ne (show ¬ (("homes" : Str) = "nexts") by decide +kernel)]
  rfl
/-- the number of each letter's word, from f on -/
def hmF (f : Nat) : List (List Int) → List Int
  | [] => []
  | w :: r => List.replicate w.length (f : Int) ++ hmF (f + 1) r
theorem hm_to : ∀ (ws : List (List Int)) (f : Nat), ((List.range ws.length).map fun i => iv (List.replicate (ws.getD i []).length ((f + i : Nat) : Int))).flatten = iv (hmF f ws)
  | [], f => rfl
  | w :: r, f => by
    have ih := hm_to r (f + 1)
    rw [List.length_cons, List.range_succ_eq_map, List.map_cons, List.flatten_cons, List.map_map]
    unfold hmF
    have e : (List.range r.length).map ((fun i => iv (List.replicate ((w :: r).getD i []).length ((f + i : Nat) : Int))) ∘ Nat.succ) = (List.range r.length).map fun i => iv (List.replicate (r.getD i []).length ((f + 1 + i : Nat) : Int)) := by
      refine List.map_congr_left fun i _ => ?_
      show iv (List.replicate ((w :: r).getD (i + 1) []).length ((f + (i + 1) : Nat) : Int)) = _
      rw [List.getD_cons_succ, show f + (i + 1) = f + 1 + i by omega]
    rw [e, ih]
    unfold iv
    rw [List.map_append]
    rfl
theorem all_bl {vs : List V} {ws : List (List Int)} {f : List Int → Bool} (h : All2 (fun v u => v = V.bl (f u)) vs ws) : vs = (ws.map f).map V.bl := by
  induction h with
  | nil => rfl
  | cons e _ ih => rw [e, ih]; rfl
theorem all_map (ws : List (List Int)) (f : List Int → Bool) : (ws.map f).all id = ws.all f := by
  rw [List.all_map]
  rfl
def RimsAt (K : PySem.W.Frag) (C CR : Addr) (H : Hp) (p : Addr) (xs : List Addr) (ws : List (List Int)) : Prop :=
  ∃ (dx tw tl th tn : Addr), H p = some (.ins CR dx (rf tw tl ws.flatten.length (ws.flatten.length / 2) (ws.all fun w => decide (Fr.rnd w = w)) th tn)) ∧ SqB K H tw (xs.map V.ref) ∧ Wds K C H xs ws ∧ SqB K H tl (iv ws.flatten) ∧ SqB K H th (iv (hmF 0 ws)) ∧ SqB K H tn (iv (nxF 0 ws))
/-- what may be made to rims -/
def RimOk (ws : List (List Int)) : Prop := 1 ≤ ws.length ∧ ws.length ≤ 4 ∧ (∀ w ∈ ws, w ≠ []) ∧ ws.flatten.length ≤ 24 ∧ Lts ws.flatten ∧ Fr.bal ws.flatten = []
structure TxRC (K : PySem.W.Frag) (mg : Str → Option Value) (CR : Addr) : Prop where
  cl : Cls K CR
  n1 : NoAttr K CR "words"
  n2 : NoAttr K CR "letters"
  n3 : NoAttr K CR "many"
  n4 : NoAttr K CR "bands"
  n5 : NoAttr K CR "is_short"
  n6 : NoAttr K CR "homes"
  n7 : NoAttr K CR "nexts"
  mgR : mg "Rims" = some (.ref CR)
  ca : PySem.W.findIn K (.ref CR) "__class__" = some (some (.builtin "object.__class__"))
  cm : PySem.W.mroIn K CR (.type "object") = some true
def spInitR (K : PySem.W.Frag) (C CR : Addr) : Sp := fun vs H Q _ => ∃ (H0 : Hp) (p dx a : Addr) (xs : List Addr) (ws : List (List Int)), vs = [.ref p, .ref a] ∧ Same H0 H ∧ H0 p = none ∧ H p = some (.ins CR dx []) ∧ SqL K H0 a (xs.map V.ref) ∧ Wds K C H0 xs ws ∧ RimOk ws ∧
  ∀ H', Same H0 H' → RimsAt K C CR H' p xs ws → Q .non H'
abbrev nInitR : List Str := ["self", "words", "letters", "word", "letter", "home", "_"]
section
variable {P : Program} {w : World} {K : PySem.W.Frag} {mg : Str → Option Value} {base : Heap} {C CR : Addr}
theorem scInitR : FnScope nInitR ["self", "words"] (defScope sInitR) := ⟨rfl, rfl, rfl, by decide +kernel, rfl, by decide +kernel, by decide +kernel⟩
theorem ok_initR {f : Addr} {fd : FuncData} (F : Fun K "__init__" "Rims.__init__" sInitR f fd) (T : TxW K mg C) (TC : TxRC K mg CR) (TA : TxA mg) (R : TxR mg) (GL : Cal P w K mg base "is_listed" 1 ["value"] (spListE K)) (GF : Cal P w K mg base "is_filled" 1 ["value"] (spFilled K C))
    (GP : Cal P w K mg base "need_few_places" 1 ["many"] spFewP) (GB : Cal P w K mg base "need_balanced" 3 ["letters"] (spNeedB K)) (GN : Cal P w K mg base "nexts_of" 1 ["words"] (spNexts K C)) :
    FnOk P w K mg base CX0 4 f fd ["self", "words"] (spInitR K C CR) := by
  refine F.ok scInitR (fun vs H Q E h => ?_) (fun cdv A outer s H vs Q E hr h => ?_)
  · obtain ⟨H0, p, dx, a, xs, ws, rfl, _⟩ := h
    rfl
  · obtain ⟨H0, p, dx, a, xs, ws, rfl, s0, p0, hp, hS, hW, ⟨l1, l4, hne, l24, hl, hb⟩, k⟩ := h
    obtain ⟨tW, mW⟩ := R.words
    refine ⟨_, pss_cons (ps_if (PW.pt (pw_or (pt_not (pt_val (pe_cal GL hr (by decide) (by rfl) (pa_cons (pv 1) pa_nil)))) (pw_or1 (pt_not (pt_chain op_le op_le pe_int (pe_callB call_len_seq (by rfl) TA.len PySem.boot_len (pa_cons (pv 1) pa_nil)) (pe_glob (v := .int 4) (by rfl) mW ⟨_, rfl⟩)))))) (pss_one ps_never) pss_nil)
      (pss_cons (ps_if (pt_not (pt_val (pe_callB (cr_all rfl) (by rfl) T.all (by decide +kernel) (pa_cons (pe_lc (own := [("word", 3)]) (g := gName 3) (tt := tYes) rfl scInitR.nd (pi_list (pv 1))
          (blkOk_by (N := nInitR) (sc := defScope sInitR) (by decide +kernel)) (fun _ _ _ _ _ => pg_name (i := 3) scInitR.nd rfl (Or.inl rfl)) (fun _ _ _ _ _ => pts_nil)
          (fun _ _ _ _ _ => pe_cal GF hr (by decide) (by rfl) (pa_cons (pv 3) pa_nil))) pa_nil)))) (pss_one ps_never) pss_nil)
      (pss_cons (ps_setLc2 (i := 2) (own := [("word", 3), ("letter", 4)]) (vs1 := [4]) (g := gName 3) (tt := tYes) (g1 := gName 4) (tt1 := tYes) rfl scInitR.nd rfl rfl (sw_true rfl rfl rfl (by decide +kernel)) (pi_list (pv 1))
          (blkOk_by (N := nInitR) (sc := defScope sInitR) (by decide +kernel)) (by decide) (fun _ _ _ _ _ => pg_name (i := 3) scInitR.nd rfl (Or.inl rfl)) (fun _ _ _ _ _ => pts_nil)
          (fun _ _ _ _ _ => pi_tupK (K := K) rfl (pe_fldK (K := K) rfl (pv 3) rfl)) (fun _ _ _ _ _ => pg_name (i := 4) scInitR.nd rfl (Or.inl rfl)) (fun _ _ _ _ _ => pts_nil) (fun _ _ _ _ _ => pv 4))
      (pss_cons (ps_expr (pe_cal GP hr (by decide) (by rfl) (pa_cons (pe_callB call_len_seq (by rfl) TA.len PySem.boot_len (pa_cons (pv 2) pa_nil)) pa_nil)))
      (pss_cons (ps_expr (pe_cal GB hr (by decide) (by rfl) (pa_cons (pv 2) pa_nil)))
      (pss_cons (ps_fld (pv 0) (pe_callTy call_tupB (by rfl) TA.tuple (by decide +kernel) (pa_cons (pv 1) pa_nil)) rfl)
      (pss_cons (ps_fld (pv 0) (pe_callTy call_tupB (by rfl) TA.tuple (by decide +kernel) (pa_cons (pv 2) pa_nil)) rfl)
      (pss_cons (ps_fld (pv 0) (pe_callB call_len_seq (by rfl) TA.len PySem.boot_len (pa_cons (pv 2) pa_nil)) rfl)
      (pss_cons (ps_fld (pv 0) (pe_op op_fdiv (pe_callB call_len_seq (by rfl) TA.len PySem.boot_len (pa_cons (pv 2) pa_nil)) pe_int) rfl)
      (pss_cons (ps_fld (pv 0) (pe_callB (cr_all rfl) (by rfl) T.all (by decide +kernel) (pa_cons (pe_lc (own := [("word", 3)]) (g := gName 3) (tt := tYes) rfl scInitR.nd (pi_list (pv 1))
          (blkOk_by (N := nInitR) (sc := defScope sInitR) (by decide +kernel)) (fun _ _ _ _ _ => pg_name (i := 3) scInitR.nd rfl (Or.inl rfl)) (fun _ _ _ _ _ => pts_nil)
          (fun _ _ _ _ _ => pe_fldK (K := K) rfl (pv 3) rfl)) pa_nil)) rfl)
      (pss_cons (ps_fld (pv 0) (pe_callTy call_tupB (by rfl) TA.tuple (by decide +kernel) (pa_cons (pe_lc2 (own := [("home", 5), ("word", 3), ("_", 6)]) (vs1 := [6]) (g := gTup K 2 (gCons (gName 5) (gCons (gName 3) gNil))) (tt := tYes) (g1 := gName 6) (tt1 := tYes) rfl scInitR.nd (pi_enum (by rfl) R.enum (pa_cons (pv 1) pa_nil))
          (blkOk_by (N := nInitR) (sc := defScope sInitR) (by decide +kernel)) (by decide) (fun _ _ _ _ _ => pg_tup (n := 2) rfl (pgs_cons (pg_name (i := 5) scInitR.nd rfl (Or.inl rfl)) (pgs_cons (pg_name (i := 3) scInitR.nd rfl (Or.inl rfl)) pgs_nil))) (fun _ _ _ _ _ => pts_nil)
          (fun _ _ _ _ _ => pi_tupK (K := K) rfl (pe_fldK (K := K) rfl (pv 3) rfl)) (fun _ _ _ _ _ => pg_name (i := 6) scInitR.nd rfl (Or.inl rfl)) (fun _ _ _ _ _ => pts_nil) (fun _ _ _ _ _ => pv 5)) pa_nil)) rfl)
      (pss_one (ps_fld (pv 0) (pe_cal GN hr (by decide) (by rfl) (pa_cons (pv 1) pa_nil)) rfl)))))))))))), ?_⟩
    have lxw : xs.length = ws.length := hW.length
    have E0 : SqE K H0 a (xs.map V.ref) := .inl hS
    refine ⟨_, rfl, a, _, rfl, E0.same s0, fun H1 s1 => ⟨_, rfl, ?_⟩⟩
    have s01 := s0.trans s1
    refine iteF ?_
    have hp1 := s1 _ _ hp
    refine ⟨_, rfl, a, _, rfl, .inl (s01.seq hS), _, _, rfl, rfl, _, rfl, iteT' (decide_eq_true (by rw [List.length_map, lxw]; omega)) ⟨_, _, rfl, rfl, _, rfl, no_ne (decide_eq_true (by rw [List.length_map, lxw]; omega)) ?_⟩⟩
    refine nx_not_lc ?_
    refine ⟨_, rfl, a, rfl, ⟨_, s01.seq hS⟩, ?_⟩
    refine lcp (walk_list (xs := xs.map V.ref)) (fun _ => true) (fun _ => V.bl true) (by rw [List.length_map]; omega) (fun H2 s => (s01.trans s).seq hS) ?_ ?_
    · intro x hx H2 s2 Qy Qn ky kn
      obtain ⟨q, hq, rfl⟩ := List.mem_map.mp hx
      obtain ⟨u, hu, Wq⟩ := All2.mem hW hq
      have up : 0 < u.length := List.length_pos_iff.mpr (hne u hu)
      refine ⟨rfl, yes_te ⟨_, rfl, q, u, rfl, Wq.same (s01.trans s2), ?_⟩⟩
      rw [decide_eq_true (show (0 : Int) < (u.length : Int) by omega)]
      exact ky rfl H2 (fun _ _ e => e)
    intro D1 H2 hD1 s2 h2
    have s02 := s01.trans s2
    have hp2 := s2 _ _ hp1
    refine ⟨D1, xs.map fun _ => true, rfl, SqL.of (by
      rw [h2, List.filter_eq_self.mpr (fun _ _ => rfl), List.map_map, List.map_map]
      rfl), ?_⟩
    have eall : (xs.map fun _ => true).all id = true := by
      rw [List.all_eq_true]
      intro b hb
      obtain ⟨_, _, rfl⟩ := List.mem_map.mp hb
      rfl
    rw [eall]
    refine ⟨_, rfl, iteF ?_⟩
    refine nx_lc2 ?_
    refine ⟨_, rfl, a, rfl, ⟨_, s02.seq hS⟩, ?_⟩
    refine lc2_out (walk_list (xs := xs.map V.ref)) (fun i => iv (ws.getD i [])) (fun H s => (s02.trans s).seq hS) ?_ ?_
    · rintro i x D H H' hi ⟨rfl, hx⟩ hD sm hDD Nx kN
      obtain ⟨q, hq, rfl⟩ : ∃ q, xs[i]? = some q ∧ x = V.ref q := by
        rw [List.getElem?_map] at hx
        cases e : xs[i]? with
        | none => rw [e] at hx; cases hx
        | some q => rw [e] at hx; exact ⟨q, rfl, (Option.some.inj hx).symm⟩
      obtain ⟨u, hu, Wq⟩ := hW.at hq
      have eu : ws.getD i [] = u := by rw [List.getD_eq_getElem?_getD, hu]; rfl
      obtain ⟨dx1, tl, tk, ks, w1, w2, _⟩ := Wq.same s02
      refine ⟨rfl, yes_te ?_⟩
      refine ⟨_, rfl, q, C, dx1, _, _, rfl, sm _ _ w1, T.cl, T.nL, wf_letters, tl, rfl, ⟨_, WR.Same.seqT sm w2.sq⟩, ?_⟩
      have hft := flat_take hu
      refine lc2_in (walk_tup (xs := iv u)) (fun y => y) hD sm hDD ?_ (fun H s => ?_) ?_ ?_
      · rw [flat_to (by have := (List.getElem?_eq_some_iff.mp hu).1; omega)]
        rw [List.length_map, List.length_map]
        omega
      · exact WR.Same.seqT s w2.sq
      · intro y hy H2 s2 Qy ky Qn
        exact ⟨rfl, yes_te ⟨_, rfl, ky H2 (fun _ _ e => e)⟩⟩
      · intro H2 s2 h2
        refine kN H2 s2 ?_
        rw [h2, List.map_id', eu]
    intro D H3 hD s3 h3
    have eD : ((List.range (xs.map V.ref).length).map fun i => iv (ws.getD i [])).flatten = iv ws.flatten := by
      rw [List.length_map, lxw, flat_to (Nat.le_refl _), List.take_length]
    rw [eD] at h3
    refine at_set ?_
    try dsimp only
    have s03 := s02.trans s3
    have hp3 := s3 _ _ hp2
    have elen : ((iv ws.flatten).length : Int) = (ws.flatten.length : Int) := by rw [List.length_map]
    refine ⟨_, rfl, D, _, rfl, .inl (SqL.of h3), _, rfl, by rw [elen]; omega, ?_⟩
    refine ⟨_, rfl, D, ws.flatten, rfl, SqL.of h3, by omega, hl, hb, fun H4 s4 => ?_⟩
    have s04 := s03.trans s4
    have hp4 := s4 _ _ hp3
    have h4 := s4 _ _ h3
    -- its words
    refine ⟨_, rfl, a, _, rfl, .inl ⟨s04.seq hS, fun tw H5 s5 B5 => ?_⟩⟩
    refine ⟨_, rfl, p, CR, dx, _, rfl, s5 _ _ hp4, TC.cl, TC.n1, (by show 0 < 1000; decide), ?_⟩
    have hDp : ¬ D = p := fun c => by
      rw [c, hp4] at h4
      cases h4
    have s05 := s04.trans s5
    have h5 := s5 _ _ h4
    have hpp1 : L2.upd H5 p (.ins CR dx (putF "words" (.ref tw) [])) p = some (.ins CR dx [("words", .ref tw)]) := by rw [upd_same, pr1]
    have s06 := same_put (o := (.ins CR dx (putF "words" (.ref tw) []))) s05 p0
    have w6 := SqB.put (o := (.ins CR dx (putF "words" (.ref tw) []))) B5 (s5 _ _ hp4)
    have h6 : L2.upd H5 p (.ins CR dx (putF "words" (.ref tw) [])) D = some (.lst (iv ws.flatten)) := by rw [upd_ne (fun c => hDp c)]; exact h5
    obtain ⟨H6, eH6⟩ : ∃ H', H' = L2.upd H5 p (.ins CR dx (putF "words" (.ref tw) [])) := ⟨_, rfl⟩
    rw [← eH6] at hpp1 s06 w6 h6 ⊢
    clear eH6
    refine ⟨_, rfl, D, _, rfl, .inl ⟨SqL.of h6, fun tl H7 s7 B7 => ?_⟩⟩
    refine ⟨_, rfl, p, CR, dx, _, rfl, s7 _ _ hpp1, TC.cl, TC.n2, (by show 1 < 1000; decide), ?_⟩
    have s07 := s06.trans s7
    have w7 := SqB.same s7 w6
    have h7 := s7 _ _ h6
    have hpp2 : L2.upd H7 p (.ins CR dx (putF "letters" (.ref tl) [("words", .ref tw)])) p = some (.ins CR dx [("words", .ref tw), ("letters", .ref tl)]) := by rw [upd_same, pr2]
    have s08 := same_put (o := (.ins CR dx (putF "letters" (.ref tl) [("words", .ref tw)]))) s07 p0
    have w8 := SqB.put (o := (.ins CR dx (putF "letters" (.ref tl) [("words", .ref tw)]))) w7 (s7 _ _ hpp1)
    have b8 := SqB.put (o := (.ins CR dx (putF "letters" (.ref tl) [("words", .ref tw)]))) B7 (s7 _ _ hpp1)
    have h8 : L2.upd H7 p (.ins CR dx (putF "letters" (.ref tl) [("words", .ref tw)])) D = some (.lst (iv ws.flatten)) := by rw [upd_ne (fun c => hDp c)]; exact h7
    obtain ⟨H8, eH8⟩ : ∃ H', H' = L2.upd H7 p (.ins CR dx (putF "letters" (.ref tl) [("words", .ref tw)])) := ⟨_, rfl⟩
    rw [← eH8] at hpp2 s08 w8 b8 h8 ⊢
    clear eH8
    refine ⟨_, rfl, D, _, rfl, .inl (SqL.of h8), ?_⟩
    rw [elen]
    refine ⟨_, rfl, p, CR, dx, _, rfl, hpp2, TC.cl, TC.n3, (by show 2 < 1000; decide), ?_⟩
    have hpp3 : L2.upd H8 p (.ins CR dx (putF "many" (.int (ws.flatten.length : Nat)) [("words", .ref tw), ("letters", .ref tl)])) p = some (.ins CR dx [("words", .ref tw), ("letters", .ref tl), ("many", .int (ws.flatten.length : Nat))]) := by rw [upd_same, pr3]
    have s09 := same_put (o := (.ins CR dx (putF "many" (.int (ws.flatten.length : Nat)) [("words", .ref tw), ("letters", .ref tl)]))) s08 p0
    have w9 := SqB.put (o := (.ins CR dx (putF "many" (.int (ws.flatten.length : Nat)) [("words", .ref tw), ("letters", .ref tl)]))) w8 hpp2
    have b9 := SqB.put (o := (.ins CR dx (putF "many" (.int (ws.flatten.length : Nat)) [("words", .ref tw), ("letters", .ref tl)]))) b8 hpp2
    have h9 : L2.upd H8 p (.ins CR dx (putF "many" (.int (ws.flatten.length : Nat)) [("words", .ref tw), ("letters", .ref tl)])) D = some (.lst (iv ws.flatten)) := by rw [upd_ne (fun c => hDp c)]; exact h8
    obtain ⟨H9, eH9⟩ : ∃ H', H' = L2.upd H8 p (.ins CR dx (putF "many" (.int (ws.flatten.length : Nat)) [("words", .ref tw), ("letters", .ref tl)])) := ⟨_, rfl⟩
    rw [← eH9] at hpp3 s09 w9 b9 h9 ⊢
    clear eH9
    refine ⟨_, rfl, D, _, rfl, .inl (SqL.of h9), _, _, rfl, rfl, ⟨by decide, by decide⟩, ?_⟩
    rw [elen]
    have e2 : ((ws.flatten.length : Nat) : Int) / 2 = ((ws.flatten.length / 2 : Nat) : Int) := by omega
    try dsimp only
    rw [e2]
    refine ⟨_, rfl, p, CR, dx, _, rfl, hpp3, TC.cl, TC.n4, (by show 3 < 1000; decide), ?_⟩
    have hpp4 : L2.upd H9 p (.ins CR dx (putF "bands" (.int ((ws.flatten.length / 2) : Nat)) [("words", .ref tw), ("letters", .ref tl), ("many", .int (ws.flatten.length : Nat))])) p = some (.ins CR dx [("words", .ref tw), ("letters", .ref tl), ("many", .int (ws.flatten.length : Nat)), ("bands", .int ((ws.flatten.length / 2) : Nat))]) := by rw [upd_same, pr4]
    have s0A := same_put (o := (.ins CR dx (putF "bands" (.int ((ws.flatten.length / 2) : Nat)) [("words", .ref tw), ("letters", .ref tl), ("many", .int (ws.flatten.length : Nat))]))) s09 p0
    have wA := SqB.put (o := (.ins CR dx (putF "bands" (.int ((ws.flatten.length / 2) : Nat)) [("words", .ref tw), ("letters", .ref tl), ("many", .int (ws.flatten.length : Nat))]))) w9 hpp3
    have bA := SqB.put (o := (.ins CR dx (putF "bands" (.int ((ws.flatten.length / 2) : Nat)) [("words", .ref tw), ("letters", .ref tl), ("many", .int (ws.flatten.length : Nat))]))) b9 hpp3
    obtain ⟨HA, eHA⟩ : ∃ H', H' = L2.upd H9 p (.ins CR dx (putF "bands" (.int ((ws.flatten.length / 2) : Nat)) [("words", .ref tw), ("letters", .ref tl), ("many", .int (ws.flatten.length : Nat))])) := ⟨_, rfl⟩
    rw [← eHA] at hpp4 s0A wA bA ⊢
    clear eHA
    have sqA := s0A.seq hS
    have WA : Wds K C HA xs ws := hW.same s0A
    refine sq_fld ?_
    refine cb_lc ?_
    refine ⟨_, rfl, a, rfl, ⟨_, sqA⟩, ?_⟩
    refine lcM (walk_list (K := K) (a := a) (xs := xs.map V.ref)) ws (fun _ _ v u => v = V.bl (decide (Fr.rnd u = u))) (fun _ _ _ _ _ h _ => h) (fun _ _ _ _ _ _ _ h => h) (by rw [List.length_map]; omega) (by rw [List.length_map]; exact lxw) (fun H s => s.seq sqA) ?_ (fun x σ1 H A B k h => gName_mono k h) ?_
    · intro i x u hx hu D2 H2 hD2 _ s2 Qy ky
      obtain ⟨q, hq, rfl⟩ : ∃ q, xs[i]? = some q ∧ x = V.ref q := by
        rw [List.getElem?_map] at hx
        cases e : xs[i]? with
        | none => rw [e] at hx; cases hx
        | some q => rw [e] at hx; exact ⟨q, rfl, (Option.some.inj hx).symm⟩
      obtain ⟨u', hu', Wq⟩ := WA.at hq
      obtain rfl : u' = u := Option.some.inj (hu'.symm.trans hu)
      obtain ⟨dx1, tl1, tk, ks, w1, _⟩ := Wq.same s2
      exact ⟨rfl, _, rfl, q, C, dx1, _, _, rfl, w1, T.cl, T.nR, wf_round, ky _ H2 (fun _ _ e => e) rfl⟩
    intro D2 HB bs hD2 sB hB2 hbs
    rw [all_bl hbs] at hB2
    refine ⟨D2, _, rfl, SqL.of hB2, ?_⟩
    rw [all_map]
    have s0B := s0A.trans sB
    have wB := SqB.same sB wA
    have bB := SqB.same sB bA
    refine ⟨_, rfl, p, CR, dx, _, rfl, sB _ _ hpp4, TC.cl, TC.n5, (by show 4 < 1000; decide), ?_⟩
    have hpp5 : L2.upd HB p (.ins CR dx (putF "is_short" (.bl (ws.all fun w => decide (Fr.rnd w = w))) [("words", .ref tw), ("letters", .ref tl), ("many", .int (ws.flatten.length : Nat)), ("bands", .int ((ws.flatten.length / 2) : Nat))])) p = some (.ins CR dx [("words", .ref tw), ("letters", .ref tl), ("many", .int (ws.flatten.length : Nat)), ("bands", .int ((ws.flatten.length / 2) : Nat)), ("is_short", .bl (ws.all fun w => decide (Fr.rnd w = w)))]) := by rw [upd_same, pr5]
    have s0C := same_put (o := (.ins CR dx (putF "is_short" (.bl (ws.all fun w => decide (Fr.rnd w = w))) [("words", .ref tw), ("letters", .ref tl), ("many", .int (ws.flatten.length : Nat)), ("bands", .int ((ws.flatten.length / 2) : Nat))]))) s0B p0
    have wC := SqB.put (o := (.ins CR dx (putF "is_short" (.bl (ws.all fun w => decide (Fr.rnd w = w))) [("words", .ref tw), ("letters", .ref tl), ("many", .int (ws.flatten.length : Nat)), ("bands", .int ((ws.flatten.length / 2) : Nat))]))) wB (sB _ _ hpp4)
    have bC := SqB.put (o := (.ins CR dx (putF "is_short" (.bl (ws.all fun w => decide (Fr.rnd w = w))) [("words", .ref tw), ("letters", .ref tl), ("many", .int (ws.flatten.length : Nat)), ("bands", .int ((ws.flatten.length / 2) : Nat))]))) bB (sB _ _ hpp4)
    obtain ⟨HC, eHC⟩ : ∃ H', H' = L2.upd HB p (.ins CR dx (putF "is_short" (.bl (ws.all fun w => decide (Fr.rnd w = w))) [("words", .ref tw), ("letters", .ref tl), ("many", .int (ws.flatten.length : Nat)), ("bands", .int ((ws.flatten.length / 2) : Nat))])) := ⟨_, rfl⟩
    rw [← eHC] at hpp5 s0C wC bC ⊢
    clear eHC
    have sqC := s0C.seq hS
    have WC : Wds K C HC xs ws := hW.same s0C
    try dsimp only
    refine sq_fld ?_
    refine cb_lc2 ?_
    refine ⟨_, rfl, a, _, rfl, sqC, ?_⟩
    refine lc2_out (walk_enum (xs := xs.map V.ref)) (fun i => iv (List.replicate (ws.getD i []).length ((0 + i : Nat) : Int))) (fun H s => s.seq sqC) ?_ ?_
    · rintro i x D3 H H' hi ⟨T3, y1, y2, rfl, hT, rfl, e1, hx⟩ hD sm hDD Nx kN
      cases e1
      have hx : (xs.map V.ref)[i]? = some y2 := hx
      obtain ⟨q, hq, rfl⟩ : ∃ q, xs[i]? = some q ∧ y2 = V.ref q := by
        rw [List.getElem?_map] at hx
        cases e : xs[i]? with
        | none => rw [e] at hx; cases hx
        | some q => rw [e] at hx; exact ⟨q, rfl, (Option.some.inj hx).symm⟩
      obtain ⟨u, hu, Wq⟩ := WC.at hq
      have eu : ws.getD i [] = u := by rw [List.getD_eq_getElem?_getD, hu]; rfl
      have sT := same_upd (o := .tup [.int (i : Nat), .ref q]) hT
      have smT := sm.trans sT
      obtain ⟨dx1, tl1, tk, ks, w1, w2, _⟩ := Wq
      have hft := flat_take hu
      refine ⟨T3, _, rfl, SqT.of upd_same, rfl, _, _, rfl, _, _, rfl, rfl, ?_⟩
      refine ⟨rfl, yes_te ?_⟩
      refine ⟨_, rfl, q, C, dx1, _, _, rfl, smT _ _ w1, T.cl, T.nL, wf_letters, tl1, rfl, ⟨_, WR.Same.seqT smT w2.sq⟩, ?_⟩
      refine lc2_in (walk_tup (xs := iv u)) (fun _ => .int ((0 + i : Nat) : Int)) hD smT (sT _ _ hDD) ?_ (fun H s => WR.Same.seqT s w2.sq) ?_ ?_
      · have el : ∀ j, j ≤ ws.length → (((List.range j).map fun i => iv (List.replicate (ws.getD i []).length ((0 + i : Nat) : Int))).flatten).length = (ws.take j).flatten.length := by
          intro j
          induction j with
          | zero => intro _; rfl
          | succ j ih =>
            intro hj
            have ej : ws[j]? = some (ws.getD j []) := by
              rw [List.getD_eq_getElem?_getD, List.getElem?_eq_getElem (show j < ws.length by omega)]
              rfl
            rw [List.range_succ, List.map_append, List.flatten_append, List.length_append, ih (by omega), List.take_succ_eq_append_getElem (show j < ws.length by omega), List.flatten_append, List.length_append]
            simp only [List.map_cons, List.map_nil, List.flatten_cons, List.flatten_nil, List.append_nil, List.length_map, List.length_replicate]
            rw [List.getD_eq_getElem?_getD, List.getElem?_eq_getElem (show j < ws.length by omega)]
            rfl
        rw [el i (by have := (List.getElem?_eq_some_iff.mp hu).1; omega), List.length_map]
        omega
      · intro y hy H2 s2 Qy ky Qn
        refine ⟨rfl, yes_te ⟨_, rfl, ?_⟩⟩
        have := ky H2 (fun _ _ e => e)
        rw [Nat.zero_add] at this
        exact this
      · intro H2 s2 h2
        refine kN H2 s2 ?_
        rw [h2, eu]
        congr 3
        unfold iv
        rw [List.map_map, List.map_replicate]
        exact List.map_const ..
    intro D3 HD hD3 sD hDD
    rw [List.length_map, lxw, hm_to ws 0] at hDD
    have s0D := s0C.trans sD
    refine ⟨D3, _, rfl, .inl ⟨SqL.of hDD, fun th HE sE BE => ?_⟩⟩
    have s0E := s0D.trans sE
    have sCE := sD.trans sE
    have wE := SqB.same sCE wC
    have bE := SqB.same sCE bC
    refine ⟨_, rfl, p, CR, dx, _, rfl, sCE _ _ hpp5, TC.cl, TC.n6, (by show 5 < 1000; decide), ?_⟩
    have hpp6 : L2.upd HE p (.ins CR dx (putF "homes" (.ref th) [("words", .ref tw), ("letters", .ref tl), ("many", .int (ws.flatten.length : Nat)), ("bands", .int ((ws.flatten.length / 2) : Nat)), ("is_short", .bl (ws.all fun w => decide (Fr.rnd w = w)))])) p = some (.ins CR dx [("words", .ref tw), ("letters", .ref tl), ("many", .int (ws.flatten.length : Nat)), ("bands", .int ((ws.flatten.length / 2) : Nat)), ("is_short", .bl (ws.all fun w => decide (Fr.rnd w = w))), ("homes", .ref th)]) := by rw [upd_same, pr6]
    have s0F := same_put (o := (.ins CR dx (putF "homes" (.ref th) [("words", .ref tw), ("letters", .ref tl), ("many", .int (ws.flatten.length : Nat)), ("bands", .int ((ws.flatten.length / 2) : Nat)), ("is_short", .bl (ws.all fun w => decide (Fr.rnd w = w)))]))) s0E p0
    have wF := SqB.put (o := (.ins CR dx (putF "homes" (.ref th) [("words", .ref tw), ("letters", .ref tl), ("many", .int (ws.flatten.length : Nat)), ("bands", .int ((ws.flatten.length / 2) : Nat)), ("is_short", .bl (ws.all fun w => decide (Fr.rnd w = w)))]))) wE (sCE _ _ hpp5)
    have bF := SqB.put (o := (.ins CR dx (putF "homes" (.ref th) [("words", .ref tw), ("letters", .ref tl), ("many", .int (ws.flatten.length : Nat)), ("bands", .int ((ws.flatten.length / 2) : Nat)), ("is_short", .bl (ws.all fun w => decide (Fr.rnd w = w)))]))) bE (sCE _ _ hpp5)
    have tF := SqB.put (o := (.ins CR dx (putF "homes" (.ref th) [("words", .ref tw), ("letters", .ref tl), ("many", .int (ws.flatten.length : Nat)), ("bands", .int ((ws.flatten.length / 2) : Nat)), ("is_short", .bl (ws.all fun w => decide (Fr.rnd w = w)))]))) BE (sCE _ _ hpp5)
    obtain ⟨HF, eHF⟩ : ∃ H', H' = L2.upd HE p (.ins CR dx (putF "homes" (.ref th) [("words", .ref tw), ("letters", .ref tl), ("many", .int (ws.flatten.length : Nat)), ("bands", .int ((ws.flatten.length / 2) : Nat)), ("is_short", .bl (ws.all fun w => decide (Fr.rnd w = w)))])) := ⟨_, rfl⟩
    rw [← eHF] at hpp6 s0F wF bF tF ⊢
    clear eHF
    refine ⟨_, rfl, a, xs, ws, rfl, s0F.seq hS, hW.same s0F, l4, hne, l24, fun tn HG sG BG => ?_⟩
    have s0G := s0F.trans sG
    have wG := SqB.same sG wF
    have bG := SqB.same sG bF
    have tG := SqB.same sG tF
    refine ⟨_, rfl, p, CR, dx, _, rfl, sG _ _ hpp6, TC.cl, TC.n7, (by show 6 < 1000; decide), ?_⟩
    have hpp7 : L2.upd HG p (.ins CR dx (putF "nexts" (.ref tn) [("words", .ref tw), ("letters", .ref tl), ("many", .int (ws.flatten.length : Nat)), ("bands", .int ((ws.flatten.length / 2) : Nat)), ("is_short", .bl (ws.all fun w => decide (Fr.rnd w = w))), ("homes", .ref th)])) p = some (.ins CR dx (rf tw tl ws.flatten.length (ws.flatten.length / 2) (ws.all fun w => decide (Fr.rnd w = w)) th tn)) := by rw [upd_same, pr7]
    have s0I := same_put (o := (.ins CR dx (putF "nexts" (.ref tn) [("words", .ref tw), ("letters", .ref tl), ("many", .int (ws.flatten.length : Nat)), ("bands", .int ((ws.flatten.length / 2) : Nat)), ("is_short", .bl (ws.all fun w => decide (Fr.rnd w = w))), ("homes", .ref th)]))) s0G p0
    have wI := SqB.put (o := (.ins CR dx (putF "nexts" (.ref tn) [("words", .ref tw), ("letters", .ref tl), ("many", .int (ws.flatten.length : Nat)), ("bands", .int ((ws.flatten.length / 2) : Nat)), ("is_short", .bl (ws.all fun w => decide (Fr.rnd w = w))), ("homes", .ref th)]))) wG (sG _ _ hpp6)
    have bI := SqB.put (o := (.ins CR dx (putF "nexts" (.ref tn) [("words", .ref tw), ("letters", .ref tl), ("many", .int (ws.flatten.length : Nat)), ("bands", .int ((ws.flatten.length / 2) : Nat)), ("is_short", .bl (ws.all fun w => decide (Fr.rnd w = w))), ("homes", .ref th)]))) bG (sG _ _ hpp6)
    have tI := SqB.put (o := (.ins CR dx (putF "nexts" (.ref tn) [("words", .ref tw), ("letters", .ref tl), ("many", .int (ws.flatten.length : Nat)), ("bands", .int ((ws.flatten.length / 2) : Nat)), ("is_short", .bl (ws.all fun w => decide (Fr.rnd w = w))), ("homes", .ref th)]))) tG (sG _ _ hpp6)
    have nI := SqB.put (o := (.ins CR dx (putF "nexts" (.ref tn) [("words", .ref tw), ("letters", .ref tl), ("many", .int (ws.flatten.length : Nat)), ("bands", .int ((ws.flatten.length / 2) : Nat)), ("is_short", .bl (ws.all fun w => decide (Fr.rnd w = w))), ("homes", .ref th)]))) BG (sG _ _ hpp6)
    obtain ⟨HI, eHI⟩ : ∃ H', H' = L2.upd HG p (.ins CR dx (putF "nexts" (.ref tn) [("words", .ref tw), ("letters", .ref tl), ("many", .int (ws.flatten.length : Nat)), ("bands", .int ((ws.flatten.length / 2) : Nat)), ("is_short", .bl (ws.all fun w => decide (Fr.rnd w = w))), ("homes", .ref th)])) := ⟨_, rfl⟩
    rw [← eHI] at hpp7 s0I wI bI tI nI ⊢
    clear eHI
    exact k HI s0I ⟨dx, tw, tl, th, tn, hpp7, wI, hW.same s0I, bI, tI, nI⟩
end
end W33
set_option Elab.async false
set_option linter.all false
set_option maxRecDepth 100000
set_option maxHeartbeats 2000000
/-! t == u of tuples, whatever their items' == answers. -/
namespace TE
open PySem PySem.SeqAt PySem.Spec PyProof.Rows
open AutoSeq1 (wpAny_loadPart')
section
variable {P : Program} {w : World} {A : Around} {R : Result → Shared → Prop}
/-- the whole answer -/
abbrev ans (xs ys : Array Value) (e : Nat → Bool) : Bool := (List.range (min xs.size ys.size)).all e && xs.size == ys.size
theorem tup_eq (l b : Addr) (xs ys : Array Value) (n k : Nat) (d1 d2 : Option Addr) (o1 o2 : Array (Option Value)) (e : Nat → Bool) (I : Nat → Shared → Prop)
    (step : ∀ i (h1 : i < xs.size) (h2 : i < ys.size) t, I i t → wpAny (model P w) A.in1 (eqBool xs[i] ys[i]) (fun r t' => r = e i ∧ I (i + 1) t') (fun x t' => R (.error x) t') t)
    (out : ∀ i t, I i t → R (.ok (.ret (.bool (ans xs ys e)))) t) {s : Shared} (at1 : s.heap.get? l = some { cls := .type "tuple", dict := d1, data := .seq xs n, slots := o1 }) (at2 : s.heap.get? b = some { cls := .type "tuple", dict := d2, data := .seq ys k, slots := o2 }) (start : I 0 s) :
    wpAny (model P w) A.in1 (Builtin.«tuple.__eq__» ⟨[.ref l, .ref b], []⟩) (GQ.FinOf P w A R) (fun x t => R (.error x) t) s := by
  have sub := AutoSeq1.sub_tuple_tuple
  have len : (xs.toList.zip ys.toList).length = min xs.size ys.size := by simp
  have i0 := start
  obtain ⟨hp, g, d, tk, os⟩ := s
  wp_walk using wpAny_loadPart' at1, wpAny_loadPart' at2, wpAny_forIn_list _ (fun rest b t => b.1 = none ∧ ∃ i, rest = (xs.toList.zip ys.toList).drop i ∧ (∀ j, j < i → j < min xs.size ys.size → e j = true) ∧ I i t) _
  case turn =>
    rintro ⟨y, x⟩ rest b t ⟨hb, i, hz, before, it⟩
    have lt : i < (xs.toList.zip ys.toList).length := Nat.lt_of_not_le fun h' => by
      rw [List.drop_of_length_le h'] at hz
      cases hz
    have lm : i < min xs.size ys.size := len ▸ lt
    have h1 : i < xs.size := by omega
    have h2 : i < ys.size := by omega
    rw [List.drop_eq_getElem_cons lt] at hz
    obtain ⟨pq, more⟩ := List.cons.inj hz
    obtain rfl : y = xs[i] := by simpa using congrArg Prod.fst pq
    obtain rfl : x = ys[i] := by simpa using congrArg Prod.snd pq
    refine wpAny_bind (wpAny_mono (step i h1 h2 t it) (fun r t2 q => ?_) fun _ _ z => z)
    obtain ⟨rfl, it2⟩ := q
    cases he : e i with
    | true =>
      wp_walk
      refine ⟨rfl, i + 1, more, fun j hj lj => ?_, it2⟩
      rcases Nat.lt_succ_iff_lt_or_eq.mp hj with h | rfl
      · exact before j h lj
      · exact he
    | false =>
      wp_walk
      have no : ans xs ys e = false := by
        have : (List.range (min xs.size ys.size)).all e = false := List.all_eq_false.mpr ⟨i, List.mem_range.mpr lm, by rw [he]; decide⟩
        rw [ans, this, Bool.false_and]
      have := out _ _ it2
      rw [no] at this
      exact this
  case fin =>
    rintro ⟨b1, b2⟩ t ⟨hb, i, hz, before, it⟩
    simp only at hb
    subst hb
    have ge : min xs.size ys.size ≤ i := Nat.le_of_not_lt fun h => by
      rw [List.drop_eq_getElem_cons (len ▸ h)] at hz
      cases hz
    have yes : (List.range (min xs.size ys.size)).all e = true := List.all_eq_true.mpr fun j hj => before j (by have := List.mem_range.mp hj; omega) (List.mem_range.mp hj)
    have fin := out _ _ it
    rw [ans, yes, Bool.true_and] at fin
    wp_walk
    simpa [Builtin.Tuple.tupleCompareSizes] using fin
  case h => exact ⟨rfl, 0, rfl, fun j hj => absurd hj (Nat.not_lt_zero j), i0⟩
end
end TE
set_option Elab.async false
set_option linter.all false
set_option maxRecDepth 100000
set_option maxHeartbeats 1000000
namespace W33
open PySem L2 PySem.Spec PyProof.Rows WR WB
/-! ### tuples of words, held against one another -/
section
variable {X : Cx} {C : Addr} {pins : List (Addr × Obj)} {σ : L2.St} {H : Hp} {s : Shared}
theorem vals_ints_inj : ∀ {ns ms : List Int} {us : List Value}, Vals (iv ns) us → Vals (iv ms) us → ns = ms
  | [], [], _, _, _ => rfl
  | [], _ :: _, _, .nil, h => nomatch h
  | _ :: _, [], _, h, .nil => nomatch h
  | n :: ns, m :: ms, _, .cons h1 t1, h2 => by
    cases h2 with
    | cons h3 t3 =>
      obtain ⟨t, rfl⟩ := h1
      obtain ⟨t', e⟩ := h3
      cases e
      rw [vals_ints_inj t1 t3]
theorem word_inj (I : Inv X pins σ H s) {p : Addr} {ns ms : List Int} (h1 : WordAt X.K C H p ns) (h2 : WordAt X.K C H p ms) : ns = ms := by
  obtain ⟨dx, tl, tk, ks, a1, a2, _⟩ := h1
  obtain ⟨dy, ul, uk, js, b1, b2, _⟩ := h2
  have e := Option.some.inj (a1.symm.trans b1)
  injection e with _ _ ef
  have et : tl = ul := by
    have := List.cons.inj ef
    have := Prod.mk.inj this.1
    injection this.2
  subst et
  obtain ⟨its, v1, ⟨o1, g1, _, n1, d1⟩, _⟩ := I.tuple a2.sq
  obtain ⟨its2, v2, ⟨o2, g2, _, n2, d2⟩, _⟩ := I.tuple b2.sq
  have eo := Option.some.inj (g1.symm.trans g2)
  subst eo
  have ei : its = its2 := by
    have := d1.symm.trans d2
    injection this with this
    simpa using this
  subst ei
  exact vals_ints_inj v1 v2
theorem rcW (M : EqW X.prog X.w X.K X.mg X.base C) {A : Around} (sb : Sub X 1 A) (I : Inv X pins σ H s) {a b : Addr} {ns ms : List Int} (W1 : WordAt X.K C H a ns) (W2 : WordAt X.K C H b ms) :
    wpAny (model X.prog X.w) A (richCompare .Eq (.ref a) (.ref b)) (fun r s' => r = .bool (decide (ns = ms)) ∧ Inv X pins σ H s') X.xe s := by
  obtain ⟨f, fd, F, hs, hf, hb⟩ := M.ex
  obtain ⟨dx, tl, tk, ks, ha, _⟩ := id W1
  obtain ⟨dx', tl', tk', ks', hb', _⟩ := id W2
  obtain ⟨mA, J, _⟩ := ins_get I.hok ha
  obtain ⟨mB, J', _⟩ := ins_get I.hok hb'
  obtain ⟨od, J, _⟩ := J.look
  obtain ⟨od', J', _⟩ := J'.look
  obtain ⟨m, hF⟩ := I.fr
  refine PySem.W.cmp_K (op := .Eq) (tb := .ref C) sb.room.units0 hF I.ok.mod.kin J J'.type (by simp [PySem.W.notFirst]) hs hf ?_
  have hsp : spEq X.K C [.ref a, .ref b] H (fun v H' => v = .bl (decide (ns = ms)) ∧ H' = H) E0 := ⟨a, b, ns, ms, rfl, W1, W2, rfl, rfl⟩
  have e0 : Env0 X.prog X.w X.K X.mg X.base A X.stack s H := by
    have e := I.env0
    exact ⟨by rw [sb.fr]; exact e.frames, e.mod, e.bs, e.bsz, e.funs, e.frf, e.hok, e.bare⟩
  have hl := F.len _ _ _ _ hsp
  have r2 : Vals [V.ref a, V.ref b] [Value.ref a, Value.ref b] := .cons rfl (.cons rfl .nil)
  refine wpAny_call (codeAny_mono (F.run A X.stack s H ⟨[.ref a, .ref b], []⟩ [.ref a, .ref b] [.ref a, .ref b] _ E0 sb.room e0 (by
    have := hb s [.ref a, .ref b] I.kIn (by simpa using hl)
    simpa using this) r2 hsp) fun r s' hq => ?_)
  cases r with
  | error e => exact pass0 pins σ H s e s' I hq
  | ok fl =>
    cases fl with
    | ret w =>
      obtain ⟨z, H', I', rz, ez, eH⟩ := I.after hq
      subst ez eH
      cases rz
      exact ⟨rfl, I'⟩
    | next => exact False.elim hq
    | brk => exact False.elim hq
    | cont => exact False.elim hq
theorem ebW (M : EqW X.prog X.w X.K X.mg X.base C) {A : Around} (sb : Sub X 1 A) (I : Inv X pins σ H s) {a b : Addr} {ns ms : List Int} (W1 : WordAt X.K C H a ns) (W2 : WordAt X.K C H b ms) :
    wpAny (model X.prog X.w) A (eqBool (.ref a) (.ref b)) (fun r s' => r = decide (ns = ms) ∧ Inv X pins σ H s') X.xe s := by
  by_cases hab : a = b
  · subst hab
    have e := word_inj I W1 W2
    subst e
    exact (SeqAt.EqAt.same (A := A) (s := s) (.ref a)) X.prog X.w X.xe _ ⟨(decide_eq_true rfl).symm, I⟩
  · refine GQ.eqBool_refG hab (wpAny_mono (rcW M sb I W1 W2) (fun v s' q => ⟨_, q.1, rfl, q.2⟩) fun _ _ z => z)
end
def rEqWT (K : PySem.W.Frag) (C : Addr) : R2 := fun x y H Q => ∃ (a b : Addr) (xs ys : List Addr) (ws vs : List (List Int)), x = .ref a ∧ y = .ref b ∧ SqT K H a (xs.map V.ref) ∧ SqT K H b (ys.map V.ref) ∧ Wds K C H xs ws ∧ Wds K C H ys vs ∧ Q (.bl (decide (ws = vs))) H
theorem all_same {ws vs : List (List Int)} {n m : Nat} (hn : n = ws.length) (hm : m = vs.length) : (((List.range (min n m)).all fun i => decide (ws.getD i [] = vs.getD i [])) && n == m) = decide (ws = vs) := by
  subst hn hm
  rw [Bool.eq_iff_iff, Bool.and_eq_true, List.all_eq_true, decide_eq_true_eq, beq_iff_eq]
  constructor
  · rintro ⟨h1, h2⟩
    refine List.ext_getElem h2 fun i a b => ?_
    have := of_decide_eq_true (h1 i (List.mem_range.mpr (by omega)))
    rw [List.getD_eq_getElem?_getD, List.getD_eq_getElem?_getD, List.getElem?_eq_getElem a, List.getElem?_eq_getElem b] at this
    exact this
  · rintro rfl
    exact ⟨fun i _ => decide_eq_true rfl, rfl⟩
section
variable {X : Cx} {C : Addr}
theorem op_eqWT (M : EqW X.prog X.w X.K X.mg X.base C) {j : Nat} (hr : Room j X.A) (hj : 2 ≤ j) : OpR X (compareOp .Eq) (rEqWT X.K C) := by
  intro pins s σ H x y u v Q I rx ry d
  obtain ⟨a, b, xs, ys, ws, vs, rfl, rfl, ha, hb, hW, hV, q⟩ := d
  cases rx
  cases ry
  have rm : Room 2 X.A := hr.mono hj
  obtain ⟨its, r, ⟨⟨cls, dd, data, sl⟩, ho, hc, n, hd⟩, _⟩ := I.tuple ha
  obtain ⟨its2, r2, ⟨⟨cls2, dd2, data2, sl2⟩, ho2, hc2, n2, hd2⟩, _⟩ := I.tuple hb
  simp only at hc hd hc2 hd2
  subst hc hd hc2 hd2
  have l1 : its.toArray.size = ws.length := by rw [List.size_toArray, ← r.length, List.length_map, hW.length]
  have l2 : its2.toArray.size = vs.length := by rw [List.size_toArray, ← r2.length, List.length_map, hV.length]
  have sb : Sub X 1 X.A.in1 := ⟨rm.in1, rfl⟩
  show wpAny (model X.prog X.w) X.A (richCompare .Eq (.ref a) (.ref b)) (EP X pins σ Q) X.xe s
  refine wpAny_richCompare_same_room (op := .Eq) ⟨_, ho, rfl⟩ ⟨_, ho2, rfl⟩ PySem.F.slot_tuple_eq (GQ.call_here PySem.F.slot_tuple_eq ⟨_, ho, rfl⟩ PySem.F.entry_tuple_eq (PySem.F.args_tuple_eq_2 _ _) ?_) rm.units0
  refine TE.tup_eq a b its.toArray its2.toArray n n2 dd dd2 sl sl2 (fun i => decide (ws.getD i [] = vs.getD i [])) (fun _ t => Inv X pins σ H t) (fun i h1 h2 t It => ?_) (fun i t It => ?_) ho ho2 I
  · have k1 : i < xs.length := by rw [hW.length]; omega
    have k2 : i < ys.length := by rw [hV.length]; omega
    obtain ⟨w1, hw1, Wa⟩ := hW.at (List.getElem?_eq_getElem k1)
    obtain ⟨w2, hw2, Wb⟩ := hV.at (List.getElem?_eq_getElem k2)
    obtain ⟨u1, hu1, ru1⟩ := r.get (show (xs.map V.ref)[i]? = some (V.ref xs[i]) by rw [List.getElem?_map, List.getElem?_eq_getElem k1]; rfl)
    obtain ⟨u2, hu2, ru2⟩ := r2.get (show (ys.map V.ref)[i]? = some (V.ref ys[i]) by rw [List.getElem?_map, List.getElem?_eq_getElem k2]; rfl)
    cases ru1
    cases ru2
    have e1 : its.toArray[i] = .ref xs[i] := by
      have := (List.getElem?_eq_some_iff.mp hu1).2
      simpa using this
    have e2 : its2.toArray[i] = .ref ys[i] := by
      have := (List.getElem?_eq_some_iff.mp hu2).2
      simpa using this
    rw [e1, e2, List.getD_eq_getElem?_getD, List.getD_eq_getElem?_getD, hw1, hw2]
    exact ebW M sb It Wa Wb
  · have e : TE.ans its.toArray its2.toArray (fun i => decide (ws.getD i [] = vs.getD i [])) = decide (ws = vs) := all_same l1 l2
    rw [e]
    exact ⟨(fun z => nomatch z), .bl _, H, It, rfl, q⟩
end
end W33
set_option Elab.async false
set_option linter.all false
set_option maxRecDepth 100000
set_option maxHeartbeats 1000000
namespace W33
open PySem L2 PySem.Spec PyProof.Rows WR WB
theorem rf_words {tw tl th tn : Addr} {n b : Nat} {sh : Bool} : (rf tw tl n b sh th tn).lookup ("words" : Str) = some (.ref tw) := by
  unfold rf
  exact lk_eq
theorem rf_letters {tw tl th tn : Addr} {n b : Nat} {sh : Bool} : (rf tw tl n b sh th tn).lookup ("letters" : Str) = some (.ref tl) := by
  unfold rf
  rw [lk_ne (show ¬ (("letters" : Str) = "words") by decide +kernel)]
  exact lk_eq
theorem rf_many {tw tl th tn : Addr} {n b : Nat} {sh : Bool} : (rf tw tl n b sh th tn).lookup ("many" : Str) = some (.int (n : Int)) := by
  unfold rf
  rw [lk_ne (show ¬ (("many" : Str) = "words") by decide +kernel), lk_ne (show ¬ (("many" : Str) = "letters") by decide +kernel)]
  exact lk_eq
theorem rf_bands {tw tl th tn : Addr} {n b : Nat} {sh : Bool} : (rf tw tl n b sh th tn).lookup ("bands" : Str) = some (.int (b : Int)) := by
  unfold rf
  rw [lk_ne (show ¬ (("bands" : Str) = "words") by decide +kernel), lk_ne (show ¬ (("bands" : Str) = "letters") by decide +kernel), lk_ne (show ¬ (("bands" : Str) = "many") by decide +kernel)]
  exact lk_eq
theorem rf_homes {tw tl th tn : Addr} {n b : Nat} {sh : Bool} : (rf tw tl n b sh th tn).lookup ("homes" : Str) = some (.ref th) := by
  unfold rf
  rw [lk_ne (show ¬ (("homes" : Str) = "words") by decide +kernel), lk_ne (show ¬ (("homes" : Str) = "letters") by decide +kernel), lk_ne (show ¬ (("homes" : Str) = "many") by decide +kernel), lk_ne (show ¬ (("homes" : Str) = "bands") by decide +kernel), lk_ne (show ¬ (("homes" : Str) = "is_short") by decide +kernel)]
  exact lk_eq
theorem rf_nexts {tw tl th tn : Addr} {n b : Nat} {sh : Bool} : (rf tw tl n b sh th tn).lookup ("nexts" : Str) = some (.ref tn) := by
  unfold rf
  rw [lk_ne (show ¬ (("nexts" : Str) = "words") by decide +kernel), lk_ne (show ¬ (("nexts" : Str) = "letters") by decide +kernel), lk_ne (show ¬ (("nexts" : Str) = "many") by decide +kernel), lk_ne (show ¬ (("nexts" : Str) = "bands") by decide +kernel), lk_ne (show ¬ (("nexts" : Str) = "is_short") by decide +kernel), lk_ne (show ¬ (("nexts" : Str) = "homes") by decide +kernel)]
  exact lk_eq
theorem RimsAt.same {K : PySem.W.Frag} {C CR : Addr} {H H' : Hp} {p : Addr} {xs : List Addr} {ws : List (List Int)} (h : RimsAt K C CR H p xs ws) (s : Same H H') : RimsAt K C CR H' p xs ws := by
  obtain ⟨dx, tw, tl, th, tn, h1, h2, h3, h4, h5, h6⟩ := h
  exact ⟨dx, tw, tl, th, tn, s _ _ h1, SqB.same s h2, h3.same s, SqB.same s h4, SqB.same s h5, SqB.same s h6⟩
theorem RimsAt.tyx {K : PySem.W.Frag} {mg : Str → Option Value} {C CR : Addr} {H : Hp} {p : Addr} {xs : List Addr} {ws : List (List Int)} (h : RimsAt K C CR H p xs ws) (T : TxW K mg C) (TC : TxRC K mg CR) : TyX K H (.ref p) (.ref CR) := by
  obtain ⟨dx, tw, tl, th, tn, h1, _⟩ := h
  exact .base (.ins h1 TC.cl TC.ca T.cn T.ct TC.cm)
/-! ### rims made -/
structure MkR (P : Program) (w : World) (K : PySem.W.Frag) (mg : Str → Option Value) (base : Heap) (C CR : Addr) : Prop where
  ex : ∃ (f : Addr) (fd : FuncData), Mk K CR f ∧ FnOk P w K mg base CX0 4 f fd ["self", "words"] (spInitR K C CR) ∧ Binds K fd ["self", "words"] []
section
variable {X : Cx} {C CR : Addr} {p pos : Pos} {e : Expr} {es : List Expr} {t : TA} {j : Nat}
theorem pe_rims {mg : Str → Option Value} (M : MkR X.prog X.w X.K X.mg X.base C CR) (T : TxRC X.K X.mg CR) (hr : Room j X.A) (hkj : 5 ≤ j) (hg : Gl X "Rims") (ha : PA X (e :: es) t)
    (he : starEach (e :: es) X.env = (false, eval e X.env) :: starEach es X.env := by rfl) (hpl : (backTo pos (starEach es X.env)).any (·.1) = false := by rfl) :
    PE X (.Call (.Name "Rims" p) (e :: es) [] pos) (tMake CR (spInitR X.K C CR) [] E0 t) := by
  obtain ⟨f, fd, M, F, hb⟩ := M.ex
  exact pe_make M F (hr.mono hkj) hg T.mgR hb .nil pass0 ha (by decide) he hpl
end
theorem rims_at {K : PySem.W.Frag} {C CR : Addr} {H1 : Hp} {q x dx : Addr} {xs : List Addr} {ws : List (List Int)} {G : Hp → Prop} {E : XK} (nx : H1 x = none) (ndx : H1 dx = none) (hq : SqL K H1 q (xs.map V.ref)) (hW : Wds K C H1 xs ws) (ok : RimOk ws) (k : ∀ H', Same H1 H' → RimsAt K C CR H' x xs ws → G H') :
    spInitR K C CR [.ref x, .ref q] (L2.upd (L2.upd H1 dx (.own x)) x (.ins CR dx [])) (fun v H2 => v = .non ∧ G H2) E := by
  have s0 : Same H1 (L2.upd (L2.upd H1 dx (.own x)) x (.ins CR dx [])) := fun b o e => by
    rw [upd_ne (ne_of_none e nx), upd_ne (ne_of_none e ndx)]
    exact e
  exact ⟨H1, x, dx, q, xs, ws, rfl, s0, nx, upd_same, hq, hW, ok, fun H' s' W' => ⟨rfl, k H' s' W'⟩⟩
/-! ### rims held against one another, and their places -/
abbrev sEqR : Stmt := inClass (top 49) 1
def spEqR (K : PySem.W.Frag) (C CR : Addr) : Sp := fun vs H Q _ => ∃ (p q : Addr) (xs ys : List Addr) (ws us : List (List Int)), vs = [.ref p, .ref q] ∧ RimsAt K C CR H p xs ws ∧ RimsAt K C CR H q ys us ∧ Q (.bl (decide (ws = us))) H
theorem hmF_len : ∀ (ws : List (List Int)) (f : Nat), (hmF f ws).length = ws.flatten.length
  | [], _ => rfl
  | w :: r, f => by
    unfold hmF
    rw [List.length_append, hmF_len r, List.flatten_cons, List.length_append, List.length_replicate]
section
variable {P : Program} {w : World} {K : PySem.W.Frag} {mg : Str → Option Value} {base : Heap} {C CR : Addr}
theorem scEqR : FnScope ["self", "other"] ["self", "other"] (defScope sEqR) := ⟨rfl, rfl, rfl, by decide +kernel, rfl, by decide +kernel, by decide +kernel⟩
theorem ok_eqR {f : Addr} {fd : FuncData} (F : Fun K "__eq__" "Rims.__eq__" sEqR f fd) (T : TxW K mg C) (TC : TxRC K mg CR) (M : EqW P w K mg base C) : FnOk P w K mg base CX0 3 f fd ["self", "other"] (spEqR K C CR) := by
  refine F.ok scEqR (fun vs H Q E h => ?_) (fun cdv A outer s H vs Q E hr h => ?_)
  · obtain ⟨p, q, xs, ys, ws, us, rfl, _⟩ := h
    rfl
  · obtain ⟨p, q, xs, ys, ws, us, rfl, R1, R2, k⟩ := h
    refine ⟨_, pss_one (ps_ret (pe_and (pe_callB call_isi (by rfl) T.isin (by decide +kernel) (pa_cons (pv 1) (pa_cons (pe_glob (v := .ref CR) (by rfl) TC.mgR rfl) pa_nil)))
      (pe_one (pe_cmpR (op_eqWT M hr (by decide)) (pe_fld (pv 0) rfl) (pe_fld (pv 1) rfl) (nomark _))))), ?_⟩
    refine ⟨_, rfl, _, _, _, _, _, rfl, .own CR, R2.tyx T TC, kit_self CR, _, rfl, ?_⟩
    refine iteT ?_
    obtain ⟨dx, tw, tl, th, tn, h1, h2, h3, _⟩ := R1
    obtain ⟨dy, uw, ul, uh, un, g1, g2, g3, _⟩ := R2
    exact ⟨_, rfl, p, CR, dx, _, _, rfl, h1, TC.cl, TC.n1, rf_words, _, rfl, q, CR, dy, _, _, rfl, g1, TC.cl, TC.n1, rf_words, tw, uw, xs, ys, ws, us, rfl, rfl, h2.sq, g2.sq, h3, g3, k⟩
end
end W33
set_option Elab.async false
set_option linter.all false
set_option maxRecDepth 100000
set_option maxHeartbeats 1000000
namespace W33
open PySem L2 PySem.Spec PyProof.Rows WR WB
/-! ### rims == rims, rims != rims -/
structure EqR (P : Program) (w : World) (K : PySem.W.Frag) (mg : Str → Option Value) (base : Heap) (C CR : Addr) : Prop where
  ex : ∃ (f : Addr) (fd : FuncData), FnOk P w K mg base CX0 3 f fd ["self", "other"] (spEqR K C CR) ∧ PySem.W.findIn K (.ref CR) "__eq__" = some (some (.ref f)) ∧ PySem.W.isFn K (.ref f) = true ∧ Binds K fd ["self", "other"] []
def rEqR (K : PySem.W.Frag) (C CR : Addr) : R2 := fun x y H Q => ∃ (p q : Addr) (xs ys : List Addr) (ws us : List (List Int)), x = .ref p ∧ y = .ref q ∧ RimsAt K C CR H p xs ws ∧ RimsAt K C CR H q ys us ∧ Q (.bl (decide (ws = us))) H
section
variable {X : Cx} {C CR : Addr} {pins : List (Addr × Obj)} {σ : L2.St} {H : Hp} {s : Shared}
theorem callEqR (M : EqR X.prog X.w X.K X.mg X.base C CR) {A : Around} (sb : Sub X 3 A) (I : Inv X pins σ H s) {a b : Addr} {xs ys : List Addr} {ws us : List (List Int)} (R1 : RimsAt X.K C CR H a xs ws) (R2 : RimsAt X.K C CR H b ys us) :
    ∃ f : Addr, PySem.W.findIn X.K (.ref CR) "__eq__" = some (some (.ref f)) ∧ PySem.W.isFn X.K (.ref f) = true ∧ wpAny (model X.prog X.w) A (call (.ref f) [.ref a, .ref b]) (fun r s' => r = .bool (decide (ws = us)) ∧ Inv X pins σ H s') X.xe s := by
  obtain ⟨f, fd, F, hs, hf, hb⟩ := M.ex
  refine ⟨f, hs, hf, ?_⟩
  have hsp : spEqR X.K C CR [.ref a, .ref b] H (fun v H' => v = .bl (decide (ws = us)) ∧ H' = H) E0 := ⟨a, b, xs, ys, ws, us, rfl, R1, R2, rfl, rfl⟩
  have e0 : Env0 X.prog X.w X.K X.mg X.base A X.stack s H := by
    have e := I.env0
    exact ⟨by rw [sb.fr]; exact e.frames, e.mod, e.bs, e.bsz, e.funs, e.frf, e.hok, e.bare⟩
  have hl := F.len _ _ _ _ hsp
  have r2 : Vals [V.ref a, V.ref b] [Value.ref a, Value.ref b] := .cons rfl (.cons rfl .nil)
  refine wpAny_call (codeAny_mono (F.run A X.stack s H ⟨[.ref a, .ref b], []⟩ [.ref a, .ref b] [.ref a, .ref b] _ E0 sb.room e0 (by
    have := hb s [.ref a, .ref b] I.kIn (by simpa using hl)
    simpa using this) r2 hsp) fun r s' hq => ?_)
  cases r with
  | error e => exact pass0 pins σ H s e s' I hq
  | ok fl =>
    cases fl with
    | ret w =>
      obtain ⟨z, H', I', rz, ez, eH⟩ := I.after hq
      subst ez eH
      cases rz
      exact ⟨rfl, I'⟩
    | next => exact False.elim hq
    | brk => exact False.elim hq
    | cont => exact False.elim hq
theorem op_eqR (M : EqR X.prog X.w X.K X.mg X.base C CR) {j : Nat} (hr : Room j X.A) (hj : 3 ≤ j) : OpR X (compareOp .Eq) (rEqR X.K C CR) := by
  intro pins s σ H x y u v Q I rx ry d
  obtain ⟨a, b, xs, ys, ws, us, rfl, rfl, R1, R2, hq⟩ := d
  cases rx
  cases ry
  obtain ⟨dx, tw, tl, th, tn, ha, _⟩ := id R1
  obtain ⟨dy, uw, ul, uh, un, hb', _⟩ := id R2
  obtain ⟨mA, J, _⟩ := ins_get I.hok ha
  obtain ⟨mB, J', _⟩ := ins_get I.hok hb'
  obtain ⟨od, J, _⟩ := J.look
  obtain ⟨od', J', _⟩ := J'.look
  obtain ⟨m, hF⟩ := I.fr
  have rm : Room 3 X.A := hr.mono hj
  obtain ⟨f, hs, hf, hc⟩ := callEqR M ⟨rm, rfl⟩ I R1 R2
  show wpAny (model X.prog X.w) X.A (richCompare .Eq (.ref a) (.ref b)) (EP X pins σ Q) X.xe s
  refine PySem.W.cmp_K (op := .Eq) (tb := .ref CR) rm.units0 hF I.ok.mod.kin J J'.type (by simp [PySem.W.notFirst]) hs hf (wpAny_mono hc (fun r s' q => ?_) fun _ _ z => z)
  obtain ⟨rfl, I'⟩ := q
  exact ⟨.bl _, H, I', rfl, hq⟩
end
end W33
set_option Elab.async false
set_option linter.all false
set_option maxRecDepth 100000
set_option maxHeartbeats 1000000
namespace W33
open PySem L2 PySem.Spec PyProof.Rows WR WB
/-! ### str of rims -/
theorem Lts.word {ws : List (List Int)} (h : Lts ws.flatten) {w : List Int} (hw : w ∈ ws) : Lts w := fun x hx => h x (List.mem_flatten.mpr ⟨w, hw, hx⟩)
theorem word_le {ws : List (List Int)} {w : List Int} (hw : w ∈ ws) : w.length ≤ ws.flatten.length := by
  obtain ⟨i, hi, e⟩ := List.mem_iff_getElem.mp hw
  have := flat_take (ws := ws) (i := i) (w := w) (by rw [List.getElem?_eq_getElem hi, e])
  omega
end W33
set_option Elab.async false
set_option linter.all false
set_option maxRecDepth 100000
set_option maxHeartbeats 2000000
/-! enumerate(a tuple), and enumerate of what is a list or a tuple -/
namespace WE
open PySem PySem.W PySem.Spec PyProof.Rows L2
abbrev enObj (j : Addr) : Obj := { cls := .type "enumerate", data := .fields #[.none, .bool false, .ref j, rawInt 0, .none, .none] }
set_option maxHeartbeats 4000000 in
theorem enum_new {v : Value} {o : Obj} {G : Heap → Prop} (B : Begins v o G) :
    Meets (Builtin.«enumerate.__new__» ⟨[.type "enumerate", v], []⟩) (fun _ R t => G t.heap ∧ R (.ok (.ret (.ref (t.heap.push o).objs.size))) { t with heap := (t.heap.push o).push (enObj t.heap.objs.size) }) :=
  .of_wp fun P0 w0 A0 R t k => by
    obtain ⟨hp, gl, dr, tk, os⟩ := t
    obtain ⟨g, k⟩ := k
    have subE := sub_enumerate
    have goes : ∀ {A1 : Around} {E1 : Value → Shared → Prop} {Q1 : Value → Shared → Prop}, Q1 (.ref hp.objs.size) ⟨hp.push o, gl, dr, tk, os⟩ → wpAny (model P0 w0) A1 (pyIter v) Q1 E1 ⟨hp, gl, dr, tk, os⟩ := fun q => B.iter P0 w0 _ _ ⟨hp, gl, dr, tk, os⟩ _ g q
    wp_walk using goes
    refine wpAny_stack_any fun st => wpAny_pure ?_
    split
    · rename_i c _ _ _ _ _
      cases (c == Value.type "enumerate") <;> (wp_walk using goes; exact ⟨_, rfl, k⟩)
    · wp_walk using goes
      exact ⟨_, rfl, k⟩
section
variable {prog : Program} {w : World} {A : Around} {E : Value → Shared → Prop} {s : Shared}
theorem call_enum {v : Value} {o : Obj} {G : Heap → Prop} {Q : Value → Shared → Prop} (B : Begins v o G) (g : G s.heap)
    (k : (s.heap.push o).objs.size = s.heap.objs.size + 1 → IsEnum ((s.heap.push o).push (enObj s.heap.objs.size)) (s.heap.objs.size + 1) s.heap.objs.size 0 .none → Q (.ref (s.heap.objs.size + 1)) { s with heap := (s.heap.push o).push (enObj s.heap.objs.size) }) :
    wpAny (model prog w) A (call (.type "enumerate") [v]) Q E s := by
  refine callType_new F.called_enumerate (by decide) (F.typeCall_enumerate_1 _) (F.newCall_enumerate_1 _) (fun z => F.args_object_init_2 z _) F.entry_enumerate_new (enum_new B) ⟨g, ?_⟩
  have sz : (s.heap.push o).objs.size = s.heap.objs.size + 1 := Heap.size_push ..
  have en : IsEnum ((s.heap.push o).push (enObj s.heap.objs.size)) (s.heap.objs.size + 1) s.heap.objs.size 0 .none := by
    have at_ := Heap.get?_push_size (s.heap.push o) (o := enObj s.heap.objs.size) rfl
    rw [sz] at at_
    exact at_
  show _ ∧ _
  rw [sz]
  exact ⟨⟨_, en, rfl⟩, k sz en⟩
theorem enum_end {e j t : Addr} {i : Nat} {its : Array Value} {old : Value} {Q : Option Value → Shared → Prop} (quiet : A.handled = none) (en : IsEnum s.heap e j i old) (at_ : s.heap.IsTupleIter j t i) (tp : s.heap.IsTuple t its) (no : its[i]? = none)
    (k : ∀ h', Heap.ExtBut j s.heap h' → Q none { s with heap := h' }) : wpAny (model prog w) A (pyNext (.ref e)) Q E s := by
  have ty : s.TypeIs (.ref e) "enumerate" := ⟨_, en, rfl⟩
  unfold pyNext
  refine wpAny_bind (wpAny_attempt (wpAny_callSpecial?_slot (name := Str.ofString "__next__") ty F.slot_enumerate_next (wpAny_call_entry F.slot_enumerate_next ty F.entry_enumerate_next ?_ (F.args_enumerate_next_1 _))))
  show wpAny _ _ (field (.ref e) 2 >>= _) _ _ _
  refine wpAny_bind (wpAny_field en rfl (x := .ref j) rfl (wpAny_bind (wpAny_nextOf_tuple_end quiet at_ tp no fun h' x ext ⟨o, ho, hc⟩ => ?_)))
  exact wpAny_bind (wpAny_isInstance (T := "StopIteration") (b := true) ⟨o, ho, hc⟩ isSubtype_stop (wpAny_pure (k _ ext)))
end
/-- the tuple at a, each item in a new pair -/
def IteT (K : PySem.W.Frag) (a : Addr) : It :=
  ⟨fun i H => ∃ (xs : List V) (x : V), SqT K H a xs ∧ xs[i]? = some x, fun i H v H' => ∃ T x, v = .ref T ∧ H T = none ∧ H' = upd H T (.tup [.int (i : Nat), x]) ∧ ∀ xs, SqT K H a xs → xs[i]? = some x, fun i H => ∃ xs : List V, SqT K H a xs ∧ xs.length ≤ i⟩
theorem apart {h : Heap} {a b : Addr} {x y : String} (h1 : ∃ o, h.get? a = some o ∧ o.cls = .type x) (h2 : ∃ o, h.get? b = some o ∧ o.cls = .type y) (n : x ≠ y) : a ≠ b := by
  rintro rfl
  obtain ⟨o1, e1, c1⟩ := h1
  obtain ⟨o2, e2, c2⟩ := h2
  rw [e1] at e2
  cases e2
  rw [c1] at c2
  injection c2 with c3
  exact n c3
theorem turn_enumT {P : Program} {w : World} {K : PySem.W.Frag} {elts : List Expr} {kk : Nat} {tpos : Pos} (a e j : Addr) :
    Turn P w K (.Tuple elts kk tpos) (IteT K a) [e, j] e (fun i h => (∃ o, IsEnum h e j ((i : Nat) : Int) o) ∧ h.IsTupleIter j a i ∧ e ≠ j) where
  mem := by simp
  obj := fun i h ⟨⟨o1, h1⟩, ⟨o2, h2, c2, d2⟩, _⟩ b hb => by
    rcases List.mem_cons.mp hb with z | z
    · subst z
      exact ⟨_, h1, fun _ q => nomatch q⟩
    · rw [List.mem_singleton.mp z]
      exact ⟨o2, h2, fun _ q => by rw [d2] at q; cases q⟩
  keep := fun i h h' st k => ⟨st.1.imp fun _ z => k e (by simp) _ z, st.2.1.at fun o z => k j (by simp) o z, st.2.2⟩
  item := by
    intro X eP eW eK calm i pins s σ H E I fps st go
    subst eP eW eK
    obtain ⟨⟨o1, h1⟩, h2, ej⟩ := st
    obtain ⟨xs, x, sq, hx⟩ := go
    obtain ⟨its, rv, tp, _⟩ := I.tuple sq
    obtain ⟨u, hu, ru⟩ := rv.get hx
    have in_e : e < s.heap.objs.size := Heap.lt_size h1
    have in_j : j < s.heap.objs.size := by
      obtain ⟨_, q, _⟩ := id h2
      exact Heap.lt_size q
    have ta : ∃ o, s.heap.get? a = some o ∧ o.cls = .type "tuple" := by
      obtain ⟨o, z1, z2, _⟩ := id tp
      exact ⟨o, z1, z2⟩
    have tj : ∃ o, s.heap.get? j = some o ∧ o.cls = .type "tuple_iterator" := by
      obtain ⟨o, z1, z2, _⟩ := id h2
      exact ⟨o, z1, z2⟩
    have aj := apart ta tj (by decide)
    have ea : e ≠ a := apart ⟨_, h1, rfl⟩ ta (by decide)
    have lt : i < its.toArray.size := by
      rw [List.size_toArray]
      exact (List.getElem?_eq_some_iff.mp hu).1
    refine wpAny_pyNext_enum_itemD (Draws.tuple (A := X.A.in1) (I.ok.hd calm) j a aj its.toArray) h1 ⟨h2, tp⟩ lt ej (by simp [ej, ea]) fun y h3 tk hy out at3 new sz kp => ?_
    obtain rfl : u = y := by
      rw [List.getElem?_toArray, hu] at hy
      exact Option.some.inj hy
    refine ⟨_, rfl, wpAny_letOwnedTupleGo_enum (s := { s with heap := h3, toks := tk + 1 }) out fun h4 en4 sb => ?_⟩
    have new4 : h4.get? s.heap.objs.size = some { cls := .type "tuple", data := .seq #[.int i tk, u] } := (sb.2 _ (Nat.ne_of_gt in_e)).trans new
    have ok4 : ObjOk X.prog X.w (upd H s.heap.objs.size (.tup [.int (i : Nat), x])) h4 s.heap.objs.size (.tup [.int (i : Nat), x]) :=
      ⟨Nat.le_trans (by show 2 ≤ 16; decide) (by decide), [.int i tk, u], .cons ⟨_, rfl⟩ (.cons ru .nil), ⟨_, new4, rfl, _, rfl⟩⟩
    have I4 : Inv X pins σ (upd H s.heap.objs.size (.tup [.int (i : Nat), x])) { s with heap := h4, toks := tk + 1 } :=
      I.turnedNew (ch := [e, j]) (fun b ob hb q => (sb.2 b fun z => hb (by simp [z])).trans (kp b ob (fun z => hb (by simp [z])) (fun z => hb (by simp [z])) q)) fps (Nat.le_refl _) ok4
    refine ⟨.ref s.heap.objs.size, _, I4, rfl, ⟨_, x, rfl, I.hok.fresh (Nat.le_refl _), rfl, fun ys hy => ?_⟩, ⟨⟨u, ?_⟩, at3.1.at fun o q => (sb.2 j ej.symm).trans q, ej⟩, fun b hb => ?_⟩
    · rw [I.tuple_inj hy sq]
      exact hx
    · rw [show ((i + 1 : Nat) : Int) = (i : Int) + 1 by omega]
      exact en4
    · have lb : b < s.heap.objs.size := by
        rcases List.mem_cons.mp hb with z | z
        · rw [z]; exact in_e
        · rw [List.mem_singleton.mp z]; exact in_j
      rw [upd_ne (Nat.ne_of_lt lb)]
      exact (fps b hb).1
  done := by
    intro X eP eW eK calm i pins s σ H E I fps st go
    subst eP eW eK
    obtain ⟨⟨o1, h1⟩, h2, ej⟩ := st
    obtain ⟨xs, sq, le⟩ := go
    obtain ⟨its, rv, tp, _⟩ := I.tuple sq
    have ll := rv.length
    obtain ⟨f0, f1, f2, f3, f4, f5⟩ := fps j (by simp)
    exact enum_end (I.ok.hd calm) h1 h2 tp (by rw [List.getElem?_toArray]; exact List.getElem?_eq_none (by omega)) fun h' eb => ⟨rfl, I.turned (t' := s.toks) (fun b o hb q => eb b o hb q) f0 f1 f3 f4 f5⟩
  self := fun A i s Q E st h => let ⟨⟨_, he⟩, _⟩ := st; wpAny_pyIter_enum he h
/-- what is a list or a tuple, by any walk that goes through it -/
def iEnumA (K : PySem.W.Frag) (ta : TA) : TI := fun σ H R => ta σ H fun vs H1 => ∃ a xs, vs = [.ref a] ∧ (SqL K H1 a xs ∨ SqT K H1 a xs) ∧ ∀ J G, Walk J xs.length G (YPair (fun i => some (.int (i : Nat))) (fun i => xs[i]?)) → (∀ H, Same H1 H → G H) → R J H1
theorem walk_enumT {K : PySem.W.Frag} {a : Addr} {xs : List V} : Walk (IteT K a) xs.length (fun H => SqT K H a xs) (YPair (fun i => some (.int (i : Nat))) (fun i => xs[i]?)) := by
  refine ⟨fun i _ lt q => ⟨xs, xs[i], q, List.getElem?_eq_getElem lt⟩, fun _ q => ⟨xs, q, Nat.le_refl _⟩, fun i H v H' _ q y => ?_⟩
  obtain ⟨T, x, h1, h2, h3, h4⟩ := y
  exact ⟨T, .int (i : Nat), x, h1, h2, h3, rfl, h4 xs q⟩
theorem seqL {K : PySem.W.Frag} {H H' : Hp} {a : Addr} {xs : List V} (s : Same H H') (h : SqL K H a xs) : SqL K H' a xs := s.seq h
theorem seqT {K : PySem.W.Frag} {H H' : Hp} {a : Addr} {xs : List V} (s : Same H H') (h : SqT K H a xs) : SqT K H' a xs := WR.Same.seqT s h
theorem pi_enumA {X : Cx} {K : PySem.W.Frag} {e : Expr} {ta : TA} {p pos tpos : Pos} {elts : List Expr} {kk : Nat} (hK : X.K = K) (hg : Gl X "enumerate") (hm : X.mg "enumerate" = none) (ha : PA X [e] ta) (one : starEach [e] X.env = [(false, eval e X.env)] := by rfl) :
    PI X (.Tuple elts kk tpos) (.Call (.Name "enumerate" p) [e] [] pos) (iEnumA K ta) := by
  subst hK
  refine ⟨fun pins s σ H R I h => ?_⟩
  refine Call_ (ld_blt I hg hm boot_enumerate (PyProof.Rows.callWith_type1 (thn (ha.run pos pins s σ H _ I h) fun us s1 ⟨vs, H1, I1, rv, q1⟩ => ?_) one rfl))
  obtain ⟨a, xs, ex, sq, k⟩ := q1
  subst ex
  obtain ⟨u, rfl, ru⟩ := vals1 rv
  cases ru
  have free : ∀ b ∈ [s1.heap.objs.size + 1, s1.heap.objs.size], FpOk X pins H1 b := fun b hb => by
    have ge : s1.heap.objs.size ≤ b := by
      rcases List.mem_cons.mp hb with z | z
      · rw [z]; exact Nat.le_succ _
      · rw [List.mem_singleton.mp z]; exact Nat.le_refl _
    exact I1.fpOk ge (I1.hok.fresh ge)
  rcases sq with sq | sq
  · obtain ⟨its, rw_, pl, _⟩ := I1.list sq
    refine call_enumerate_list pl.isList fun h2 en at_ _ kp => wpAny_pyIter_enum en ?_
    exact ⟨s1.heap.objs.size + 1, [s1.heap.objs.size + 1, s1.heap.objs.size], _, _, H1, rfl, I1.kept (t' := s1.toks) kp, turn_enum a (s1.heap.objs.size + 1) s1.heap.objs.size, ⟨⟨.none, en⟩, at_, Nat.succ_ne_self _⟩, free, k _ _ walk_enum fun _ z => seqL z sq⟩
  · obtain ⟨its, rw_, tp, _⟩ := I1.tuple sq
    refine call_enum (begins_tuple a its.toArray) tp fun sz en => wpAny_pyIter_enum en ?_
    have kp : ∀ b o, s1.heap.get? b = some o → ((s1.heap.push { cls := .type "tuple_iterator", data := .fields #[.ref a, .int 0 0] }).push (enObj s1.heap.objs.size)).get? b = some o := fun b o z => Heap.get?_push_of_some _ (Heap.get?_push_of_some _ z)
    exact ⟨s1.heap.objs.size + 1, [s1.heap.objs.size + 1, s1.heap.objs.size], _, _, H1, rfl, I1.kept (t' := s1.toks) kp, turn_enumT a (s1.heap.objs.size + 1) s1.heap.objs.size, ⟨⟨.none, en⟩, ⟨_, Heap.get?_push_of_some _ (Heap.get?_push_size _ rfl), rfl, rfl⟩, Nat.succ_ne_self _⟩, free, k _ _ walk_enumT fun _ z => seqT z sq⟩
/-- a walk through what is a list or a tuple -/
def iSeqA (K : PySem.W.Frag) (te : TE) : TI := fun σ H R => te σ H fun x H1 => ∃ a xs, x = .ref a ∧ (SqL K H1 a xs ∨ SqT K H1 a xs) ∧ ∀ J G, Walk J xs.length G (YAt xs) → (∀ H, Same H1 H → G H) → R J H1
theorem pi_seqA {X : Cx} {K : PySem.W.Frag} {tg e : Expr} {te : TE} (hK : X.K = K) (he : PE X e te) : PI X tg e (iSeqA K te) := by
  subst hK
  refine ⟨fun pins s σ H R I h => ?_⟩
  refine thn (he.run pins s σ H _ I h) fun v s1 ⟨x, H1, I1, rx, q1⟩ => ?_
  obtain ⟨a, xs, ex, sq, k⟩ := q1
  subst ex
  cases rx
  have free : ∀ b ∈ [s1.heap.objs.size], FpOk X pins H1 b := fun b hb => by
    rw [List.mem_singleton.mp hb]
    exact I1.fpOk (Nat.le_refl _) (I1.hok.fresh (Nat.le_refl _))
  rcases sq with sq | sq
  · obtain ⟨its, _, pl, _⟩ := I1.list sq
    exact wpAny_pyIter_list pl.isList ⟨s1.heap.objs.size, [s1.heap.objs.size], _, _, H1, rfl, I1.kept (t' := s1.toks) fun b o e => Heap.get?_push_of_some _ e, turn_list a _, ⟨_, Heap.get?_push_size _ rfl, rfl, rfl⟩, free, k _ _ walk_list fun _ z => seqL z sq⟩
  · obtain ⟨its, _, pl, _⟩ := I1.tuple sq
    exact wpAny_pyIter_tuple (show s1.heap.IsTuple a its.toArray from pl) ⟨s1.heap.objs.size, [s1.heap.objs.size], _, _, H1, rfl, I1.kept (t' := s1.toks) fun b o e => Heap.get?_push_of_some _ e, turn_tuple a _, ⟨_, Heap.get?_push_size _ rfl, rfl, rfl⟩, free, k _ _ walk_tup fun _ z => seqT z sq⟩
/-- an item of what is a list or a tuple -/
def rIxA (K : PySem.W.Frag) : R2 := fun x y H Q => ∃ p xs i v, x = .ref p ∧ y = .int i ∧ (SqL K H p xs ∨ SqT K H p xs) ∧ atI xs i = some v ∧ Q v H
theorem ixA {X : Cx} {K : PySem.W.Frag} (hK : X.K = K) : IxR X (rIxA K) := by
  subst hK
  intro value slice pins s σ H x y v u Q I rx ry ⟨p, xs, i, w, e1, e2, sq, at_, q⟩ hs
  rcases sq with sq | sq
  · exact ix_list value slice pins s σ H x y v u Q I rx ry ⟨p, xs, i, w, e1, e2, sq, at_, q⟩ hs
  · exact ix_tup value slice pins s σ H x y v u Q I rx ry ⟨p, xs, i, w, e1, e2, sq, at_, q⟩ hs
end WE
set_option Elab.async false
set_option linter.all false
set_option maxRecDepth 100000
set_option maxHeartbeats 1000000
namespace W33
open PySem L2 PySem.Spec PyProof.Rows WR WB WE
/-! ### the corners of a sewing -/
/-- the place behind the mate of a place -/
def nxt (nx mt : List Int) (p : Nat) : Nat := (nx.getD (mt.getD p 0).toNat 0).toNat
/-- on from place to place until one was seen: all that were seen, and those of this corner -/
def orb (nx mt : List Int) : Nat → List Nat → Nat → List Nat → List Nat × List Nat
  | 0, s, _, c => (s, c)
  | k + 1, s, p, c => if p ∈ s then (s, c) else orb nx mt k (p :: s) (nxt nx mt p) (c ++ [p])
def crn (nx mt : List Int) (n : Nat) : Nat → List Nat × List (List Nat)
  | 0 => ([], [])
  | i + 1 => ((orb nx mt (n + 1) (crn nx mt n i).1 i []).1, if (orb nx mt (n + 1) (crn nx mt n i).1 i []).2 = [] then (crn nx mt n i).2 else (crn nx mt n i).2 ++ [(orb nx mt (n + 1) (crn nx mt n i).1 i []).2])
def nats (c : List Nat) : List Int := c.map fun (x : Nat) => (x : Int)
def SeenAt (w : World) (H : Hp) (a : Addr) (s : List Nat) : Prop := ∃ f : Int → Bool, H a = some (SetO w a f s.length) ∧ ∀ j, f j = true ↔ j ∈ nats s
/-- seen places: each once, none too great -/
def SeenOk (n : Nat) (s : List Nat) : Prop := s.Nodup ∧ ∀ x ∈ s, x < n
theorem SeenOk.lt {n : Nat} {s : List Nat} (h : SeenOk n s) {p : Nat} (hp : p < n) (hn : p ∉ s) : s.length < n := by
  have := L2.nat_nodup_len (p :: s) (List.range n) (List.nodup_cons.mpr ⟨hn, h.1⟩) fun x hx => by
    rcases List.mem_cons.mp hx with rfl | hx
    · exact List.mem_range.mpr hp
    · exact List.mem_range.mpr (h.2 x hx)
  rw [List.length_range, List.length_cons] at this
  omega
theorem nxF_rng : ∀ (ws : List (List Int)) (f : Nat), (∀ w ∈ ws, w ≠ []) → ∀ z ∈ nxF f ws, 0 ≤ z ∧ z < ((f + ws.flatten.length : Nat) : Int)
  | [], _, _, z, hz => nomatch hz
  | w :: r, f, hne, z, hz => by
    unfold nxF at hz
    rw [List.flatten_cons, List.length_append]
    rcases List.mem_append.mp hz with hz | hz
    · obtain ⟨t, ht, rfl⟩ := List.mem_map.mp hz
      have hl : 0 < w.length := List.length_pos_iff.mpr (hne w List.mem_cons_self)
      have := Nat.mod_lt (t + 1) hl
      omega
    · have := nxF_rng r (f + w.length) (fun u hu => hne u (List.mem_cons_of_mem _ hu)) z hz
      omega
def CornAt (K : PySem.W.Frag) (H : Hp) (a : Addr) (cs : List (List Nat)) : Prop := ∃ vs, SqB K H a vs ∧ All2 (fun v c => ∃ q, v = V.ref q ∧ SqB K H q (iv (nats c))) vs cs
abbrev sCorn : Stmt := top 57
abbrev nCorn : List Str := ["rims", "mates", "corners", "seen", "start", "corner", "place"]
def MatesOk (n : Nat) (mt : List Int) : Prop := mt.length = n ∧ ∀ z ∈ mt, 0 ≤ z ∧ z < (n : Int)
def spCorn (K : PySem.W.Frag) (C CR : Addr) : Sp := fun vs H Q _ => ∃ (p m : Addr) (xs : List Addr) (ws : List (List Int)) (mt : List Int), vs = [.ref p, .ref m] ∧ RimsAt K C CR H p xs ws ∧ RimOk ws ∧ SqE K H m (iv mt) ∧ MatesOk ws.flatten.length mt ∧
  ∀ q H', Same H H' → CornAt K H' q (crn (nxF 0 ws) mt ws.flatten.length ws.flatten.length).2 → Q (.ref q) H'
theorem SqB.keptL {K : PySem.W.Frag} {H H' : Hp} {l q : Addr} {vs xs : List V} (hl : H l = some (.lst vs)) (d : Kept l H H') (h : SqB K H q xs) : SqB K H' q xs := by
  refine ⟨SqT.keptL hl d h.sq, ?_⟩
  obtain ⟨o, u, e, z⟩ := h.bare
  refine ⟨o, u, d _ _ (fun c => ?_) e, z⟩
  subst c
  rw [hl] at e
  cases e
theorem SqB.keptS {K : PySem.W.Frag} {w : World} {H H' : Hp} {a q : Addr} {f : Int → Bool} {n : Nat} {xs : List V} (hs : H a = some (SetO w a f n)) (d : Kept a H H') (h : SqB K H q xs) : SqB K H' q xs := by
  obtain ⟨o, u, e, z⟩ := h.bare
  have nq : q ≠ a := fun c => by
    rw [c, hs] at e
    cases e
  refine ⟨?_, ⟨o, u, d _ _ nq e, z⟩⟩
  exact h.sq.elim (fun r => .inl (r.elim (fun r => .inl (d _ _ nq r)) fun ⟨o, r⟩ => .inr ⟨o, d _ _ nq r⟩)) fun r => .inr r
theorem orb_in {nx mt : List Int} {k p : Nat} {s c : List Nat} (hk : 0 < k) (h : p ∈ s) : orb nx mt k s p c = (s, c) := by
  cases k with
  | zero => exact absurd hk (by decide)
  | succ k => unfold orb; rw [if_pos h]
theorem orb_out {nx mt : List Int} {k p : Nat} {s c : List Nat} (h : p ∉ s) : orb nx mt (k + 1) s p c = orb nx mt k (p :: s) (nxt nx mt p) (c ++ [p]) := by
  conv => lhs; unfold orb
  rw [if_neg h]
section
variable {P : Program} {w : World} {K : PySem.W.Frag} {mg : Str → Option Value} {base : Heap} {C CR : Addr}
theorem scCorn : FnScope nCorn ["rims", "mates"] (defScope sCorn) := ⟨rfl, rfl, rfl, by decide +kernel, rfl, by decide +kernel, by decide +kernel⟩
theorem ok_corn {f : Addr} {fd : FuncData} (F : Fun K "corners_of" "corners_of" sCorn f fd) (TC : TxRC K mg CR) (TA : TxA mg) (R : TxR mg) (hset : mg "set" = none) : FnOk P w K mg base CX0 1 f fd ["rims", "mates"] (spCorn K C CR) := by
  refine F.ok scCorn (fun vs H Q E h => ?_) (fun cdv A outer s H vs Q E hr h => ?_)
  · obtain ⟨p, m, xs, ws, mt, rfl, _⟩ := h
    rfl
  · obtain ⟨p, m, xs, ws, mt, rfl, R1, ⟨l1, l4, hne, l24, hl, hb⟩, hM, ⟨lm, hm⟩, k⟩ := h
    refine ⟨_, pss_cons (ps_set (i := 2) scCorn.nd rfl (Or.inl rfl) (pe_lst pa_nil))
      (pss_cons (ps_set (i := 3) scCorn.nd rfl (Or.inl rfl) (pe_callTy0 cr_set0 (by rfl) hset (by decide +kernel)))
      (pss_cons (ps_for PassesOwn.never rfl (pi_range1 (by rfl) R.range (pa_cons (pe_fld (pv 0) rfl) pa_nil)) (pg_name (i := 4) scCorn.nd rfl (Or.inl rfl))
        (pss_cons (ps_set (i := 5) scCorn.nd rfl (Or.inl rfl) (pe_lst pa_nil))
        (pss_cons (ps_set (i := 6) scCorn.nd rfl (Or.inl rfl) (pv 4))
        (pss_cons (ps_while PassesOwn.never (pt_cmpR or_snotin (pv 6) (pv 3) (by rfl))
          (pss_cons (ps_expr (pe_sadd (pv 3) (pa_cons (pv 6) pa_nil)))
          (pss_cons (ps_expr (pe_bm PySem.F.plainAttrs_list PySem.F.slot_list_append PySem.F.type_list_append mt_append (pv 5) (pa_cons (pv 6) pa_nil)))
          (pss_one (ps_set (i := 6) scCorn.nd rfl (Or.inl rfl) (pe_ix ix_tup (pe_fld (pv 0) rfl) (pe_ix (ixA (K := K) rfl) (pv 1) (pv 6) (fun _ _ => rfl)) (fun _ _ => rfl)))))))
        (pss_one (ps_if (pt_truth (pv 5) (by intro _; rfl)) (pss_one (ps_expr (pe_bm PySem.F.plainAttrs_list PySem.F.slot_list_append PySem.F.type_list_append mt_append (pv 2) (pa_cons (pe_callTy call_tupB (by rfl) TA.tuple (by decide +kernel) (pa_cons (pv 5) pa_nil)) pa_nil)))) pss_nil))))))
      (pss_one (ps_ret (pe_callTy call_tupB (by rfl) TA.tuple (by decide +kernel) (pa_cons (pv 2) pa_nil)))))), ?_⟩
    obtain ⟨dx, tw, tl, th, tn, h1, h2, h3, h4, h5, h6⟩ := id R1
    obtain ⟨n, en⟩ : ∃ n, n = ws.flatten.length := ⟨_, rfl⟩
    rw [← en] at lm hm k l24
    have hnx : (nxF 0 ws).length = n := by rw [nxF_len, en]
    refine ⟨Nat.zero_le _, fun lc hlc => ?_⟩
    have s1 := same_upd (o := .lst []) hlc
    refine ⟨rfl, fun ss hss => ?_⟩
    have s2 := s1.trans (same_upd (o := SetO w ss (fun _ => false) 0) hss)
    have nss : H ss = none := s1.free hss
    have ncs : lc ≠ ss := fun e => by rw [← e, upd_same] at hss; cases hss
    have gc : L2.upd (L2.upd H lc (.lst [])) ss (SetO w ss (fun _ => false) 0) lc = some (.lst []) := by rw [upd_ne ncs, upd_same]
    have gs : L2.upd (L2.upd H lc (.lst [])) ss (SetO w ss (fun _ => false) 0) ss = some (SetO w ss (fun _ => false) 0) := upd_same
    refine ⟨_, rfl, p, CR, dx, _, _, rfl, s2 _ _ h1, TC.cl, TC.n3, rf_many, _, rfl, by omega, by omega, ?_⟩
    rw [← en]
    refine for_range (lo := 0) (n := ((n : Nat) : Int).toNat) (fun i σ H' => ∃ (v4 v5 v6 : Option V) (vs : List V), σ = [some (.ref p), some (.ref m), some (.ref lc), some (.ref ss), v4, v5, v6] ∧ Same H H' ∧ SeenAt w H' ss (crn (nxF 0 ws) mt n i).1 ∧ SeenOk n (crn (nxF 0 ws) mt n i).1 ∧ H' lc = some (.lst vs) ∧ vs.length ≤ i ∧
        All2 (fun v c => ∃ q, v = V.ref q ∧ SqB K H' q (iv (nats c))) vs (crn (nxF 0 ws) mt n i).2)
      ⟨none, none, none, [], rfl, s2, ⟨fun _ => false, gs, fun j => by simp [crn, nats]⟩, ⟨List.nodup_nil, fun _ h => nomatch h⟩, gc, Nat.le_refl _, .nil⟩ ?_ ?_
    · rintro i σ H3 hi ⟨v4, v5, v6, vs, rfl, sm, hse, hso, hlcs, lvs, hcs⟩
      rw [Int.toNat_natCast] at hi
      refine ⟨Nat.zero_le _, fun lk hlk => ?_⟩
      have kss : ss ≠ lk := fun e => by
        obtain ⟨f, hf, _⟩ := hse
        rw [e, hlk] at hf
        cases hf
      have nlk : H lk = none := sm.free hlk
      refine ⟨_, rfl, ?_⟩
      refine while_by (fun σ H4 => ∃ (k pl : Nat) (s c : List Nat), σ = [some (.ref p), some (.ref m), some (.ref lc), some (.ref ss), some (.int (0 + (i : Nat))), some (.ref lk), some (.int (pl : Int))] ∧ Kept ss H3 H4 ∧ SeenAt w H4 ss s ∧ SeenOk n s ∧ pl < n ∧ H4 lk = some (.lst (iv (nats c))) ∧ c.length ≤ s.length ∧
          orb (nxF 0 ws) mt k s pl c = orb (nxF 0 ws) mt (n + 1) (crn (nxF 0 ws) mt n i).1 i [] ∧ n - s.length < k)
        (fun _ H4 => match H4 lk with | some (.lst xs) => n + 1 - xs.length | _ => 0) ?_ ?_ ?_
      · refine ⟨n + 1, i, (crn (nxF 0 ws) mt n i).1, [], by rw [Int.zero_add]; rfl, fun b o nb e => by rw [upd_ne (ne_of_none e hlk)]; exact e, ?_, hso, hi, upd_same, Nat.zero_le _, rfl, by omega⟩
        obtain ⟨f, hf, hj⟩ := hse
        exact ⟨f, by rw [upd_ne kss]; exact hf, hj⟩
      · rintro σ H4 ⟨kk, pl, s, c, rfl, kp, ⟨f, hf, hj⟩, hok, hpl, hL, lcs, eo, hkk⟩
        have sm4 : Same H H4 := fun b o e => kp b o (fun z => by rw [z, nss] at e; cases e) (sm _ _ e)
        refine ⟨_, rfl, _, rfl, (pl : Int), ss, f, s.length, rfl, rfl, hf, _, rfl, ?_⟩
        have fpl : f (pl : Int) = true ↔ pl ∈ s := by
          rw [hj]
          unfold nats
          rw [List.mem_map]
          constructor
          · rintro ⟨x, hx, e⟩
            have : x = pl := by omega
            exact this ▸ hx
          · intro h
            exact ⟨pl, h, rfl⟩
        by_cases hin : pl ∈ s
        · refine iteF' (by rw [fpl.mpr hin]; rfl) ?_
          rw [orb_in (by omega) hin] at eo
          have f1 : (crn (nxF 0 ws) mt n (i + 1)).1 = s := by
            show (orb (nxF 0 ws) mt (n + 1) (crn (nxF 0 ws) mt n i).1 i []).1 = s
            rw [← eo]
          have f2 : (crn (nxF 0 ws) mt n (i + 1)).2 = if c = [] then (crn (nxF 0 ws) mt n i).2 else (crn (nxF 0 ws) mt n i).2 ++ [c] := by
            show (if (orb (nxF 0 ws) mt (n + 1) (crn (nxF 0 ws) mt n i).1 i []).2 = [] then _ else _ ++ [(orb (nxF 0 ws) mt (n + 1) (crn (nxF 0 ws) mt n i).1 i []).2]) = _
            rw [← eo]
          have hlc4 := kp _ _ ncs hlcs
          obtain ⟨f0, hf0, _⟩ := hse
          have hcs4 : All2 (fun v c => ∃ q, v = V.ref q ∧ SqB K H4 q (iv (nats c))) vs (crn (nxF 0 ws) mt n i).2 := hcs.imp fun _ _ ⟨a, e, r⟩ => ⟨a, e, SqB.keptS hf0 kp r⟩
          refine ⟨_, rfl, _, .inl ⟨_, SqL.of hL, rfl⟩, ?_⟩
          by_cases hc : c = []
          · subst hc
            refine iteF ?_
            refine ⟨_, _, _, vs, rfl, sm4, ?_, ?_, hlc4, by omega, ?_⟩
            · rw [f1]
              exact ⟨f, hf, hj⟩
            · rw [f1]
              exact hok
            · rw [f2, if_pos rfl]
              exact hcs4
          · have hne' : (iv (nats c)).isEmpty = false := by
              cases c with
              | nil => exact absurd rfl hc
              | cons => rfl
            refine iteT' (by rw [hne']; rfl) ?_
            refine ⟨_, rfl, .inl ⟨rfl, _, SqL.of hlc4⟩, _, rfl, lk, _, rfl, .inl ⟨SqL.of hL, fun q H5 s5 B5 => ?_⟩⟩
            have hlc5 := s5 _ _ hlc4
            refine ⟨lc, _, _, rfl, rfl, hlc5, Evl.sz_lt (by omega), ?_⟩
            have kc : Kept lc H5 (L2.upd H5 lc (.lst (vs ++ [.ref q]))) := Kept.upd
            refine ⟨_, _, _, vs ++ [.ref q], rfl, same_put (sm4.trans s5) hlc, ?_, ?_, upd_same, by rw [List.length_append]; show vs.length + 1 ≤ i + 1; omega, ?_⟩
            · rw [f1]
              exact ⟨f, kc _ _ ncs.symm (s5 _ _ hf), hj⟩
            · rw [f1]
              exact hok
            · rw [f2, if_neg hc]
              refine All2.app (hcs4.imp fun _ _ ⟨a, e, r⟩ => ⟨a, e, SqB.keptL hlc5 kc (SqB.same s5 r)⟩) (.cons ⟨q, rfl, SqB.keptL hlc5 kc B5⟩ .nil)
        · have ff : f (pl : Int) = false := by
            cases e : f (pl : Int) with
            | false => rfl
            | true => exact absurd (fpl.mp e) hin
          have hsl := hok.lt hpl hin
          refine iteT' (by rw [ff]; rfl) ?_
          refine ⟨_, rfl, ⟨ss, f, _, rfl, hf⟩, _, rfl, ss, (pl : Int), f, s.length, rfl, rfl, hf, ?_, ?_⟩
          · exact Nat.lt_of_le_of_lt (show s.length + 1 ≤ 64 by omega) (by decide)
          rw [ff]
          have hL5 : L2.upd H4 ss (SetO w ss (fun j => f j || decide (j = (pl : Int))) (s.length + 1)) lk = some (.lst (iv (nats c))) := by
            rw [upd_ne kss.symm]
            exact hL
          have kp5 : Kept ss H3 (L2.upd H4 ss (SetO w ss (fun j => f j || decide (j = (pl : Int))) (s.length + 1))) := kp.trans Kept.upd
          have hs5 : L2.upd H4 ss (SetO w ss (fun j => f j || decide (j = (pl : Int))) (s.length + 1)) ss = some (SetO w ss (fun j => f j || decide (j = (pl : Int))) (s.length + 1)) := upd_same
          obtain ⟨H5, e5⟩ : ∃ H5, H5 = L2.upd H4 ss (SetO w ss (fun j => f j || decide (j = (pl : Int))) (s.length + 1)) := ⟨_, rfl⟩
          try dsimp only
          rw [if_neg Bool.false_ne_true]
          show tSeq _ _ _ _ (L2.upd H4 ss (SetO w ss (fun j => f j || decide (j = (pl : Int))) (s.length + 1)))
          rw [← e5]
          rw [← e5] at hL5 kp5 hs5
          refine ⟨_, rfl, .inl ⟨rfl, _, SqL.of hL5⟩, _, rfl, lk, _, _, rfl, rfl, hL5, Evl.sz_lt (by unfold nats; rw [List.length_map, List.length_map]; omega), ?_⟩
          have kp6 : Kept ss H3 (L2.upd H5 lk (.lst (iv (nats c) ++ [.int (pl : Int)]))) := fun b o nb e => by
            rw [upd_ne (ne_of_none e hlk)]
            exact kp5 b o nb e
          have hs6 : L2.upd H5 lk (.lst (iv (nats c) ++ [.int (pl : Int)])) ss = some (SetO w ss (fun j => f j || decide (j = (pl : Int))) (s.length + 1)) := by
            rw [upd_ne kss]
            exact hs5
          have hL6 : L2.upd H5 lk (.lst (iv (nats c) ++ [.int (pl : Int)])) lk = some (.lst (iv (nats (c ++ [pl])))) := by
            rw [upd_same]
            unfold iv nats
            rw [List.map_append, List.map_append]
            rfl
          obtain ⟨H6, e6⟩ : ∃ H6, H6 = L2.upd H5 lk (.lst (iv (nats c) ++ [.int (pl : Int)])) := ⟨_, rfl⟩
          rw [← e6] at kp6 hs6 hL6 ⊢
          have sm6 : Same H H6 := fun b o e => kp6 b o (fun z => by rw [z, nss] at e; cases e) (sm _ _ e)
          have lpm : pl < mt.length := by omega
          obtain ⟨m0, m1⟩ := hm _ (List.getElem_mem lpm)
          have lmn : mt[pl].toNat < (nxF 0 ws).length := by omega
          obtain ⟨x0, x1⟩ := nxF_rng ws 0 hne _ (List.getElem_mem lmn)
          rw [Nat.zero_add, ← en] at x1
          have enx : nxt (nxF 0 ws) mt pl = ((nxF 0 ws)[mt[pl].toNat]).toNat := by
            unfold nxt
            rw [List.getD_eq_getElem?_getD, List.getD_eq_getElem?_getD, List.getElem?_eq_getElem lpm]
            show ((nxF 0 ws)[mt[pl].toNat]?.getD 0).toNat = _
            rw [List.getElem?_eq_getElem lmn]
            rfl
          have em : mt[pl] = ((mt[pl].toNat : Nat) : Int) := by omega
          refine ⟨_, rfl, p, CR, dx, _, _, rfl, sm6 _ _ h1, TC.cl, TC.n7, rf_nexts, _, rfl, _, rfl, m, _, _, _, rfl, rfl, hM.same sm6, atI_nat (iv_get (List.getElem?_eq_getElem lpm)), tn, _, _, _, rfl, rfl, (SqB.same sm6 h6).sq, (by rw [em]; exact atI_nat (iv_get (List.getElem?_eq_getElem lmn))), ?_⟩
          refine at_set ?_
          obtain ⟨k', rfl⟩ : ∃ k', kk = k' + 1 := ⟨kk - 1, by omega⟩
          have eo' := (orb_out hin).symm.trans eo
          have ex : ((nxt (nxF 0 ws) mt pl : Nat) : Int) = (nxF 0 ws)[mt[pl].toNat] := by
            rw [enx]
            omega
          refine ⟨⟨k', nxt (nxF 0 ws) mt pl, pl :: s, c ++ [pl], by rw [ex]; rfl, kp6, ⟨_, hs6, fun j => ?_⟩, ⟨List.nodup_cons.mpr ⟨hin, hok.1⟩, fun x hx => ?_⟩, by omega, hL6, ?_, eo', ?_⟩, ?_⟩
          · rw [Bool.or_eq_true, decide_eq_true_eq, hj]
            show _ ↔ j ∈ (pl : Int) :: nats s
            rw [List.mem_cons]
            exact or_comm
          · rcases List.mem_cons.mp hx with rfl | hx
            · exact hpl
            · exact hok.2 x hx
          · rw [List.length_append, List.length_cons]
            show c.length + 1 ≤ s.length + 1
            omega
          · rw [List.length_cons]
            omega
          · show (match H6 lk with | some (.lst xs) => n + 1 - xs.length | _ => 0) < (match H4 lk with | some (.lst xs) => n + 1 - xs.length | _ => 0)
            rw [hL6, hL]
            show n + 1 - (iv (nats (c ++ [pl]))).length < n + 1 - (iv (nats c)).length
            unfold iv nats
            simp only [List.length_map, List.length_append, List.length_cons, List.length_nil]
            omega
      · rintro σ H4 Q Q' hh ⟨v, e1, u, e2, kk, a, S, n', ex, ey, hs, c, ec, q⟩
        exact ⟨v, e1, u, e2, kk, a, S, n', ex, ey, hs, c, ec, hh c H4 q⟩
    · rintro σ H3 ⟨v4, v5, v6, vs, rfl, sm, _, _, hlcs, lvs, hcs⟩
      rw [Int.toNat_natCast] at hcs
      refine ⟨_, rfl, lc, _, rfl, .inl ⟨SqL.of hlcs, fun q H4 s4 B4 => ?_⟩⟩
      exact k q H4 (sm.trans s4) ⟨vs, B4, hcs.imp fun _ _ ⟨a, e, r⟩ => ⟨a, e, SqB.same s4 r⟩⟩
end
end W33
set_option Elab.async false
set_option linter.all false
set_option maxRecDepth 100000
set_option maxHeartbeats 1000000
namespace W33
open PySem L2 PySem.Spec PyProof.Rows WR WB WE
/-! ### mates that are mates -/
abbrev sAreI : Stmt := top 19
abbrev sPaired : Stmt := top 21
abbrev sAreM : Stmt := top 56
abbrev sNeedR : Stmt := top 46
/-- each place and its mate are mates of one another, and not the same -/
def PairOk (n : Nat) (mt : List Int) : Prop := MatesOk n mt ∧ ∀ i (h : i < mt.length), mt[i] ≠ (i : Int) ∧ mt[mt[i].toNat]? = some (i : Int)
/-- mates bear contrary letters -/
def MatOk (ls mt : List Int) : Prop := PairOk ls.length mt ∧ ∀ i (h : i < mt.length), ls.getD mt[i].toNat 0 = -ls.getD i 0
def spAreI (K : PySem.W.Frag) : Sp := fun vs H Q _ => ∃ (a : Addr) (ns : List Int), vs = [.ref a] ∧ SqE K H a (iv ns) ∧ ns.length ≤ 1000 ∧ ∀ H', Same H H' → Q (.bl true) H'
def spPaired (K : PySem.W.Frag) : Sp := fun vs H Q _ => ∃ (a : Addr) (mt : List Int) (n : Nat), vs = [.ref a, .int (n : Int)] ∧ SqE K H a (iv mt) ∧ n ≤ 1000 ∧ PairOk n mt ∧ ∀ H', Same H H' → Q (.bl true) H'
def spAreM (K : PySem.W.Frag) : Sp := fun vs H Q _ => ∃ (l a : Addr) (ls mt : List Int), vs = [.ref l, .ref a] ∧ SqB K H l (iv ls) ∧ SqE K H a (iv mt) ∧ ls.length ≤ 1000 ∧ MatOk ls mt ∧ ∀ H', Same H H' → Q (.bl true) H'
def spNeedR (K : PySem.W.Frag) (C CR : Addr) : Sp := fun vs H Q _ => ∃ (p : Addr) (z : V) (xs : List Addr) (ws : List (List Int)), vs = [.ref p, z] ∧ RimsAt K C CR H p xs ws ∧ Q .non H
theorem nx_ret_lc {r : List V → Hp → VK → Prop} {wi : TI} {g : TG} {tt : TT} {te : TE} {vs : List Nat} {D : Ends} {σ : L2.St} {H : Hp} {b1 b2 : L2.St → Hp → Prop} {rt : VK}
    (h : wi σ H fun J H1 => tLc (fun _ H R => R J H) g tt te vs σ H1 fun y H2 => r [y] H2 D.rt) : tNext { nx := tRet (tCB r (tCons (tLc wi g tt te vs) tNil)) D, rt := rt, bk := b1, ct := b2 } σ H := h
theorem lcE {J : It} {G : Hp → Prop} {xs : List V} (wk : Walk J xs.length G (YPair (fun i => some (.int (i : Nat))) (fun i => xs[i]?))) {g : TG} {tt : TT} {te : TE} {vs : List Nat} {σ : L2.St} {H1 : Hp} {Q : VK} (f : Nat → Bool) (v : Nat → V) (hz : xs.length < 40000) (hG : ∀ H, Same H1 H → G H)
    (hs : ∀ i x, xs[i]? = some x → ∀ H, Same H1 H → ∀ T, H T = none → ∀ (Qy : V → Hp → Prop) (Qn : Hp → Prop), (f i = true → ∀ H', Same H H' → Qy (v i) H') → (f i = false → ∀ H', Same H H' → Qn H') →
      g (.ref T) (wipe σ vs) (L2.upd H T (.tup [.int (i : Nat), x])) fun σ2 H2 => wipe σ2 vs = wipe σ vs ∧ tt σ2 H2 fun b H3 => if b = true then te σ2 H3 Qy else Qn H3)
    (hd : ∀ (D : Addr) H', H1 D = none → Same H1 H' → H' D = some (.lst (((List.range xs.length).filter f).map v)) → Q (.ref D) H') : tLc (fun _ H R => R J H) g tt te vs σ H1 Q := by
  intro D hD
  refine lc_it wk (fun i H => Same H1 H ∧ H D = some (.lst (((List.range i).filter f).map v))) ⟨fun b o e => by rw [upd_ne (ne_of_none e hD)]; exact e, upd_same⟩ (fun i H _ q => hG _ q.1) ?_ ?_
  · rintro i x H H' hi q ⟨T, y1, y2, rfl, hT, rfl, e1, hx⟩
    cases e1
    refine hs i y2 hx H q.1 T hT _ _ (fun hf H2 s2 => ⟨_, s2 _ _ q.2, ?_, ?_, ?_⟩) (fun hf H2 s2 => ⟨fun b o e => s2 b o (q.1 b o e), ?_⟩)
    · refine Evl.sz_lt ?_
      rw [List.length_map]
      have := List.length_filter_le f (List.range i)
      rw [List.length_range] at this
      omega
    · intro b o e
      rw [upd_ne (ne_of_none e hD)]
      exact s2 b o (q.1 b o e)
    · rw [upd_same, List.range_succ, List.filter_append, List.map_append, List.filter_cons, if_pos hf]
      rfl
    · rw [List.range_succ, List.filter_append, List.filter_cons, if_neg (by rw [hf]; decide)]
      show H2 D = some (.lst (((List.range i).filter f ++ []).map v))
      rw [List.append_nil]
      exact s2 _ _ q.2
  · intro H q
    exact hd D H hD q.1 q.2
theorem ixt {X : Cx} {K : PySem.W.Frag} (h : X.K = K) : IxR X (rIxT K) := h ▸ ix_tup
section
variable {P : Program} {w : World} {K : PySem.W.Frag} {mg : Str → Option Value} {base : Heap} {C CR : Addr}
theorem scNeedR : FnScope ["value", "part"] ["value", "part"] (defScope sNeedR) := ⟨rfl, rfl, rfl, by decide +kernel, rfl, by decide +kernel, by decide +kernel⟩
theorem ok_needR {f : Addr} {fd : FuncData} (F : Fun K "need_rims" "need_rims" sNeedR f fd) (T : TxW K mg C) (TC : TxRC K mg CR) : FnOk P w K mg base CX0 1 f fd ["value", "part"] (spNeedR K C CR) := by
  refine F.ok scNeedR (fun vs H Q E h => ?_) (fun cdv A outer s H vs Q E hr h => ?_)
  · obtain ⟨p, z, xs, ws, rfl, _⟩ := h
    rfl
  · obtain ⟨p, z, xs, ws, rfl, R1, k⟩ := h
    refine ⟨_, pss_one (ps_if (pt_not (pt_val (pe_callB call_isi (by rfl) T.isin (by decide +kernel) (pa_cons (pv 0) (pa_cons (pe_glob (v := .ref CR) (by rfl) TC.mgR rfl) pa_nil))))) (pss_one ps_never) pss_nil), ?_⟩
    exact ⟨_, rfl, _, _, _, _, _, rfl, .own CR, R1.tyx T TC, kit_self CR, _, rfl, iteF k⟩
theorem scAreI : FnScope ["value", "part"] ["value"] (defScope sAreI) := ⟨rfl, rfl, rfl, by decide +kernel, rfl, by decide +kernel, by decide +kernel⟩
theorem ok_areI {f : Addr} {fd : FuncData} (F : Fun K "are_integers" "are_integers" sAreI f fd) (hall : mg "all" = none) (GL : Cal P w K mg base "is_listed" 1 ["value"] (spListE K)) (GI : Cal P w K mg base "is_integer" 1 ["value"] spIsInt) : FnOk P w K mg base CX0 2 f fd ["value"] (spAreI K) := by
  refine F.ok scAreI (fun vs H Q E h => ?_) (fun cdv A outer s H vs Q E hr h => ?_)
  · obtain ⟨a, ns, rfl, _⟩ := h
    rfl
  · obtain ⟨a, ns, rfl, hA, ln, k⟩ := h
    refine ⟨_, pss_one (ps_ret (pe_and (pe_cal GL hr (by decide) (by rfl) (pa_cons (pv 0) pa_nil)) (pe_one (pe_callB (cr_all rfl) (by rfl) hall (by decide +kernel) (pa_cons (pe_lc (own := [("part", 1)]) (g := gName 1) (tt := tYes) rfl scAreI.nd (pi_seqA (K := K) rfl (pv 0))
      (blkOk_by (N := ["value", "part"]) (sc := defScope sAreI) (by decide +kernel)) (fun _ _ _ _ _ => pg_name (i := 1) scAreI.nd rfl (Or.inl rfl)) (fun _ _ _ _ _ => pts_nil)
      (fun _ _ _ _ _ => pe_cal GI hr (by decide) (by rfl) (pa_cons (pv 1) pa_nil))) pa_nil))))), ?_⟩
    refine ⟨_, rfl, a, _, rfl, hA, fun H1 s1 => ⟨_, rfl, iteT ?_⟩⟩
    refine cb_lc ?_
    refine ⟨_, rfl, a, _, rfl, hA.same s1, fun J G wk hG => ?_⟩
    refine lcp wk (fun _ => true) (fun _ => .bl true) (by rw [List.length_map]; omega) hG ?_ ?_
    · intro x hx H2 s2 Qy Qn ky kn
      obtain ⟨i, hi, rfl⟩ := List.mem_map.mp hx
      exact ⟨rfl, yes_te ⟨_, rfl, .int i, _, rfl, .int i, ky rfl H2 (fun _ _ e => e)⟩⟩
    · intro D H2 hD s2 h2
      refine ⟨D, ns.map fun _ => true, rfl, SqL.of (by
        rw [h2, List.filter_eq_self.mpr (fun _ _ => rfl), List.map_map, List.map_map]
        rfl), ?_⟩
      have e : (ns.map fun _ => true).all id = true := by
        rw [List.all_eq_true]
        intro b hb
        obtain ⟨_, _, rfl⟩ := List.mem_map.mp hb
        rfl
      rw [e]
      exact k H2 (s1.trans s2)
theorem scPaired : FnScope ["value", "many", "place", "mate"] ["value", "many"] (defScope sPaired) := ⟨rfl, rfl, rfl, by decide +kernel, rfl, by decide +kernel, by decide +kernel⟩
theorem ok_paired {f : Addr} {fd : FuncData} (F : Fun K "are_paired" "are_paired" sPaired f fd) (TA : TxA mg) (R : TxR mg) (GI : Cal P w K mg base "are_integers" 2 ["value"] (spAreI K)) : FnOk P w K mg base CX0 3 f fd ["value", "many"] (spPaired K) := by
  refine F.ok scPaired (fun vs H Q E h => ?_) (fun cdv A outer s H vs Q E hr h => ?_)
  · obtain ⟨a, mt, n, rfl, _⟩ := h
    rfl
  · obtain ⟨a, mt, n, rfl, hA, hn, ⟨⟨lm, hm⟩, hp⟩, k⟩ := h
    refine ⟨_, pss_cons (ps_if (PW.pt (pw_or (pt_not (pt_val (pe_cal GI hr (by decide) (by rfl) (pa_cons (pv 0) pa_nil)))) (pw_or1 (pt_cmpR op_ne (pe_callB call_len_seq (by rfl) TA.len PySem.boot_len (pa_cons (pv 0) pa_nil)) (pv 1) (nomark _))))) (pss_one (ps_ret pe_bl)) pss_nil)
      (pss_cons (ps_for PassesOwn.never rfl (pi_enumA (K := K) rfl (by rfl) R.enum (pa_cons (pv 0) pa_nil)) (pg_tup (n := 2) rfl (pgs_cons (pg_name (i := 2) scPaired.nd rfl (Or.inl rfl)) (pgs_cons (pg_name (i := 3) scPaired.nd rfl (Or.inl rfl)) pgs_nil)))
        (pss_one (ps_if (PW.pt (pw_or (pt_not (pt_chain op_le op_lt pe_int (pv 3) (pv 1))) (pw_or (pt_cmpR op_eq (pv 3) (pv 2) (nomark _)) (pw_or1 (pt_cmpR op_ne (pe_ix (ixA (K := K) rfl) (pv 0) (pv 3) (fun _ _ => rfl)) (pv 2) (nomark _)))))) (pss_one (ps_ret pe_bl)) pss_nil)))
      (pss_one (ps_ret pe_bl))), ?_⟩
    refine ⟨_, rfl, a, mt, rfl, hA, by omega, fun H1 s1 => ⟨_, rfl, iteF ?_⟩⟩
    have hA1 := hA.same s1
    refine ⟨_, rfl, a, _, rfl, hA1, _, rfl, rfl, _, rfl, no_ne (decide_eq_true (by rw [List.length_map, lm])) ?_⟩
    refine ⟨_, rfl, a, _, rfl, hA1, fun J G wk hG => ?_⟩
    refine for_it wk (fun i σ H' => ∃ v2 v3 : Option V, σ = [some (.ref a), some (.int (n : Int)), v2, v3] ∧ Same H1 H') ⟨none, none, rfl, Same.refl _⟩ (fun i σ H' _ ⟨_, _, _, s⟩ => hG _ s) ?_ ?_
    · rintro i x σ H3 H4 hi ⟨v2, v3, rfl, sm⟩ ⟨T0, xi, yi, rfl, hT0, rfl, hx, hy⟩
      have hin : i < mt.length := by rw [List.length_map] at hi; exact hi
      obtain rfl := Option.some.inj hx
      have ey : yi = V.int mt[i] := by
        have hy : (iv mt)[i]? = some yi := hy
        rw [List.getElem?_map, List.getElem?_eq_getElem hin] at hy
        exact (Option.some.inj hy).symm
      subst ey
      obtain ⟨z0, z1⟩ := hm _ (List.getElem_mem hin)
      obtain ⟨p0, p1⟩ := hp i hin
      have sT := sm.trans (same_upd (o := .tup [.int (i : Nat), .int mt[i]]) hT0)
      have em : mt[i] = ((mt[i].toNat : Nat) : Int) := by omega
      refine ⟨T0, _, rfl, SqT.of upd_same, rfl, _, _, rfl, _, _, rfl, rfl, ?_⟩
      refine ⟨_, rfl, _, _, rfl, rfl, _, rfl, iteT' (decide_eq_true z0) ⟨_, rfl, _, _, rfl, rfl, _, rfl, no_ne (decide_eq_true z1) ?_⟩⟩
      refine ⟨_, rfl, _, rfl, rfl, _, rfl, iteF' (decide_eq_false fun z => p0 (by injection z)) ?_⟩
      refine ⟨_, rfl, _, rfl, a, _, _, _, rfl, rfl, hA1.same sT, (by rw [em]; exact atI_nat (iv_get p1)), _, rfl, rfl, _, rfl, no_ne (decide_eq_true rfl) ?_⟩
      exact ⟨_, _, rfl, sT⟩
    · rintro σ H' ⟨v2, v3, rfl, sm⟩
      exact k _ (s1.trans sm)
abbrev nAreM : List Str := ["letters", "value", "place", "mate"]
theorem scAreM : FnScope nAreM ["letters", "value"] (defScope sAreM) := ⟨rfl, rfl, rfl, by decide +kernel, rfl, by decide +kernel, by decide +kernel⟩
theorem ok_areM {f : Addr} {fd : FuncData} (F : Fun K "are_mates" "are_mates" sAreM f fd) (TA : TxA mg) (R : TxR mg) (hall : mg "all" = none) (GP : Cal P w K mg base "are_paired" 3 ["value", "many"] (spPaired K)) : FnOk P w K mg base CX0 4 f fd ["letters", "value"] (spAreM K) := by
  refine F.ok scAreM (fun vs H Q E h => ?_) (fun cdv A outer s H vs Q E hr h => ?_)
  · obtain ⟨l, a, ls, mt, rfl, _⟩ := h
    rfl
  · obtain ⟨l, a, ls, mt, rfl, hL, hA, ln, ⟨hp, hm⟩, k⟩ := h
    have lm := hp.1.1
    refine ⟨_, pss_cons (ps_if (pt_not (pt_val (pe_cal GP hr (by decide) (by rfl) (pa_cons (pv 1) (pa_cons (pe_callB call_len_seq (by rfl) TA.len PySem.boot_len (pa_cons (pv 0) pa_nil)) pa_nil))))) (pss_one (ps_ret pe_bl)) pss_nil)
      (pss_one (ps_ret (pe_callB (cr_all rfl) (by rfl) hall (by decide +kernel) (pa_cons (pe_lc (own := [("place", 2), ("mate", 3)]) (g := gTup K 2 (gCons (gName 2) (gCons (gName 3) gNil))) (tt := tYes) rfl scAreM.nd (pi_enumA (K := K) rfl (by rfl) R.enum (pa_cons (pv 1) pa_nil))
        (blkOk_by (N := nAreM) (sc := defScope sAreM) (by decide +kernel)) (fun _ _ _ _ _ => pg_tup (n := 2) rfl (pgs_cons (pg_name (i := 2) scAreM.nd rfl (Or.inl rfl)) (pgs_cons (pg_name (i := 3) scAreM.nd rfl (Or.inl rfl)) pgs_nil))) (fun _ _ _ _ _ => pts_nil)
        (fun _ _ _ _ _ => pe_cmpR op_eq (pe_ix (ixt (K := K) rfl) (pv 0) (pv 3) (fun _ _ => rfl)) (pe_un un_neg (pe_ix (ixt (K := K) rfl) (pv 0) (pv 2) (fun _ _ => rfl))) (nomark _))) pa_nil)))), ?_⟩
    refine ⟨_, rfl, _, rfl, l, _, rfl, .inr hL.sq, a, mt, ls.length, congrArg (fun z => [V.ref a, V.int z]) (by rw [List.length_map]), hA, ln, hp, fun H1 s1 => ⟨_, rfl, iteF ?_⟩⟩
    refine nx_ret_lc ?_
    refine ⟨_, rfl, a, _, rfl, hA.same s1, fun J G wk hG => ?_⟩
    refine lcE wk (fun _ => true) (fun _ => .bl true) (by rw [List.length_map]; omega) hG ?_ ?_
    · intro i x hx H2 s2 T0 hT Qy Qn ky kn
      have hin : i < mt.length := by
        have := (List.getElem?_eq_some_iff.mp hx).1
        rwa [List.length_map] at this
      obtain rfl : x = V.int mt[i] := by
        rw [List.getElem?_map, List.getElem?_eq_getElem hin] at hx
        exact (Option.some.inj hx).symm
      obtain ⟨z0, z1⟩ := hp.1.2 _ (List.getElem_mem hin)
      have sT := same_upd (o := .tup [.int (i : Nat), .int mt[i]]) hT
      have hL2 := (SqB.same ((s1.trans s2).trans sT) hL).sq
      have em : mt[i] = ((mt[i].toNat : Nat) : Int) := by omega
      have l1 : mt[i].toNat < ls.length := by omega
      have l2 : i < ls.length := by omega
      have eq := hm i hin
      rw [List.getD_eq_getElem?_getD, List.getD_eq_getElem?_getD, List.getElem?_eq_getElem l1, List.getElem?_eq_getElem l2] at eq
      have eq : ls[mt[i].toNat] = -ls[i] := eq
      refine ⟨T0, _, rfl, SqT.of upd_same, rfl, _, _, rfl, _, _, rfl, rfl, ?_⟩
      refine ⟨rfl, yes_te ?_⟩
      refine ⟨_, rfl, _, rfl, l, _, _, _, rfl, rfl, hL2, (by rw [em]; exact atI_nat (iv_get (List.getElem?_eq_getElem l1))), _, rfl, _, rfl, l, _, _, _, rfl, rfl, hL2, atI_nat (iv_get (List.getElem?_eq_getElem l2)), _, rfl, rfl, ?_⟩
      have e : decide (V.int ls[mt[i].toNat] = V.int (-ls[i])) = true := decide_eq_true (by rw [eq])
      show Qy (.bl (decide (V.int ls[mt[i].toNat] = V.int (-ls[i])))) _
      rw [e]
      exact ky rfl _ sT
    · intro D H2 hD s2 h2
      refine ⟨D, (List.range (iv mt).length).map fun _ => true, rfl, SqL.of (by
        rw [h2, List.filter_eq_self.mpr (fun _ _ => rfl), List.map_map]
        rfl), ?_⟩
      have e : ((List.range (iv mt).length).map fun _ => true).all id = true := by
        rw [List.all_eq_true]
        intro b hb
        obtain ⟨_, _, rfl⟩ := List.mem_map.mp hb
        rfl
      rw [e]
      exact k H2 (s1.trans s2)
end
end W33
set_option Elab.async false
set_option linter.all false
set_option maxRecDepth 100000
set_option maxHeartbeats 1000000
namespace W33
open PySem L2 PySem.Spec PyProof.Rows WR WB WE
/-! ### numbers joined by pairs -/
abbrev sJoined : Stmt := top 23
/-- on to where a number leads, at most k times -/
def rt (ab : List Nat) : Nat → Nat → Nat
  | 0, x => x
  | k + 1, x => if ab.getD x 0 = x then x else rt ab k (ab.getD x 0)
def jnS (ab : List Nat) (p : Nat × Nat) : List Nat := ab.set (max (rt ab p.1 p.1) (rt ab p.2 p.2)) (min (rt ab p.1 p.1) (rt ab p.2 p.2))
def jn : List Nat → List (Nat × Nat) → List Nat
  | ab, [] => ab
  | ab, p :: r => jn (jnS ab p) r
/-- the number i put to the row of r -/
def putR : List (Nat × List Nat) → Nat → Nat → List (Nat × List Nat)
  | [], r, i => [(r, [i])]
  | (k, m) :: t, r, i => if k = r then (k, m ++ [i]) :: t else (k, m) :: putR t r i
def flr (ab : List Nat) : Nat → List Nat × List (Nat × List Nat)
  | 0 => (ab, [])
  | i + 1 => ((flr ab i).1.set i ((flr ab i).1.getD ((flr ab i).1.getD i 0) 0), putR (flr ab i).2 ((flr ab i).1.getD ((flr ab i).1.getD i 0) 0) i)
def joinF (n : Nat) (ps : List (Nat × Nat)) : List (List Nat) := (flr (jn (List.range n) ps) n).2.map (·.2)
/-- each leads to none that is greater -/
def DnOk (n : Nat) (ab : List Nat) : Prop := ab.length = n ∧ ∀ i, i < n → ab.getD i 0 ≤ i
theorem DnOk.rt_le {n : Nat} {ab : List Nat} (h : DnOk n ab) : ∀ (k x : Nat), x < n → rt ab k x ≤ x
  | 0, x, _ => Nat.le_refl _
  | k + 1, x, hx => by
    unfold rt
    split
    · exact Nat.le_refl _
    · exact Nat.le_trans (h.rt_le k _ (by have := h.2 x hx; omega)) (h.2 x hx)
theorem getD_set {l : List Nat} {i j v : Nat} (h : i < l.length) : (l.set i v).getD j 0 = if j = i then v else l.getD j 0 := by
  rw [List.getD_eq_getElem?_getD, List.getD_eq_getElem?_getD, List.getElem?_set]
  by_cases e : i = j
  · subst e
    rw [if_pos rfl, if_pos rfl, if_pos h]
    rfl
  · rw [if_neg e, if_neg (fun z => e z.symm)]
theorem DnOk.set {n : Nat} {ab : List Nat} (h : DnOk n ab) {i v : Nat} (hi : i < n) (hv : v ≤ i) : DnOk n (ab.set i v) := by
  refine ⟨by rw [List.length_set, h.1], fun j hj => ?_⟩
  rw [getD_set (by rw [h.1]; exact hi)]
  split
  · omega
  · exact h.2 j hj
theorem DnOk.jnS {n : Nat} {ab : List Nat} (h : DnOk n ab) {p : Nat × Nat} (h1 : p.1 < n) (h2 : p.2 < n) : DnOk n (jnS ab p) := by
  have a := h.rt_le p.1 p.1 h1
  have b := h.rt_le p.2 p.2 h2
  exact h.set (by omega) (by omega)
theorem dn_range (n : Nat) : DnOk n (List.range n) := by
  refine ⟨List.length_range, fun i hi => ?_⟩
  rw [List.getD_eq_getElem?_getD, List.getElem?_range hi]
  exact Nat.le_refl _
theorem DnOk.flr {n : Nat} {ab : List Nat} (h : DnOk n ab) : ∀ i, i ≤ n → DnOk n (W33.flr ab i).1
  | 0, _ => h
  | i + 1, hi => by
    have d := DnOk.flr h i (by omega)
    have a := d.2 i (by omega)
    have b := d.2 ((W33.flr ab i).1.getD i 0) (by omega)
    exact d.set (by omega) (by omega)
/-- where numbers lead stays the same for any k that is great enough -/
theorem DnOk.rt_end {n : Nat} {ab : List Nat} (h : DnOk n ab) {x : Nat} (k : Nat) (e : ab.getD x 0 = x) : rt ab k x = x := by
  cases k with
  | zero => rfl
  | succ k => unfold rt; rw [if_pos e]
theorem DnOk.rt_step {n : Nat} {ab : List Nat} (h : DnOk n ab) {x k : Nat} (hx : x < n) (hk : x ≤ k) (e : ab.getD x 0 ≠ x) : ∃ k', k = k' + 1 ∧ ab.getD x 0 ≤ k' ∧ rt ab k x = rt ab k' (ab.getD x 0) := by
  have a := h.2 x hx
  obtain ⟨k', rfl⟩ : ∃ k', k = k' + 1 := ⟨k - 1, by omega⟩
  refine ⟨k', rfl, by omega, ?_⟩
  conv => lhs; unfold rt
  rw [if_neg e]
theorem nats_get {l : List Nat} {i : Nat} (h : i < l.length) : atI (iv (nats l)) ((i : Nat) : Int) = some (V.int ((l.getD i 0 : Nat) : Int)) := by
  refine atI_nat (iv_get ?_)
  unfold nats
  rw [List.getElem?_map, List.getElem?_eq_getElem h, List.getD_eq_getElem?_getD, List.getElem?_eq_getElem h]
  rfl
theorem nats_set {l : List Nat} {i v : Nat} : (iv (nats l)).set i (V.int (v : Int)) = iv (nats (l.set i v)) := by
  unfold nats
  rw [List.map_set, ← List.map_set, ← List.map_set]
theorem nats_len (l : List Nat) : (iv (nats l)).length = l.length := by
  unfold nats
  rw [List.length_map, List.length_map]
theorem ixN_nat {n i : Nat} (h : i < n) : ixN n ((i : Nat) : Int) = some i := by
  unfold ixN
  rw [if_pos (by omega), if_pos (by omega), Int.toNat_natCast]
/-- rows of a dict: each key a number, its value a list of numbers -/
def RowsAt (H : Hp) (kvs : List (L2.Key × V)) (rs : List (Nat × List Nat)) : Prop := All2 (fun kv r => kv.1 = Sum.inl ((r.1 : Nat) : Int) ∧ ∃ q, kv.2 = V.ref q ∧ H q = some (.lst (iv (nats r.2)))) kvs rs
theorem rows_none {H : Hp} {kvs : List (L2.Key × V)} {rs : List (Nat × List Nat)} (h : RowsAt H kvs rs) {r i : Nat} (e : valV kvs (Sum.inl ((r : Nat) : Int)) = none) : putR rs r i = rs ++ [(r, [i])] := by
  induction h with
  | nil => rfl
  | @cons kv p kvs rs hp _ ih =>
    have n : ¬ kv.1 = Sum.inl ((r : Nat) : Int) := fun z => by
      rw [valV_pos z] at e
      cases e
    rw [valV_neg n] at e
    have n2 : ¬ p.1 = r := fun z => n (by rw [hp.1, z])
    obtain ⟨k, m⟩ := p
    unfold putR
    rw [if_neg n2, ih e]
    rfl
theorem rows_some {H : Hp} {kvs : List (L2.Key × V)} {rs : List (Nat × List Nat)} (h : RowsAt H kvs rs) {r i : Nat} {v : V} (e : valV kvs (Sum.inl ((r : Nat) : Int)) = some v) :
    ∃ K1 K2 R1 R2 m, kvs = K1 ++ (Sum.inl ((r : Nat) : Int), v) :: K2 ∧ rs = R1 ++ (r, m) :: R2 ∧ RowsAt H K1 R1 ∧ RowsAt H K2 R2 ∧ (∃ q, v = V.ref q ∧ H q = some (.lst (iv (nats m)))) ∧ putR rs r i = R1 ++ (r, m ++ [i]) :: R2 := by
  induction h with
  | nil => cases e
  | @cons kv p kvs rs hp t ih =>
    obtain ⟨k, m⟩ := p
    by_cases z : kv.1 = Sum.inl ((r : Nat) : Int)
    · rw [valV_pos z] at e
      obtain rfl : k = r := by
        have := hp.1.symm.trans z
        injection this with this
        omega
      cases e
      refine ⟨[], kvs, [], rs, m, ?_, rfl, .nil, t, hp.2, ?_⟩
      · rw [← z]
        rfl
      · unfold putR
        rw [if_pos rfl]
        rfl
    · rw [valV_neg z] at e
      have n2 : ¬ k = r := fun y => z (by rw [hp.1, y])
      obtain ⟨K1, K2, R1, R2, m2, e1, e2, h1, h2, h3, e3⟩ := ih e
      refine ⟨kv :: K1, K2, (k, m) :: R1, R2, m2, by rw [e1]; rfl, by rw [e2]; rfl, .cons hp h1, h2, h3, ?_⟩
      unfold putR
      rw [if_neg n2, e3]
      rfl
end W33
set_option Elab.async false
set_option linter.all false
set_option maxRecDepth 100000
set_option maxHeartbeats 1000000
namespace W33
open PySem L2 PySem.Spec PyProof.Rows WR WB WE
theorem call_tupNw {X : Cx} {K : PySem.W.Frag} (hK : X.K = K) : CallR X (.type "tuple") (fun xs H Q => ∃ p ys, xs = [.ref p] ∧ SqL K H p ys ∧ ∀ q (o : Obj), H q = none → o.dict = none → Q (.ref q) (L2.upd H q (.frz o (.tup ys)))) := by
  subst hK
  intro pins s σ H vs us Q I r h
  obtain ⟨p, ys, rfl, hq, k⟩ := h
  obtain ⟨u, rfl, rx⟩ := vals1 r
  cases rx
  obtain ⟨its, rv, pl, hz⟩ := I.list hq
  refine call_tuple_list pl.isList (fun h1 kp => ?_) (by rw [List.size_toArray, ← rv.length]; exact hz)
  have J : Inv X pins σ H { s with heap := h1 } := I.kept (t' := s.toks) kp
  have new : (h1.push { cls := .type "tuple", data := .seq its.toArray }).get? h1.objs.size = some { cls := .type "tuple", data := .seq its.toArray } := Heap.get?_push_size _ rfl
  exact ⟨.ref _, _, J.laid (t' := s.toks) (o := .frz { cls := .type "tuple", data := .seq its.toArray } (.tup ys)) (fun _ _ e => Heap.get?_push_of_some _ e) (Nat.le_refl _) ⟨new, hz, its, rv, IsTup.new _ _⟩, rfl, k _ _ (J.hok.fresh (Nat.le_refl _)) rfl⟩
def PrN (K : PySem.W.Frag) (H : Hp) (v : V) (p : Nat × Nat) : Prop := ∃ q : Addr, v = .ref q ∧ SqT K H q [.int (p.1 : Int), .int (p.2 : Int)]
theorem PrN.same {K : PySem.W.Frag} {H H' : Hp} {v : V} {p : Nat × Nat} (h : PrN K H v p) (s : Same H H') : PrN K H' v p := by
  obtain ⟨q, e, t⟩ := h
  exact ⟨q, e, WR.Same.seqT s t⟩
def spJoined (K : PySem.W.Frag) : Sp := fun vs H Q _ => ∃ (n : Nat) (a : Addr) (us : List V) (ps : List (Nat × Nat)), vs = [.int (n : Int), .ref a] ∧ H a = some (.lst us) ∧ All2 (PrN K H) us ps ∧ n ≤ 40 ∧ us.length ≤ 1000 ∧ (∀ p ∈ ps, p.1 < n ∧ p.2 < n) ∧
  ∀ q H', Same H H' → CornAt K H' q (joinF n ps) → Q (.ref q) H'
abbrev nJoined : List Str := ["many", "pairs", "above", "one", "other", "rows", "at", "row"]
theorem rgV_nats (n : Nat) : rgV 0 (n : Int) = iv (nats (List.range n)) := by
  unfold rgV nats
  show _ = ((List.range n).map fun (x : Nat) => (x : Int)).map V.int
  rw [List.map_map, show ((n : Int) - 0).toNat = n by omega]
  refine List.map_congr_left fun i _ => ?_
  show V.int (0 + (i : Nat)) = V.int ((i : Nat) : Int)
  rw [Int.zero_add]
theorem wk_vals {d : Addr} {o : Obj} {kvs : List (L2.Key × V)} : Walk (Itd d o kvs) (kvs.map (·.2)).length (fun H => H d = some (.frz o (.dK kvs))) (YAt (kvs.map (·.2))) := by
  have w := walk_values (d := d) (o := o) (kvs := kvs)
  rw [List.length_map]
  refine ⟨w.goes, w.stops, fun i H x H' hi g y => ?_⟩
  obtain ⟨e, k, hk⟩ := w.yields i H x H' hi g y
  refine ⟨e, ?_⟩
  rw [List.getElem?_map, hk]
  rfl
def slotN (i : Nat) (σ : L2.St) : Nat := match σ[i]? with | some (some (V.int y)) => y.toNat | _ => 0
theorem ret_cb_lock {r : List V → Hp → VK → Prop} {t : TE} {D : Ends} {σ : L2.St} {H : Hp} (h : tLockE t σ H fun y H2 => r [y] H2 D.rt) : tRet (tCB r (tCons (tLockE t) tNil)) D σ H := h
theorem flr_rows_len (ab : List Nat) : ∀ i, (∀ p ∈ (flr ab i).2, p.2.length ≤ i)
  | 0, p, h => nomatch h
  | i + 1, p, h => by
    have ih := flr_rows_len ab i
    have key : ∀ (rs : List (Nat × List Nat)) (r : Nat), (∀ p ∈ rs, p.2.length ≤ i) → ∀ p ∈ putR rs r i, p.2.length ≤ i + 1 := by
      intro rs r
      induction rs with
      | nil =>
        intro _ p hp
        unfold putR at hp
        rw [List.mem_singleton.mp hp]
        show 1 ≤ i + 1
        omega
      | cons x t iht =>
        intro hx p hp
        obtain ⟨k, m⟩ := x
        unfold putR at hp
        split at hp
        · rcases List.mem_cons.mp hp with rfl | hp
          · have := hx (k, m) List.mem_cons_self
            show (m ++ [i]).length ≤ i + 1
            rw [List.length_append]
            show m.length + 1 ≤ i + 1
            have this : m.length ≤ i := this
            omega
          · have := hx p (List.mem_cons_of_mem _ hp)
            omega
        · rcases List.mem_cons.mp hp with rfl | hp
          · have := hx (k, m) List.mem_cons_self
            have this : m.length ≤ i := this
            show m.length ≤ i + 1
            omega
          · exact iht (fun q hq => hx q (List.mem_cons_of_mem _ hq)) p hp
    exact key _ _ ih p h
section
variable {P : Program} {w : World} {K : PySem.W.Frag} {mg : Str → Option Value} {base : Heap} {C CR : Addr}
theorem scJoined : FnScope nJoined ["many", "pairs"] (defScope sJoined) := ⟨rfl, rfl, rfl, by decide +kernel, rfl, by decide +kernel, by decide +kernel⟩
theorem ok_joined {f : Addr} {fd : FuncData} (F : Fun K "joined" "joined" sJoined f fd) (TA : TxA mg) (R : TxR mg) (hlist : mg "list" = none) (hmax : mg "max" = none) (hmin : mg "min" = none) : FnOk P w K mg base CX0 1 f fd ["many", "pairs"] (spJoined K) := by
  refine F.ok scJoined (fun vs H Q E h => ?_) (fun cdv A outer s H vs Q E hr h => ?_)
  · obtain ⟨n, a, us, ps, rfl, _⟩ := h
    rfl
  · obtain ⟨n, a, us, ps, rfl, hA, hP, hn, hu, hps, k⟩ := h
    refine ⟨_, pss_cons (ps_set (i := 2) scJoined.nd rfl (Or.inl rfl) (pe_listRg rfl (by rfl) hlist (prg_1 (by rfl) R.range (pv 0))))
      (pss_cons (ps_for PassesOwn.never rfl (pi_list (pv 1)) (pg_tup (n := 2) rfl (pgs_cons (pg_name (i := 3) scJoined.nd rfl (Or.inl rfl)) (pgs_cons (pg_name (i := 4) scJoined.nd rfl (Or.inl rfl)) pgs_nil)))
        (pss_cons (ps_while PassesOwn.never (pt_cmpR op_ne (pe_ix ix_list (pv 2) (pv 3) (fun _ _ => rfl)) (pv 3) (nomark _)) (pss_one (ps_set (i := 3) scJoined.nd rfl (Or.inl rfl) (pe_ix ix_list (pv 2) (pv 3) (fun _ _ => rfl)))))
        (pss_cons (ps_while PassesOwn.never (pt_cmpR op_ne (pe_ix ix_list (pv 2) (pv 4) (fun _ _ => rfl)) (pv 4) (nomark _)) (pss_one (ps_set (i := 4) scJoined.nd rfl (Or.inl rfl) (pe_ix ix_list (pv 2) (pv 4) (fun _ _ => rfl)))))
        (pss_one (ps_asg (pe_callB (call_min2 rfl) (by rfl) hmin (by decide +kernel) (pa_cons (pv 3) (pa_cons (pv 4) pa_nil))) (pg_sub (pv 2) (pe_callB (call_max2 rfl) (by rfl) hmax (by decide +kernel) (pa_cons (pv 3) (pa_cons (pv 4) pa_nil))) set_list))))))
      (pss_cons (ps_set (i := 5) scJoined.nd rfl (Or.inl rfl) pe_dnewK)
      (pss_cons (ps_for PassesOwn.never rfl (pi_range1 (by rfl) R.range (pa_cons (pv 0) pa_nil)) (pg_name (i := 6) scJoined.nd rfl (Or.inl rfl))
        (pss_cons (ps_asg (pe_ix ix_list (pv 2) (pe_ix ix_list (pv 2) (pv 6) (fun _ _ => rfl)) (fun _ _ => rfl)) (pg_sub (pv 2) (pv 6) set_list))
        (pss_one (ps_expr (pe_bm PySem.F.plainAttrs_list PySem.F.slot_list_append PySem.F.type_list_append mt_append (pe_dsetd (pv 5) (pe_ix ix_list (pv 2) (pv 6) (fun _ _ => rfl)) (pe_lst pa_nil) ⟨rfl, rfl, rfl, rfl⟩) (pa_cons (pv 6) pa_nil))))))
      (pss_one (ps_ret (pe_callTy call_tupB (by rfl) TA.tuple (by decide +kernel) (pa_cons (pe_lock (pe_lc (own := [("row", 7)]) (g := gName 7) (tt := tYes) rfl scJoined.nd (pi_values (pv 5))
        (blkOk_by (N := nJoined) (sc := defScope sJoined) (by decide +kernel)) (fun _ _ _ _ _ => pg_name (i := 7) scJoined.nd rfl (Or.inl rfl)) (fun _ _ _ _ _ => pts_nil)
        (fun _ _ _ _ _ => pe_callTy (call_tupNw (K := K) rfl) (by rfl) TA.tuple (by decide +kernel) (pa_cons (pv 7) pa_nil)))) pa_nil))))))), ?_⟩
    refine ⟨_, rfl, n, rfl, RgOk.of_le (by omega) (by omega) (by omega) (by omega), fun lc hlc => ?_⟩
    rw [rgV_nats]
    have na : a ≠ lc := ne_of_none hA hlc
    refine ⟨_, rfl, a, rfl, ⟨us, SqL.of (by rw [upd_ne na]; exact hA)⟩, ?_⟩
    have lps := hP.length
    refine for_it (walk_list (K := K) (a := a) (xs := us)) (fun i σ H' => ∃ (v3 v4 : Option V) (ab : List Nat), σ = [some (.int (n : Int)), some (.ref a), some (.ref lc), v3, v4, none, none, none] ∧ Kept lc H H' ∧ H' lc = some (.lst (iv (nats ab))) ∧ DnOk n ab ∧ jn ab (ps.drop i) = jn (List.range n) ps)
      ⟨none, none, List.range n, rfl, fun b o nb e => by rw [upd_ne nb]; exact e, upd_same, dn_range n, rfl⟩ (fun i σ H' _ ⟨_, _, _, _, kp, _⟩ => SqL.of (kp _ _ na hA)) ?_ ?_
    · rintro i x σ H3 H4 hi ⟨v3, v4, ab, rfl, kp, hL, dn, ej⟩ ⟨rfl, hx⟩
      obtain ⟨⟨o1, o2⟩, hp, q, rfl, hq⟩ := hP.at hx
      have hq3 : SqT K H4 q [.int (o1 : Int), .int (o2 : Int)] := by
        refine hq.elim (fun r => .inl (r.elim (fun r => .inl (kp _ _ (ne_of_none r hlc) r)) fun ⟨o, r⟩ => .inr ⟨o, kp _ _ (ne_of_none r hlc) r⟩)) fun r => .inr r
      obtain ⟨b1, b2⟩ := hps (o1, o2) (List.mem_of_getElem? hp)
      have b1 : o1 < n := b1
      have b2 : o2 < n := b2
      refine ⟨q, _, rfl, hq3, rfl, _, _, rfl, _, _, rfl, rfl, ?_⟩
      refine while_by (fun σ H5 => ∃ (kk y : Nat), σ = [some (.int (n : Int)), some (.ref a), some (.ref lc), some (.int (y : Int)), some (.int (o2 : Int)), none, none, none] ∧ H4 = H5 ∧ y < n ∧ y ≤ kk ∧ rt ab kk y = rt ab o1 o1)
        (fun σ _ => slotN 3 σ) ⟨o1, o1, rfl, rfl, b1, Nat.le_refl _, rfl⟩ ?_ ?_
      · rintro σ H5 ⟨kk, y, rfl, rfl, hy, hyk, ey⟩
        have hyl : y < ab.length := by rw [dn.1]; exact hy
        refine ⟨_, rfl, _, rfl, lc, _, _, _, rfl, rfl, SqL.of hL, nats_get hyl, _, rfl, rfl, _, rfl, ?_⟩
        by_cases e : ab.getD y 0 = y
        · refine iteF' (by rw [e]; show (!decide (V.int (y : Int) = V.int (y : Int))) = false; rw [decide_eq_true rfl]; rfl) ?_
          rw [dn.rt_end _ e] at ey
          refine while_by (fun σ H5 => ∃ (kk y2 : Nat), σ = [some (.int (n : Int)), some (.ref a), some (.ref lc), some (.int (y : Int)), some (.int (y2 : Int)), none, none, none] ∧ H4 = H5 ∧ y2 < n ∧ y2 ≤ kk ∧ rt ab kk y2 = rt ab o2 o2)
            (fun σ _ => slotN 4 σ) ⟨o2, o2, rfl, rfl, b2, Nat.le_refl _, rfl⟩ ?_ ?_
          · rintro σ H5 ⟨kk2, y2, rfl, rfl, hy2, hyk2, ey2⟩
            have hyl2 : y2 < ab.length := by rw [dn.1]; exact hy2
            refine ⟨_, rfl, _, rfl, lc, _, _, _, rfl, rfl, SqL.of hL, nats_get hyl2, _, rfl, rfl, _, rfl, ?_⟩
            by_cases e2 : ab.getD y2 0 = y2
            · refine iteF' (by rw [e2]; show (!decide (V.int (y2 : Int) = V.int (y2 : Int))) = false; rw [decide_eq_true rfl]; rfl) ?_
              rw [dn.rt_end _ e2] at ey2
              have hmx : max y y2 < ab.length := by omega
              have e3 : (if (y2 : Int) < (y : Int) then (y2 : Int) else (y : Int)) = ((min y y2 : Nat) : Int) := by split <;> omega
              have e4 : (if (y2 : Int) > (y : Int) then (y2 : Int) else (y : Int)) = ((max y y2 : Nat) : Int) := by split <;> omega
              refine ⟨_, rfl, _, rfl, _, _, rfl, ?_⟩
              refine ⟨_, rfl, _, rfl, _, rfl, _, _, rfl, ?_⟩
              rw [e4]
              refine ⟨lc, _, _, max y y2, rfl, rfl, hL, by rw [nats_len]; exact ixN_nat hmx, ?_⟩
              rw [e3, nats_set]
              have ejs : ab.set (max y y2) (min y y2) = jnS ab (o1, o2) := by
                unfold jnS
                rw [← ey, ← ey2]
              rw [ejs]
              refine ⟨_, _, jnS ab (o1, o2), rfl, kp.trans Kept.upd, upd_same, dn.jnS b1 b2, ?_⟩
              rw [← ej]
              have ed : ps.drop i = (o1, o2) :: ps.drop (i + 1) := by
                have hil : i < ps.length := (List.getElem?_eq_some_iff.mp hp).1
                rw [List.drop_eq_getElem_cons hil]
                congr 1
                exact Option.some.inj ((List.getElem?_eq_getElem hil).symm.trans hp)
              rw [ed]
              rfl
            · have hle2 := dn.2 y2 hy2
              obtain ⟨k', ek, hk', er⟩ := dn.rt_step hy2 hyk2 e2
              refine iteT' (by show (!decide (V.int ((ab.getD y2 0 : Nat) : Int) = V.int (y2 : Int))) = true; rw [decide_eq_false (fun z => e2 (by injection z with z; omega))]; rfl) ?_
              refine ⟨_, rfl, _, rfl, lc, _, _, _, rfl, rfl, SqL.of hL, nats_get hyl2, ?_⟩
              refine ⟨⟨k', ab.getD y2 0, rfl, rfl, by omega, hk', er.symm.trans ey2⟩, ?_⟩
              show ((ab.getD y2 0 : Nat) : Int).toNat < ((y2 : Nat) : Int).toNat
              omega
          · rintro σ H5 Q Q' hh ⟨v, e1, u, e2, p, xs, z, v', ex, ey, hs, ha, u', e3, fl, c, ec, q⟩
            exact ⟨v, e1, u, e2, p, xs, z, v', ex, ey, hs, ha, u', e3, fl, c, ec, hh c H5 q⟩
        · have hle := dn.2 y hy
          obtain ⟨k', ek, hk', er⟩ := dn.rt_step hy hyk e
          refine iteT' (by show (!decide (V.int ((ab.getD y 0 : Nat) : Int) = V.int (y : Int))) = true; rw [decide_eq_false (fun z => e (by injection z with z; omega))]; rfl) ?_
          refine ⟨_, rfl, _, rfl, lc, _, _, _, rfl, rfl, SqL.of hL, nats_get hyl, ?_⟩
          refine ⟨⟨k', ab.getD y 0, rfl, rfl, by omega, hk', er.symm.trans ey⟩, ?_⟩
          show ((ab.getD y 0 : Nat) : Int).toNat < ((y : Nat) : Int).toNat
          omega
      · rintro σ H5 Q Q' hh ⟨v, e1, u, e2, p, xs, z, v', ex, ey, hs, ha, u', e3, fl, c, ec, q⟩
        exact ⟨v, e1, u, e2, p, xs, z, v', ex, ey, hs, ha, u', e3, fl, c, ec, hh c H5 q⟩
    · rintro σ H3 ⟨v3, v4, ab, rfl, kp, hL, dn, ej⟩
      rw [lps, List.drop_length] at ej
      have ej : ab = jn (List.range n) ps := ej
      have sm3 : Same H H3 := fun b o e => kp _ _ (ne_of_none e hlc) e
      refine fun dd hdd => ?_
      have nLd : lc ≠ dd := ne_of_none hL hdd
      have nHd : H dd = none := sm3.free hdd
      refine ⟨_, rfl, _, rfl, by omega, by omega, ?_⟩
      refine for_range (lo := 0) (n := ((n : Nat) : Int).toNat) (fun i σ H' => ∃ (v6 : Option V) (kvs : List (L2.Key × V)), σ = [some (.int (n : Int)), some (.ref a), some (.ref lc), v3, v4, some (.ref dd), v6, none] ∧ Same H H' ∧ H' lc = some (.lst (iv (nats (flr ab i).1))) ∧
          H' dd = some (.dK kvs) ∧ RowsAt H' kvs (flr ab i).2 ∧ (kvs.map (·.2)).Nodup ∧ kvs.length ≤ i ∧ ∀ q, V.ref q ∈ kvs.map (·.2) → H q = none ∧ q ≠ lc)
        ⟨none, [], rfl, sm3.trans (same_upd hdd), by rw [upd_ne nLd]; exact hL, upd_same, .nil, List.nodup_nil, Nat.le_refl _, fun _ h => nomatch h⟩ ?_ ?_
      · rintro i σ H4 hi ⟨v6, kvs, rfl, sm, hL4, hd4, hR4, nd, lk, new4⟩
        rw [Int.toNat_natCast] at hi
        rw [Int.zero_add]
        have dF := dn.flr i (by omega)
        have dG := dn.flr (i + 1) (by omega)
        obtain ⟨fl, efl⟩ : ∃ fl, fl = (flr ab i).1 := ⟨_, rfl⟩
        obtain ⟨fg, efg⟩ : ∃ fg, fg = (flr ab (i + 1)).1 := ⟨_, rfl⟩
        rw [← efl] at hL4 dF
        rw [← efg] at dG
        have eg : fg = fl.set i (fl.getD (fl.getD i 0) 0) := by rw [efg, efl]; rfl
        have hil : i < fl.length := by rw [dF.1]; exact hi
        have hjl : fl.getD i 0 < fl.length := by have := dF.2 i hi; omega
        refine ⟨_, rfl, _, rfl, _, rfl, lc, _, _, _, rfl, rfl, SqL.of hL4, nats_get hil, lc, _, _, _, rfl, rfl, SqL.of hL4, nats_get hjl, _, rfl, _, rfl, lc, _, _, i, rfl, rfl, hL4, by rw [nats_len]; exact ixN_nat hil, ?_⟩
        rw [nats_set, ← eg]
        obtain ⟨H5, e5⟩ : ∃ H5, H5 = L2.upd H4 lc (.lst (iv (nats fg))) := ⟨_, rfl⟩
        rw [← e5]
        have hL5 : H5 lc = some (.lst (iv (nats fg))) := by rw [e5, upd_same]
        have k45 : Kept lc H4 H5 := by rw [e5]; exact Kept.upd
        have sm5 : Same H H5 := by rw [e5]; exact same_put sm hlc
        have hd5 : H5 dd = some (.dK kvs) := k45 _ _ nLd.symm hd4
        have hR5 : RowsAt H5 kvs (flr ab i).2 := by
          have g : ∀ (xs : List (L2.Key × V)) (rs : List (Nat × List Nat)), RowsAt H4 xs rs → (∀ q, V.ref q ∈ xs.map (·.2) → q ≠ lc) → RowsAt H5 xs rs := by
            intro xs rs h
            induction h with
            | nil => intro _; exact .nil
            | cons r _ ih =>
              intro hn
              obtain ⟨r1, q, r2, r3⟩ := r
              refine .cons ⟨r1, q, r2, k45 _ _ (hn q (by rw [← r2]; exact List.mem_cons_self)) r3⟩ (ih fun q hq => hn q (List.mem_cons_of_mem _ hq))
          exact g _ _ hR4 fun q hq => (new4 q hq).2
        have hig : i < fg.length := by rw [dG.1]; exact hi
        have eri : fg.getD i 0 = fl.getD (fl.getD i 0) 0 := by rw [eg, getD_set hil, if_pos rfl]
        have er2 : (flr ab (i + 1)).2 = putR (flr ab i).2 (fg.getD i 0) i := by
          rw [eri, efl]
          rfl
        obtain ⟨r, er⟩ : ∃ r, r = fg.getD i 0 := ⟨_, rfl⟩
        refine ⟨_, rfl, dd, rfl, .inl ⟨kvs, .inl hd5⟩, _, rfl, _, rfl, lc, _, _, _, rfl, rfl, SqL.of hL5, nats_get hig, Nat.zero_le _, fun q hq => ?_⟩
        rw [← er] at er2 ⊢
        have ndq : dd ≠ q := ne_of_none hd5 hq
        have nlq : lc ≠ q := ne_of_none hL5 hq
        have nHq : H q = none := sm5.free hq
        obtain ⟨H6, e6⟩ : ∃ H6, H6 = L2.upd H5 q (.lst []) := ⟨_, rfl⟩
        rw [← e6]
        have s56 : Same H5 H6 := by rw [e6]; exact same_upd hq
        have hd6 := s56 _ _ hd5
        have hL6 := s56 _ _ hL5
        have hq6 : H6 q = some (.lst []) := by rw [e6, upd_same]
        have hR6 : RowsAt H6 kvs (flr ab i).2 := hR5.imp fun _ _ ⟨r1, q, r2, r3⟩ => ⟨r1, q, r2, s56 _ _ r3⟩
        have sm6 := sm5.trans s56
        refine ⟨kvs, Sum.inl ((r : Nat) : Int), hd6, rfl, Evl.sz_lt (by omega), fun v ev => ?_, fun ev => ?_⟩
        · obtain ⟨K1, K2, R1, R2, m, ek, eR, h1, h2, ⟨q0, rfl, hq0⟩, ep⟩ := rows_some (i := i) hR6 ev
          have hml : m.length ≤ i := flr_rows_len ab i (r, m) (by rw [eR]; simp)
          have mem0 : V.ref q0 ∈ kvs.map (·.2) := by rw [ek]; simp
          obtain ⟨n0, n0l⟩ := new4 q0 mem0
          have n0d : q0 ≠ dd := fun z => by
            rw [z, hd6] at hq0
            cases hq0
          refine ⟨.inl ⟨rfl, _, SqL.of hq0⟩, _, rfl, q0, _, _, rfl, rfl, hq0, Evl.sz_lt (by rw [nats_len]; omega), ?_⟩
          have k67 : Kept q0 H6 (L2.upd H6 q0 (.lst (iv (nats m) ++ [.int (i : Int)]))) := Kept.upd
          have nd1 := nd
          rw [ek, List.map_append, List.map_cons, List.nodup_append] at nd1
          obtain ⟨nd1, nd2, nd3⟩ := nd1
          rw [List.nodup_cons] at nd2
          have g : ∀ (xs : List (L2.Key × V)) (rs : List (Nat × List Nat)), RowsAt H6 xs rs → V.ref q0 ∉ xs.map (·.2) → RowsAt (L2.upd H6 q0 (.lst (iv (nats m) ++ [.int (i : Int)]))) xs rs := by
            intro xs rs h
            induction h with
            | nil => intro _; exact .nil
            | cons r _ ih =>
              intro hn
              obtain ⟨r1, q, r2, r3⟩ := r
              refine .cons ⟨r1, q, r2, k67 _ _ (fun z => hn (by rw [List.map_cons, r2, z]; exact List.mem_cons_self)) r3⟩ (ih fun z => hn (List.mem_cons_of_mem _ z))
          refine ⟨_, kvs, rfl, same_put sm6 n0, ?_, k67 _ _ n0d.symm hd6, ?_, nd, by omega, new4⟩
          · rw [← efg]
            exact k67 _ _ n0l.symm hL6
          · rw [er2, ep, ek]
            refine All2.app (g _ _ h1 fun z => nd3 _ z _ List.mem_cons_self rfl) (.cons ⟨rfl, q0, rfl, ?_⟩ (g _ _ h2 nd2.1))
            rw [upd_same]
            unfold nats iv
            rw [List.map_append, List.map_append]
            rfl
        · have eK := putK_new (V.ref q) ev
          rw [eK]
          obtain ⟨H7, e7⟩ : ∃ H7, H7 = L2.upd H6 dd (.dK (kvs ++ [(Sum.inl ((r : Nat) : Int), V.ref q)])) := ⟨_, rfl⟩
          rw [← e7]
          have k67 : Kept dd H6 H7 := by rw [e7]; exact Kept.upd
          have hd7 : H7 dd = some (.dK (kvs ++ [(Sum.inl ((r : Nat) : Int), V.ref q)])) := by rw [e7, upd_same]
          have hq7 := k67 _ _ ndq.symm hq6
          have hL7 := k67 _ _ nLd hL6
          have sm7 : Same H H7 := by rw [e7]; exact same_put sm6 nHd
          have hR7 : RowsAt H7 kvs (flr ab i).2 := hR6.imp fun _ _ ⟨r1, q, r2, r3⟩ => ⟨r1, q, r2, k67 _ _ (fun z => by rw [z, hd6] at r3; cases r3) r3⟩
          refine ⟨.inl ⟨rfl, _, SqL.of hq7⟩, _, rfl, q, _, _, rfl, rfl, hq7, Evl.sz_lt (by show 0 < 100000; omega), ?_⟩
          have k78 : Kept q H7 (L2.upd H7 q (.lst ([] ++ [.int (i : Int)]))) := Kept.upd
          have nq : V.ref q ∉ kvs.map (·.2) := fun z => by
            obtain ⟨kv, hkv, ekv⟩ := List.mem_map.mp z
            obtain ⟨p, _, _, q1, e1, h1⟩ := All2.mem hR5 hkv
            have : q1 = q := by
              rw [e1] at ekv
              injection ekv
            rw [this, hq] at h1
            cases h1
          have g : ∀ (xs : List (L2.Key × V)) (rs : List (Nat × List Nat)), RowsAt H7 xs rs → V.ref q ∉ xs.map (·.2) → RowsAt (L2.upd H7 q (.lst ([] ++ [.int (i : Int)]))) xs rs := by
            intro xs rs h
            induction h with
            | nil => intro _; exact .nil
            | cons r _ ih =>
              intro hn
              obtain ⟨r1, q2, r2, r3⟩ := r
              refine .cons ⟨r1, q2, r2, k78 _ _ (fun z => hn (by rw [List.map_cons, r2, z]; exact List.mem_cons_self)) r3⟩ (ih fun z => hn (List.mem_cons_of_mem _ z))
          refine ⟨_, _, rfl, same_put sm7 nHq, ?_, k78 _ _ ndq hd7, ?_, ?_, by rw [List.length_append]; show kvs.length + 1 ≤ i + 1; omega, ?_⟩
          · rw [← efg]
            exact k78 _ _ nlq hL7
          · rw [er2, rows_none hR7 ev]
            exact All2.app (g _ _ hR7 nq) (.cons ⟨rfl, q, rfl, upd_same⟩ .nil)
          · rw [List.map_append, List.nodup_append]
            refine ⟨nd, by simp, ?_⟩
            rintro x hx y hy rfl
            rw [List.map_cons, List.map_nil, List.mem_singleton] at hy
            have hy : x = V.ref q := hy
            exact nq (by rw [← hy]; exact hx)
          · intro z hz
            rw [List.map_append, List.mem_append] at hz
            rcases hz with hz | hz
            · exact new4 z hz
            · rw [List.map_cons, List.map_nil, List.mem_singleton] at hz
              injection hz with hz
              rw [hz]
              exact ⟨nHq, nlq.symm⟩
      · rintro σ H4 ⟨v6, kvs, rfl, sm, hL4, hd4, hR4, nd, lk, new4⟩
        rw [Int.toNat_natCast] at hR4 lk
        dsimp only
        refine ret_cb_lock ?_
        refine ⟨dd, .dK kvs, hd4, trivial, fun od => ?_⟩
        refine lc_in ?_
        refine ⟨_, rfl, dd, od, kvs, rfl, upd_same, ?_⟩
        have rows : All2 (fun (v : V) (r : Nat × List Nat) => ∃ q, v = V.ref q ∧ H4 q = some (.lst (iv (nats r.2)))) (kvs.map (·.2)) (flr ab n).2 := by
          have g : ∀ (xs : List (L2.Key × V)) (rs : List (Nat × List Nat)), RowsAt H4 xs rs → All2 (fun (v : V) (r : Nat × List Nat) => ∃ q, v = V.ref q ∧ H4 q = some (.lst (iv (nats r.2)))) (xs.map (·.2)) rs := by
            intro xs rs h
            induction h with
            | nil => exact .nil
            | cons r _ ih => exact .cons r.2 ih
          exact g _ _ hR4
        have lrow := rows.length
        have nH1 : ∀ q xs, H4 q = some (.lst xs) → q ≠ dd := fun q xs e z => by
          rw [z, hd4] at e
          cases e
        refine lcM (wk_vals (d := dd) (o := od) (kvs := kvs)) (flr ab n).2 (fun D H5 v r => ∃ q, v = V.ref q ∧ q ≠ dd ∧ SqB K H5 q (iv (nats r.2))) (fun D H5 H6 v b ⟨q, e, nq, h⟩ s => ⟨q, e, nq, SqB.same s h⟩) (fun D H5 ws o v b hD ⟨q, e, nq, h⟩ => ⟨q, e, nq, SqB.keptL hD Kept.upd h⟩)
          (by rw [List.length_map]; omega) lrow (fun H5 s => s _ _ upd_same) ?_ (fun _ _ _ _ _ => gName_mono) ?_
        · intro i x b hx hb D H5 hD hDD s5 Qy ky
          obtain ⟨r, hr2, q, rfl, hq⟩ := rows.at hx
          obtain rfl : r = b := Option.some.inj (hr2.symm.trans hb)
          have nqd := nH1 q _ hq
          have hq5 : H5 q = some (.lst (iv (nats r.2))) := s5 _ _ (by rw [upd_ne nqd]; exact hq)
          have hd5 : H5 dd = some (.frz od (.dK kvs)) := s5 _ _ upd_same
          refine ⟨rfl, _, rfl, q, _, rfl, SqL.of hq5, fun q2 o h2 ho => ?_⟩
          refine ky _ _ (same_upd h2) ⟨q2, rfl, (ne_of_none hd5 h2).symm, ⟨.inl (.inr ⟨o, upd_same⟩), ⟨o, _, upd_same, ho⟩⟩⟩
        · intro D H5 ws hD s5 hDD hW
          have hd5 : H5 dd = some (.frz od (.dK kvs)) := s5 _ _ upd_same
          have nDd : D ≠ dd := fun z => by
            rw [z, hd5] at hDD
            cases hDD
          refine ⟨hd5, D, ws, rfl, .inl ⟨SqL.of (by rw [upd_ne nDd]; exact hDD), fun q H6 s6 B6 => ?_⟩⟩
          have sm5 : Same H4 (L2.upd H5 dd (.dK kvs)) := fun b o e => by
            by_cases z : b = dd
            · rw [z, hd4] at e
              rw [z, upd_same, e]
            · rw [upd_ne z]
              exact s5 _ _ (by rw [upd_ne z]; exact e)
          have kd5 : ∀ q xs, q ≠ dd → SqB K H5 q xs → SqB K (L2.upd H5 dd (.dK kvs)) q xs := fun q xs nq ⟨h1, o, u, h2, h3⟩ => by
            refine ⟨?_, ⟨o, u, by rw [upd_ne nq]; exact h2, h3⟩⟩
            exact h1.elim (fun r => .inl (r.elim (fun r => .inl (by rw [upd_ne nq]; exact r)) fun ⟨o, r⟩ => .inr ⟨o, by rw [upd_ne nq]; exact r⟩)) fun r => .inr r
          refine k q H6 ((sm.trans sm5).trans s6) ⟨ws, B6, ?_⟩
          have fin : All2 (fun v c => ∃ q, v = V.ref q ∧ SqB K H6 q (iv (nats c))) ws ((flr ab n).2.map (·.2)) := by
            have g : ∀ (xs : List V) (rs : List (Nat × List Nat)), All2 (fun v (r : Nat × List Nat) => ∃ q, v = V.ref q ∧ q ≠ dd ∧ SqB K H5 q (iv (nats r.2))) xs rs → All2 (fun v c => ∃ q, v = V.ref q ∧ SqB K H6 q (iv (nats c))) xs (rs.map (·.2)) := by
              intro xs rs h
              induction h with
              | nil => exact .nil
              | cons r _ ih =>
                obtain ⟨q, e, nq, h⟩ := r
                exact .cons ⟨q, e, SqB.same s6 (kd5 q _ nq h)⟩ ih
            exact g _ _ hW
          rw [ej] at fin
          exact fin
end
end W33
set_option Elab.async false
set_option linter.all false
set_option maxRecDepth 100000
set_option maxHeartbeats 1000000
namespace W33
open PySem L2 PySem.Spec PyProof.Rows WR WB WE
/-! ### pieces, and the class Sewing -/
abbrev sPieces : Stmt := top 58
abbrev sInitS : Stmt := inClass (top 59) 0
theorem lcY {β : Type} {J : It} {n : Nat} {G : Hp → Prop} {Y : Nat → Hp → V → Hp → Prop} (w : Walk J n G Y) (hY : ∀ i H x H', Y i H x H' → Same H H') (ys : List β) (R : Addr → Hp → V → β → Prop) (hst : ∀ D H H' v b, R D H v b → Same H H' → R D H' v b) (hput : ∀ D H ws o v b, H D = some (.lst ws) → R D H v b → R D (L2.upd H D o) v b)
    (hz : n < 40000) (hl : n = ys.length) {g : TG} {te : TE} {vs : List Nat} {σ : L2.St} {H1 : Hp} {Q : VK} (hG : ∀ H, Same H1 H → G H)
    (hs : ∀ (i : Nat) (x : V) (b : β) (H H' : Hp), ys[i]? = some b → Same H1 H → Y i H x H' → ∀ D, H1 D = none → (∃ ws, H' D = some (.lst ws)) → ∀ (Qy : V → Hp → Prop), (∀ v H2, Same H' H2 → R D H2 v b → Qy v H2) →
      g x (wipe σ vs) H' fun σ2 H2 => wipe σ2 vs = wipe σ vs ∧ te σ2 H2 Qy)
    (hg : ∀ x σ1 H A B, (∀ σ2 H2, A σ2 H2 → B σ2 H2) → g x σ1 H A → g x σ1 H B)
    (hd : ∀ (D : Addr) H' ws, H1 D = none → Same H1 H' → H' D = some (.lst ws) → All2 (R D H') ws ys → Q (.ref D) H') : tLc (fun _ H R => R J H) g tYes te vs σ H1 Q := by
  intro D hD
  refine lc_it w (fun i H => Same H1 H ∧ ∃ ws, H D = some (.lst ws) ∧ All2 (R D H) ws (ys.take i)) ⟨fun b o e => by rw [upd_ne (ne_of_none e hD)]; exact e, [], upd_same, by simp only [List.take_zero]; exact .nil⟩ (fun i H _ q => hG H q.1) ?_ ?_
  · rintro i x H H' hi ⟨sm, ws, hw, h2⟩ y
    have hi2 : i < ys.length := by omega
    have sY := hY _ _ _ _ y
    refine hg _ _ _ _ _ (fun σ2 H2 q => ⟨q.1, yes_te q.2⟩) (hs i x ys[i] H H' (List.getElem?_eq_getElem hi2) sm y D hD ⟨ws, sY _ _ hw⟩ _ fun v H2 s2 r => ?_)
    have s3 := sY.trans s2
    have hw2 := s3 _ _ hw
    have hlen := h2.length
    rw [List.length_take] at hlen
    refine ⟨ws, hw2, Evl.sz_lt (by omega), fun b o e => ?_, ws ++ [v], upd_same, ?_⟩
    · rw [upd_ne (ne_of_none e hD)]
      exact s3 _ _ (sm _ _ e)
    · rw [List.take_succ_eq_append_getElem hi2]
      exact (h2.imp fun v b r => hput D H2 ws _ v b hw2 (hst D _ _ v b r s3)).app (.cons (hput D H2 ws _ v _ hw2 r) .nil)
  · rintro H ⟨sm, ws, hw, h2⟩
    rw [List.take_of_length_le (by omega)] at h2
    exact hd D H ws hD sm hw h2
theorem yp_same {f g : Nat → Option V} {i : Nat} {H H' : Hp} {x : V} (y : YPair f g i H x H') : Same H H' := by
  obtain ⟨T, _, _, _, hT, e, _⟩ := y
  rw [e]
  exact same_upd hT
theorem ar_lcA {wi : TI} {g : TG} {tt : TT} {te : TE} {vs : List Nat} {σ : L2.St} {H : Hp} {Q : List V → Hp → Prop}
    (h : wi σ H fun J H1 => tLc (fun _ H R => R J H) g tt te vs σ H1 fun y H2 => Q [y] H2) : tCons (tLc wi g tt te vs) tNil σ H Q := h
/-- the number of the word of a place -/
def home (ws : List (List Int)) (i : Nat) : Nat := ((hmF 0 ws).getD i 0).toNat
def pcP (ws : List (List Int)) (mt : List Int) : List (Nat × Nat) := (List.range mt.length).map fun i => (home ws i, home ws (mt.getD i 0).toNat)
def pcF (ws : List (List Int)) (mt : List Int) : List (List Nat) := joinF ws.length (pcP ws mt)
theorem hmF_rng : ∀ (ws : List (List Int)) (f : Nat), ∀ z ∈ hmF f ws, (f : Int) ≤ z ∧ z < ((f + ws.length : Nat) : Int)
  | [], _, z, h => nomatch h
  | w :: r, f, z, h => by
    unfold hmF at h
    rw [List.mem_append] at h
    rw [List.length_cons]
    rcases h with h | h
    · have := (List.mem_replicate.mp h).2
      omega
    · have := hmF_rng r (f + 1) z h
      omega
theorem home_at {ws : List (List Int)} {i : Nat} (h : i < ws.flatten.length) : (hmF 0 ws)[i]? = some ((home ws i : Nat) : Int) ∧ home ws i < ws.length := by
  have hl : i < (hmF 0 ws).length := by rw [hmF_len]; exact h
  have r := hmF_rng ws 0 _ (List.getElem_mem hl)
  have e : home ws i = ((hmF 0 ws)[i]).toNat := by
    unfold home
    rw [List.getD_eq_getElem?_getD, List.getElem?_eq_getElem hl]
    rfl
  rw [e, List.getElem?_eq_getElem hl]
  refine ⟨?_, by omega⟩
  congr 1
  omega
def spPieces (K : PySem.W.Frag) (C CR : Addr) : Sp := fun vs H Q _ => ∃ (p m : Addr) (xs : List Addr) (ws : List (List Int)) (mt : List Int), vs = [.ref p, .ref m] ∧ RimsAt K C CR H p xs ws ∧ RimOk ws ∧ SqE K H m (iv mt) ∧ MatesOk ws.flatten.length mt ∧
  ∀ q H', Same H H' → CornAt K H' q (pcF ws mt) → Q (.ref q) H'
abbrev nPieces : List Str := ["rims", "mates", "place", "mate"]
theorem PrN.put {K : PySem.W.Frag} {D : Addr} {H : Hp} {ws : List V} {o : HO} {v : V} {p : Nat × Nat} (hD : H D = some (.lst ws)) (h : PrN K H v p) : PrN K (L2.upd H D o) v p := by
  obtain ⟨q, e, t⟩ := h
  exact ⟨q, e, SqT.keptL hD Kept.upd t⟩
section
variable {P : Program} {w : World} {K : PySem.W.Frag} {mg : Str → Option Value} {base : Heap} {C CR CS : Addr}
theorem scPieces : FnScope nPieces ["rims", "mates"] (defScope sPieces) := ⟨rfl, rfl, rfl, by decide +kernel, rfl, by decide +kernel, by decide +kernel⟩
theorem ok_pieces {f : Addr} {fd : FuncData} (F : Fun K "pieces_of" "pieces_of" sPieces f fd) (TC : TxRC K mg CR) (TA : TxA mg) (R : TxR mg) (GJ : Cal P w K mg base "joined" 1 ["many", "pairs"] (spJoined K)) : FnOk P w K mg base CX0 2 f fd ["rims", "mates"] (spPieces K C CR) := by
  refine F.ok scPieces (fun vs H Q E h => ?_) (fun cdv A outer s H vs Q E hr h => ?_)
  · obtain ⟨p, m, xs, ws, mt, rfl, _⟩ := h
    rfl
  · obtain ⟨p, m, xs, ws, mt, rfl, R1, ⟨l1, l4, hne, l24, hl, hb⟩, hM, ⟨lm, hm⟩, k⟩ := h
    refine ⟨_, pss_one (ps_ret (pe_cal GJ hr (by decide) (by rfl) (pa_cons (pe_callB call_len_seq (by rfl) TA.len PySem.boot_len (pa_cons (pe_fld (pv 0) rfl) pa_nil)) (pa_cons (pe_lc (own := [("place", 2), ("mate", 3)]) (g := gTup K 2 (gCons (gName 2) (gCons (gName 3) gNil))) (tt := tYes) rfl scPieces.nd (pi_enumA (K := K) rfl (by rfl) R.enum (pa_cons (pv 1) pa_nil))
        (blkOk_by (N := nPieces) (sc := defScope sPieces) (by decide +kernel)) (fun _ _ _ _ _ => pg_tup (n := 2) rfl (pgs_cons (pg_name (i := 2) scPieces.nd rfl (Or.inl rfl)) (pgs_cons (pg_name (i := 3) scPieces.nd rfl (Or.inl rfl)) pgs_nil))) (fun _ _ _ _ _ => pts_nil)
        (fun _ _ _ _ _ => pe_tup (pa_cons (pe_ix (ixt (K := K) rfl) (pe_fldK (K := K) rfl (pv 0) rfl) (pv 2) (fun _ _ => rfl)) (pa_cons (pe_ix (ixt (K := K) rfl) (pe_fldK (K := K) rfl (pv 0) rfl) (pv 3) (fun _ _ => rfl)) pa_nil)))) pa_nil)))), ?_⟩
    have lxw : xs.length = ws.length := R1.choose_spec.choose_spec.choose_spec.choose_spec.choose_spec.2.2.1.length
    obtain ⟨dx, tw, tl, th, tn, h1, h2, h3, h4, h5, h6⟩ := id R1
    refine ⟨_, rfl, p, CR, dx, _, _, rfl, h1, TC.cl, TC.n1, rf_words, tw, _, rfl, .inr h2.sq, ?_⟩
    refine ar_lcA ?_
    refine ⟨_, rfl, m, _, rfl, hM, fun J G wk hG => ?_⟩
    refine lcY wk (fun _ _ _ _ => yp_same) (pcP ws mt) (fun _ H v b => PrN K H v b) (fun _ _ _ _ _ h s => h.same s) (fun _ _ _ _ _ _ hD h => h.put hD) (by rw [List.length_map]; omega) (by rw [List.length_map]; unfold pcP; rw [List.length_map, List.length_range]) hG ?_ (fun _ _ _ _ _ => gTup_mono) ?_
    · rintro i x b H2 H3 hb sm ⟨T, y1, y2, rfl, hT, rfl, e1, e2⟩ D hD _ Qy ky
      cases e1
      have hin : i < mt.length := by
        have := (List.getElem?_eq_some_iff.mp hb).1
        unfold pcP at this
        rwa [List.length_map, List.length_range] at this
      obtain rfl : y2 = V.int mt[i] := by
        have e2 : (iv mt)[i]? = some y2 := e2
        rw [List.getElem?_map, List.getElem?_eq_getElem hin] at e2
        exact (Option.some.inj e2).symm
      obtain ⟨z0, z1⟩ := hm _ (List.getElem_mem hin)
      have em : mt[i] = ((mt[i].toNat : Nat) : Int) := by omega
      obtain ⟨a1, b1⟩ := home_at (ws := ws) (i := i) (by omega)
      obtain ⟨a2, b2⟩ := home_at (ws := ws) (i := mt[i].toNat) (by omega)
      have eb : b = (home ws i, home ws mt[i].toNat) := by
        unfold pcP at hb
        rw [List.getElem?_map, List.getElem?_range hin] at hb
        have this : b = (home ws i, home ws (mt.getD i 0).toNat) := (Option.some.inj hb).symm
        rw [List.getD_eq_getElem?_getD, List.getElem?_eq_getElem hin] at this
        exact this
      have sT := sm.trans (same_upd (o := .tup [.int (i : Nat), .int mt[i]]) hT)
      refine ⟨T, _, rfl, SqT.of upd_same, rfl, _, _, rfl, _, _, rfl, rfl, rfl, ?_⟩
      refine ⟨_, rfl, p, CR, dx, _, _, rfl, sT _ _ h1, TC.cl, TC.n6, rf_homes, _, rfl, th, _, _, _, rfl, rfl, (SqB.same sT h5).sq, atI_nat (iv_get a1), ?_⟩
      refine ⟨_, rfl, p, CR, dx, _, _, rfl, sT _ _ h1, TC.cl, TC.n6, rf_homes, _, rfl, th, _, _, _, rfl, rfl, (SqB.same sT h5).sq, (by rw [em]; exact atI_nat (iv_get a2)), ?_⟩
      refine ⟨by show 2 ≤ sizeLine; decide, fun q hq => ?_⟩
      refine ky _ _ (same_upd hq) ⟨q, rfl, ?_⟩
      rw [eb]
      exact SqT.of upd_same
    · intro D H2 us hD s2 h2 hA
      have lu := hA.length
      refine ⟨ws.length, D, us, pcP ws mt, by rw [List.length_map, lxw]; rfl, h2, hA, by omega, ?_, ?_, fun q H3 s3 c3 => k q H3 (s2.trans s3) c3⟩
      · rw [lu]
        unfold pcP
        rw [List.length_map, List.length_range]
        omega
      · intro b hb
        unfold pcP at hb
        obtain ⟨i, hi, rfl⟩ := List.mem_map.mp hb
        rw [List.mem_range] at hi
        obtain ⟨z0, z1⟩ := hm _ (List.getElem_mem hi)
        have e : mt.getD i 0 = mt[i] := by
          rw [List.getD_eq_getElem?_getD, List.getElem?_eq_getElem hi]
          rfl
        rw [e]
        exact ⟨(home_at (by omega)).2, (home_at (by omega)).2⟩
end
end W33
set_option Elab.async false
set_option linter.all false
set_option maxRecDepth 100000
set_option maxHeartbeats 1000000
namespace W33
open PySem L2 PySem.Spec PyProof.Rows WR WB WE
theorem CornAt.same {K : PySem.W.Frag} {H H' : Hp} {a : Addr} {cs : List (List Nat)} (h : CornAt K H a cs) (s : Same H H') : CornAt K H' a cs := by
  obtain ⟨vs, h1, h2⟩ := h
  exact ⟨vs, SqB.same s h1, h2.imp fun _ _ ⟨q, e, r⟩ => ⟨q, e, SqB.same s r⟩⟩
theorem CornAt.put {K : PySem.W.Frag} {H : Hp} {a p C dx : Addr} {fs : List (Str × V)} {o : HO} {cs : List (List Nat)} (h : CornAt K H a cs) (hp : H p = some (.ins C dx fs)) : CornAt K (L2.upd H p o) a cs := by
  obtain ⟨vs, h1, h2⟩ := h
  exact ⟨vs, SqB.put h1 hp, h2.imp fun _ _ ⟨q, e, r⟩ => ⟨q, e, SqB.put r hp⟩⟩
def cornF (ws : List (List Int)) (mt : List Int) : List (List Nat) := (crn (nxF 0 ws) mt ws.flatten.length ws.flatten.length).2
def costF (ws : List (List Int)) (mt : List Int) : Int := ((ws.flatten.length / 2 : Nat) : Int) - ((cornF ws mt).length : Int)
def handF (ws : List (List Int)) (mt : List Int) : Int := (2 * ((pcF ws mt).length : Int) - (ws.length : Int) + costF ws mt) / 2
def sf (rp tm tc : Addr) (c : Int) (tp : Addr) (g : Int) : List (Str × V) := [("rims", .ref rp), ("mates", .ref tm), ("corners", .ref tc), ("cost", .int c), ("pieces", .ref tp), ("handles", .int g)]
theorem ps1 {rp : Addr} : putF "rims" (.ref rp) ([] : List (Str × V)) = ([("rims", .ref rp)] : List (Str × V)) := rfl
theorem ps2 {rp tm : Addr} : putF "mates" (.ref tm) ([("rims", .ref rp)] : List (Str × V)) = ([("rims", .ref rp), ("mates", .ref tm)] : List (Str × V)) := by
  rw [pf_ne (show ¬ (("rims" : Str) = "mates") by decide +kernel)]
  rfl
theorem ps3 {rp tm tc : Addr} : putF "corners" (.ref tc) ([("rims", .ref rp), ("mates", .ref tm)] : List (Str × V)) = ([("rims", .ref rp), ("mates", .ref tm), ("corners", .ref tc)] : List (Str × V)) := by
  rw [pf_ne (show ¬ (("rims" : Str) = "corners") by decide +kernel), pf_ne (show ¬ (("mates" : Str) = "corners") by decide +kernel)]
  rfl
theorem ps4 {rp tm tc : Addr} {c : Int} : putF "cost" (.int c) ([("rims", .ref rp), ("mates", .ref tm), ("corners", .ref tc)] : List (Str × V)) = ([("rims", .ref rp), ("mates", .ref tm), ("corners", .ref tc), ("cost", .int c)] : List (Str × V)) := by
  rw [pf_ne (show ¬ (("rims" : Str) = "cost") by decide +kernel), pf_ne (show ¬ (("mates" : Str) = "cost") by decide +kernel), pf_ne (show ¬ (("corners" : Str) = "cost") by decide +kernel)]
  rfl
theorem ps5 {rp tm tc tp : Addr} {c : Int} : putF "pieces" (.ref tp) ([("rims", .ref rp), ("mates", .ref tm), ("corners", .ref tc), ("cost", .int c)] : List (Str × V)) = ([("rims", .ref rp), ("mates", .ref tm), ("corners", .ref tc), ("cost", .int c), ("pieces", .ref tp)] : List (Str × V)) := by
  rw [pf_ne (show ¬ (("rims" : Str) = "pieces") by decide +kernel), pf_ne (show ¬ (("mates" : Str) = "pieces") by decide +kernel), pf_ne (show ¬ (("corners" : Str) = "pieces") by decide +kernel), pf_ne (show ¬ (("cost" : Str) = "pieces") by decide +kernel)]
  rfl
theorem ps6 {rp tm tc tp : Addr} {c g : Int} : putF "handles" (.int g) ([("rims", .ref rp), ("mates", .ref tm), ("corners", .ref tc), ("cost", .int c), ("pieces", .ref tp)] : List (Str × V)) = sf rp tm tc c tp g := by
  rw [pf_ne (show ¬ (("rims" : Str) = "handles") by decide +kernel), pf_ne (show ¬ (("mates" : Str) = "handles") by decide +kernel), pf_ne (show ¬ (("corners" : Str) = "handles") by decide +kernel), pf_ne (show ¬ (("cost" : Str) = "handles") by decide +kernel), pf_ne (show ¬ (("pieces" : Str) = "handles") by decide +kernel)]
  rfl
theorem sf_rims {rp tm tc tp : Addr} {c g : Int} : (sf rp tm tc c tp g).lookup ("rims" : Str) = some (.ref rp) := lk_eq
theorem sf_mates {rp tm tc tp : Addr} {c g : Int} : (sf rp tm tc c tp g).lookup ("mates" : Str) = some (.ref tm) := by
  unfold sf
  rw [lk_ne (by decide +kernel)]
  exact lk_eq
theorem sf_cost {rp tm tc tp : Addr} {c g : Int} : (sf rp tm tc c tp g).lookup ("cost" : Str) = some (.int c) := by
  unfold sf
  rw [lk_ne (by decide +kernel), lk_ne (by decide +kernel), lk_ne (by decide +kernel)]
  exact lk_eq
def SewAt (K : PySem.W.Frag) (C CR CS : Addr) (H : Hp) (p rp : Addr) (xs : List Addr) (ws : List (List Int)) (mt : List Int) : Prop :=
  ∃ dx tm tc tp, H p = some (.ins CS dx (sf rp tm tc (costF ws mt) tp (handF ws mt))) ∧ RimsAt K C CR H rp xs ws ∧ SqB K H tm (iv mt) ∧ CornAt K H tc (cornF ws mt) ∧ CornAt K H tp (pcF ws mt)
theorem SewAt.same {K : PySem.W.Frag} {C CR CS : Addr} {H H' : Hp} {p rp : Addr} {xs : List Addr} {ws : List (List Int)} {mt : List Int} (h : SewAt K C CR CS H p rp xs ws mt) (s : Same H H') : SewAt K C CR CS H' p rp xs ws mt := by
  obtain ⟨dx, tm, tc, tp, h1, h2, h3, h4, h5⟩ := h
  exact ⟨dx, tm, tc, tp, s _ _ h1, h2.same s, SqB.same s h3, h4.same s, h5.same s⟩
theorem tup_of {K : PySem.W.Frag} {H : Hp} {m : Addr} {xs : List V} {Q : VK} (h : SqW K H m xs) (k : NewB K H Q xs) : (SqL K H m xs ∧ NewB K H Q xs) ∨ (SqB K H m xs ∧ Q (.ref m) H) :=
  h.elim (fun a => .inl ⟨a, k⟩) fun b => .inr ⟨b, k.self b⟩
structure TxSC (K : PySem.W.Frag) (mg : Str → Option Value) (CS : Addr) : Prop where
  cl : Cls K CS
  n1 : NoAttr K CS "rims"
  n2 : NoAttr K CS "mates"
  n3 : NoAttr K CS "corners"
  n4 : NoAttr K CS "cost"
  n5 : NoAttr K CS "pieces"
  n6 : NoAttr K CS "handles"
  mgS : mg "Sewing" = some (.ref CS)
  ca : PySem.W.findIn K (.ref CS) "__class__" = some (some (.builtin "object.__class__"))
  cm : PySem.W.mroIn K CS (.type "object") = some true
def spInitS (K : PySem.W.Frag) (C CR CS : Addr) : Sp := fun vs H Q _ => ∃ (H0 : Hp) (p dx rp m : Addr) (xs : List Addr) (ws : List (List Int)) (mt : List Int), vs = [.ref p, .ref rp, .ref m] ∧ Same H0 H ∧ H0 p = none ∧ H p = some (.ins CS dx []) ∧ RimsAt K C CR H0 rp xs ws ∧ RimOk ws ∧ SqW K H0 m (iv mt) ∧ MatOk ws.flatten mt ∧
  ∀ H', Same H0 H' → SewAt K C CR CS H' p rp xs ws mt → Q .non H'
abbrev nInitS : List Str := ["self", "rims", "mates"]
section
variable {P : Program} {w : World} {K : PySem.W.Frag} {mg : Str → Option Value} {base : Heap} {C CR CS : Addr}
theorem scInitS : FnScope nInitS ["self", "rims", "mates"] (defScope sInitS) := ⟨rfl, rfl, rfl, by decide +kernel, rfl, by decide +kernel, by decide +kernel⟩
theorem ok_initS {f : Addr} {fd : FuncData} (F : Fun K "__init__" "Sewing.__init__" sInitS f fd) (TC : TxRC K mg CR) (TS : TxSC K mg CS) (TA : TxA mg) (GR : Cal P w K mg base "need_rims" 1 ["value", "part"] (spNeedR K C CR)) (GM : Cal P w K mg base "are_mates" 4 ["letters", "value"] (spAreM K))
    (GC : Cal P w K mg base "corners_of" 1 ["rims", "mates"] (spCorn K C CR)) (GP : Cal P w K mg base "pieces_of" 2 ["rims", "mates"] (spPieces K C CR)) : FnOk P w K mg base CX0 5 f fd ["self", "rims", "mates"] (spInitS K C CR CS) := by
  refine F.ok scInitS (fun vs H Q E h => ?_) (fun cdv A outer s H vs Q E hr h => ?_)
  · obtain ⟨H0, p, dx, rp, m, xs, ws, mt, rfl, _⟩ := h
    rfl
  · obtain ⟨H0, p, dx, rp, m, xs, ws, mt, rfl, s0, p0, hp, R0, ok, hM, mk, k⟩ := h
    refine ⟨_, pss_cons (ps_expr (pe_cal GR hr (by decide) (by rfl) (pa_cons (pv 1) (pa_cons pe_str pa_nil))))
      (pss_cons (ps_if (pt_not (pt_val (pe_cal GM hr (by decide) (by rfl) (pa_cons (pe_fld (pv 1) rfl) (pa_cons (pv 2) pa_nil))))) (pss_one ps_never) pss_nil)
      (pss_cons (ps_fld (pv 0) (pv 1) rfl)
      (pss_cons (ps_fld (pv 0) (pe_callTy call_tupB (by rfl) TA.tuple (by decide +kernel) (pa_cons (pv 2) pa_nil)) rfl)
      (pss_cons (ps_fld (pv 0) (pe_cal GC hr (by decide) (by rfl) (pa_cons (pv 1) (pa_cons (pv 2) pa_nil))) rfl)
      (pss_cons (ps_fld (pv 0) (pe_op op_sub (pe_fld (pv 1) rfl) (pe_callB call_len_seq (by rfl) TA.len PySem.boot_len (pa_cons (pe_fld (pv 0) rfl) pa_nil))) rfl)
      (pss_cons (ps_fld (pv 0) (pe_cal GP hr (by decide) (by rfl) (pa_cons (pv 1) (pa_cons (pv 2) pa_nil))) rfl)
      (pss_one (ps_fld (pv 0) (pe_op op_fdiv (pe_op op_add (pe_op op_sub (pe_op op_mul pe_int (pe_callB call_len_seq (by rfl) TA.len PySem.boot_len (pa_cons (pe_fld (pv 0) rfl) pa_nil))) (pe_callB call_len_seq (by rfl) TA.len PySem.boot_len (pa_cons (pe_fld (pv 1) rfl) pa_nil))) (pe_fld (pv 0) rfl)) pe_int) rfl)))))))), ?_⟩
    have l24 := ok.2.2.2.1
    obtain ⟨dr, tw, tl, th, tn, h1, h2, h3, h4, h5, h6⟩ := id R0
    have lxw : xs.length = ws.length := h3.length
    refine ⟨_, rfl, rp, _, xs, ws, rfl, R0.same s0, ?_⟩
    refine ⟨_, rfl, rp, CR, dr, _, _, rfl, s0 _ _ h1, TC.cl, TC.n2, rf_letters, _, rfl, tl, m, ws.flatten, mt, rfl, SqB.same s0 h4, hM.e.same s0, by omega, mk, fun H1 s1 => ⟨_, rfl, iteF ?_⟩⟩
    have s01 := s0.trans s1
    have hp1 := s1 _ _ hp
    -- its rims
    refine ⟨_, rfl, _, rfl, p, CS, dx, _, rfl, hp1, TS.cl, TS.n1, (by show 0 < 1000; decide), ?_⟩
    have s02 := same_put (o := (.ins CS dx (putF "rims" (.ref rp) []))) s01 p0
    have hp2 : L2.upd H1 p (.ins CS dx (putF "rims" (.ref rp) [])) p = some (.ins CS dx [("rims", .ref rp)]) := by rw [upd_same, ps1]
    obtain ⟨H2, e2⟩ : ∃ H', H' = L2.upd H1 p (.ins CS dx (putF "rims" (.ref rp) [])) := ⟨_, rfl⟩
    rw [← e2] at s02 hp2 ⊢
    clear e2
    -- its mates
    refine ⟨_, rfl, m, iv mt, rfl, tup_of (hM.same s02) fun tm H3 s3 B3 => ?_⟩
    have hp3 := s3 _ _ hp2
    have s03 := s02.trans s3
    refine ⟨_, rfl, p, CS, dx, _, rfl, hp3, TS.cl, TS.n2, (by show 1 < 1000; decide), ?_⟩
    have s04 := same_put (o := (.ins CS dx (putF "mates" (.ref tm) [("rims", .ref rp)]))) s03 p0
    have hp4 : L2.upd H3 p (.ins CS dx (putF "mates" (.ref tm) [("rims", .ref rp)])) p = some (.ins CS dx [("rims", .ref rp), ("mates", .ref tm)]) := by rw [upd_same, ps2]
    have B4 := SqB.put (o := (.ins CS dx (putF "mates" (.ref tm) [("rims", .ref rp)]))) B3 hp3
    obtain ⟨H4, e4⟩ : ∃ H', H' = L2.upd H3 p (.ins CS dx (putF "mates" (.ref tm) [("rims", .ref rp)])) := ⟨_, rfl⟩
    rw [← e4] at s04 hp4 B4 ⊢
    clear e4
    -- its corners
    refine ⟨_, rfl, _, rfl, rp, m, xs, ws, mt, rfl, R0.same s04, ok, hM.e.same s04, mk.1.1, fun tc H5 s5 C5 => ?_⟩
    have hp5 := s5 _ _ hp4
    have s05 := s04.trans s5
    have B5 := SqB.same s5 B4
    refine ⟨_, rfl, p, CS, dx, _, rfl, hp5, TS.cl, TS.n3, (by show 2 < 1000; decide), ?_⟩
    have s06 := same_put (o := (.ins CS dx (putF "corners" (.ref tc) [("rims", .ref rp), ("mates", .ref tm)]))) s05 p0
    have hp6 : L2.upd H5 p (.ins CS dx (putF "corners" (.ref tc) [("rims", .ref rp), ("mates", .ref tm)])) p = some (.ins CS dx [("rims", .ref rp), ("mates", .ref tm), ("corners", .ref tc)]) := by rw [upd_same, ps3]
    have B6 := SqB.put (o := (.ins CS dx (putF "corners" (.ref tc) [("rims", .ref rp), ("mates", .ref tm)]))) B5 hp5
    have C6 := CornAt.put (o := (.ins CS dx (putF "corners" (.ref tc) [("rims", .ref rp), ("mates", .ref tm)]))) C5 hp5
    obtain ⟨H6, e6⟩ : ∃ H', H' = L2.upd H5 p (.ins CS dx (putF "corners" (.ref tc) [("rims", .ref rp), ("mates", .ref tm)])) := ⟨_, rfl⟩
    rw [← e6] at s06 hp6 B6 C6 ⊢
    clear e6
    -- its cost
    have C6' : CornAt K H6 tc (cornF ws mt) := C6
    obtain ⟨vc, c1, c2⟩ := id C6'
    have lvc : vc.length = (cornF ws mt).length := c2.length
    refine ⟨_, rfl, rp, CR, dr, _, _, rfl, s06 _ _ h1, TC.cl, TC.n4, rf_bands, _, rfl, p, CS, dx, _, _, rfl, hp6, TS.cl, TS.n3, ?_, tc, _, rfl, .inr c1.sq, _, _, rfl, rfl, ?_⟩
    · rw [lk_ne (by decide +kernel), lk_ne (by decide +kernel)]
      exact lk_eq
    have ec : ((ws.flatten.length / 2 : Nat) : Int) - ((vc.length : Nat) : Int) = costF ws mt := by
      unfold costF
      rw [lvc]
    try dsimp only
    rw [ec]
    refine ⟨_, rfl, p, CS, dx, _, rfl, hp6, TS.cl, TS.n4, (by show 3 < 1000; decide), ?_⟩
    have s07 := same_put (o := (.ins CS dx (putF "cost" (.int (costF ws mt)) [("rims", .ref rp), ("mates", .ref tm), ("corners", .ref tc)]))) s06 p0
    have hp7 : L2.upd H6 p (.ins CS dx (putF "cost" (.int (costF ws mt)) [("rims", .ref rp), ("mates", .ref tm), ("corners", .ref tc)])) p = some (.ins CS dx [("rims", .ref rp), ("mates", .ref tm), ("corners", .ref tc), ("cost", .int (costF ws mt))]) := by rw [upd_same, ps4]
    have B7 := SqB.put (o := (.ins CS dx (putF "cost" (.int (costF ws mt)) [("rims", .ref rp), ("mates", .ref tm), ("corners", .ref tc)]))) B6 hp6
    have C7 := CornAt.put (o := (.ins CS dx (putF "cost" (.int (costF ws mt)) [("rims", .ref rp), ("mates", .ref tm), ("corners", .ref tc)]))) C6' hp6
    obtain ⟨H7, e7⟩ : ∃ H', H' = L2.upd H6 p (.ins CS dx (putF "cost" (.int (costF ws mt)) [("rims", .ref rp), ("mates", .ref tm), ("corners", .ref tc)])) := ⟨_, rfl⟩
    rw [← e7] at s07 hp7 B7 C7 ⊢
    clear e7
    -- its pieces
    refine ⟨_, rfl, _, rfl, rp, m, xs, ws, mt, rfl, R0.same s07, ok, hM.e.same s07, mk.1.1, fun tp H8 s8 P8 => ?_⟩
    have hp8 := s8 _ _ hp7
    have s08 := s07.trans s8
    have B8 := SqB.same s8 B7
    have C8 := C7.same s8
    refine ⟨_, rfl, p, CS, dx, _, rfl, hp8, TS.cl, TS.n5, (by show 4 < 1000; decide), ?_⟩
    have s09 := same_put (o := (.ins CS dx (putF "pieces" (.ref tp) [("rims", .ref rp), ("mates", .ref tm), ("corners", .ref tc), ("cost", .int (costF ws mt))]))) s08 p0
    have hp9 : L2.upd H8 p (.ins CS dx (putF "pieces" (.ref tp) [("rims", .ref rp), ("mates", .ref tm), ("corners", .ref tc), ("cost", .int (costF ws mt))])) p = some (.ins CS dx [("rims", .ref rp), ("mates", .ref tm), ("corners", .ref tc), ("cost", .int (costF ws mt)), ("pieces", .ref tp)]) := by rw [upd_same, ps5]
    have B9 := SqB.put (o := (.ins CS dx (putF "pieces" (.ref tp) [("rims", .ref rp), ("mates", .ref tm), ("corners", .ref tc), ("cost", .int (costF ws mt))]))) B8 hp8
    have C9 := CornAt.put (o := (.ins CS dx (putF "pieces" (.ref tp) [("rims", .ref rp), ("mates", .ref tm), ("corners", .ref tc), ("cost", .int (costF ws mt))]))) C8 hp8
    have P9 := CornAt.put (o := (.ins CS dx (putF "pieces" (.ref tp) [("rims", .ref rp), ("mates", .ref tm), ("corners", .ref tc), ("cost", .int (costF ws mt))]))) P8 hp8
    obtain ⟨H9, e9⟩ : ∃ H', H' = L2.upd H8 p (.ins CS dx (putF "pieces" (.ref tp) [("rims", .ref rp), ("mates", .ref tm), ("corners", .ref tc), ("cost", .int (costF ws mt))])) := ⟨_, rfl⟩
    rw [← e9] at s09 hp9 B9 C9 P9 ⊢
    clear e9
    -- its handles
    obtain ⟨vp, q1, q2⟩ := id P9
    have lvp : vp.length = (pcF ws mt).length := q2.length
    have k5 : List.lookup ("pieces" : Str) ([("rims", .ref rp), ("mates", .ref tm), ("corners", .ref tc), ("cost", .int (costF ws mt)), ("pieces", .ref tp)] : List (Str × V)) = some (.ref tp) := by
      rw [lk_ne (by decide +kernel), lk_ne (by decide +kernel), lk_ne (by decide +kernel), lk_ne (by decide +kernel)]
      exact lk_eq
    have k4 : List.lookup ("cost" : Str) ([("rims", .ref rp), ("mates", .ref tm), ("corners", .ref tc), ("cost", .int (costF ws mt)), ("pieces", .ref tp)] : List (Str × V)) = some (.int (costF ws mt)) := by
      rw [lk_ne (by decide +kernel), lk_ne (by decide +kernel), lk_ne (by decide +kernel)]
      exact lk_eq
    refine ⟨_, rfl, p, CS, dx, _, _, rfl, hp9, TS.cl, TS.n5, k5, tp, _, rfl, .inr q1.sq, _, _, rfl, rfl, .inl ⟨by decide, by decide⟩, ?_⟩
    refine ⟨_, rfl, rp, CR, dr, _, _, rfl, s09 _ _ h1, TC.cl, TC.n1, rf_words, tw, _, rfl, .inr (SqB.same s09 h2).sq, _, _, rfl, rfl, ?_⟩
    refine ⟨_, rfl, p, CS, dx, _, _, rfl, hp9, TS.cl, TS.n4, k4, _, _, rfl, rfl, ?_⟩
    refine ⟨_, _, rfl, rfl, ⟨by decide, by decide⟩, ?_⟩
    have eg : (2 * ((vp.length : Nat) : Int) - (((xs.map V.ref).length : Nat) : Int) + costF ws mt) / 2 = handF ws mt := by
      unfold handF
      rw [lvp, List.length_map, lxw]
    try dsimp only
    rw [eg]
    refine ⟨_, rfl, p, CS, dx, _, rfl, hp9, TS.cl, TS.n6, (by show 5 < 1000; decide), ?_⟩
    have s10 := same_put (o := (.ins CS dx (putF "handles" (.int (handF ws mt)) [("rims", .ref rp), ("mates", .ref tm), ("corners", .ref tc), ("cost", .int (costF ws mt)), ("pieces", .ref tp)]))) s09 p0
    refine k _ s10 ⟨dx, tm, tc, tp, by rw [upd_same, ps6], R0.same s10, SqB.put B9 hp9, C9.put hp9, P9.put hp9⟩
end
end W33
set_option Elab.async false
set_option linter.all false
set_option maxRecDepth 100000
set_option maxHeartbeats 2000000
/-! try with several except clauses, each with a name or without. -/
namespace TM
open PySem PySem.Spec PyProof.Rows L2
/-- a clause: its class, the slot of its name if it has one, what its suite says -/
structure Cla where
  of : Value
  slot : Option Nat
  say : Addr → Value → Option Addr → TS
def offS : Option Nat → L2.St → L2.St
  | none, σ => σ
  | some i, σ => σ.set i none
def onS : Option Nat → Addr → L2.St → L2.St
  | none, _, σ => σ
  | some i, a, σ => σ.set i (some (.ref a))
def endsS (o : Option Nat) (D : Ends) : Ends := { nx := fun σ H => D.nx (offS o σ) H, rt := D.rt, bk := fun σ H => D.bk (offS o σ) H, ct := fun σ H => D.ct (offS o σ) H }
/-- the first clause that fits takes it -/
def wish (K : PySem.W.Frag) (out : WX) (D : Ends) : List Cla → WX
  | [] => out
  | q :: r => fun cls d σ H => ∃ b, PySem.W.exmOne K cls q.of = some b ∧ (b = true → ∀ a, H a = none → q.say a cls d (endsS q.slot D) (onS q.slot a σ) H) ∧ (b = false → wish K out D r cls d σ H)
def Says (X : Cx) (bs : List Stmt) (say : Addr → Value → Option Addr → TS) : Prop :=
  ∀ (a : Addr) (o : Obj) (cls : Value) (d : Option Addr) (pn : List (Addr × Obj)), Zc cls d o → (∃ vs, o.data = .fields vs) → PSs (X.suite a ((a, o) :: pn)) bs (say a cls d)
inductive Fit (X : Cx) : ExceptHandler → Cla → Prop
  | bare {x : Str} {c : Value} {say : Addr → Value → Option Addr → TS} {b : Stmt} {bs : List Stmt} {p1 p2 : Pos} (hc : Names X x c) (hs : Says X (b :: bs) say) : Fit X (.ExceptHandler (some (.Name x p1)) none (b :: bs) p2) ⟨c, none, say⟩
  | named {x n : Str} {i : Nat} {c : Value} {say : Addr → Value → Option Addr → TS} {b : Stmt} {bs : List Stmt} {p1 p2 : Pos} (hN : X.N.Nodup) (hi : X.N[i]? = some n) (hl : X.env.kindOf n = some .local) (hc : Names X x c) (hs : Says X (b :: bs) say) :
      Fit X (.ExceptHandler (some (.Name x p1)) (some n) (b :: bs) p2) ⟨c, some i, say⟩
inductive Fits (X : Cx) : List ExceptHandler → List Cla → Prop
  | nil : Fits X [] []
  | cons {h : ExceptHandler} {q : Cla} {hs : List ExceptHandler} {l : List Cla} (f : Fit X h q) (r : Fits X hs l) : Fits X (h :: hs) (q :: l)
/-- an exception that flies over X's frame, with the state that it left -/
structure Held (X : Cx) (pins : List (Addr × Obj)) (σ : L2.St) (H : Hp) (cls : Value) (d : Option Addr) (a : Addr) (B : Heap) (s0 s : Shared) : Prop where
  inv : Inv X pins σ H s0
  old : ∀ b o, s0.heap.get? b = some o → b ∉ frs X.stack → B.get? b = some o
  up : s0.heap.UpToSlots s.heap
  fly : HandSPX.FlyingZ B (X.env :: X.outer) a (Zc cls d) s.heap
  os : s.os = s0.os
  bare : AllBare s.gens
  free : H a = none
section
variable {X : Cx} {pins : List (Addr × Obj)} {σ : L2.St} {H : Hp} {D : Ends} {out : WX} {cls : Value} {d : Option Addr} {a : Addr} {B : Heap} {s0 s : Shared}
theorem Held.now (h : Held X pins σ H cls d a B s0 s) : Inv X pins σ H s := h.inv.landed h.old h.fly.1 h.up h.os h.bare
theorem Held.pinned (h : Held X pins σ H cls d a B s0 s) (hf : X.env.frame = some X.env.locals) : ∃ o : Obj, s.heap.get? a = some o ∧ Zc cls d o ∧ (∃ vs, o.data = .fields vs) ∧ Inv (X.suite a ((a, o) :: (X.pn ++ pins))) [] σ H s := by
  obtain ⟨o, vs, ea, z, ed⟩ := h.fly.there
  have out_ : a ∉ frs (X.env :: X.outer) := fun hm => by
    obtain ⟨_, o', e', nf⟩ := h.fly.2.2.1.mem hm
    rw [ea] at e'
    cases e'
    exact nf _ ed
  have n1 : a ≠ X.env.locals := fun z => out_ (List.mem_filterMap.mpr ⟨X.env, List.mem_cons_self, by rw [hf, z]⟩)
  have n2 : a ∉ X.fs := fun hm => by
    obtain ⟨e, he, q⟩ := List.mem_filterMap.mp hm
    exact out_ (List.mem_filterMap.mpr ⟨e, List.mem_cons_of_mem _ he, q⟩)
  exact ⟨o, ea, z, ⟨vs, ed⟩, h.now.suite ea ed h.free n1 n2⟩
theorem Held.pass (h : Held X pins σ H cls d a B s0 s) (hs : X.stack = X.env :: X.outer) (hf : X.env.frame = some X.env.locals) (tk : Takes X out) (w : out cls d σ H) : wpAny (model X.prog X.w) X.A (handleBy (.ref a) X.env []) (SP X pins D) X.xe s := by
  obtain ⟨_, _, _, oe, vs, T, oT, ts', he, hz, hd, h1, _⟩ := id h.fly
  refine wpAny_handleBy_nil ?_
  unfold PySem.passOn
  refine wpAny_bind (wpAny_field he hd h1 ?_)
  rw [if_neg (show ¬ ((Value.ref T == Value.none) = true) from by simp)]
  have last : wpAny (model X.prog X.w) X.A (setFlight (.ref a) X.env.frame) (fun _ s4 => wpAny (model X.prog X.w) X.A (throw (.ref a) : Sem Flow) (SP X pins D) X.xe s4) X.xe s := by
    rw [hf]
    exact HandSPX.setFlight_upZ h.fly fun h4 hh4 up4 => wpAny_throw (tk _ _ ⟨a, B, s0, pins, σ, H, cls, d, rfl, h.inv, h.old, h.up.trans up4, .inr (.inr (by rw [hs]; exact hh4)), h.free, h.os, h.bare, w⟩)
  first
    | exact wpAny_bind (wpAny_pure (wpAny_bind last))
    | exact wpAny_bind last
theorem Held.goes (h : Held X pins σ H cls d a B s0 s) (hs : X.stack = X.env :: X.outer) (hf : X.env.frame = some X.env.locals) (tk : Takes X out) {hds : List ExceptHandler} {l : List Cla} (fs : Fits X hds l) (w : wish X.K out D l cls d σ H) :
    wpAny (model X.prog X.w) X.A (handleBy (.ref a) X.env hds) (SP X pins D) X.xe s := by
  induction fs with
  | nil => exact h.pass hs hf tk w
  | @cons hd q hds l f r ih =>
    obtain ⟨b, eb, yes, no⟩ := w
    obtain ⟨o, ea, z, ed, S⟩ := h.pinned hf
    have look : PySem.W.Looks (model X.prog X.w) s.heap (typeOf (.ref a)) cls := fun A Q E s' k q => wpAny_typeOf_ref (k _ _ ea) (by rw [z.1]; exact q)
    have lm := PySem.W.exm_one (M := model X.prog X.w) h.now.kIn look eb
    have named : ∀ {x : Str} {c : Value} {p : Pos} {Q : Value → Shared → Prop} {E : Value → Shared → Prop}, Names X x c → Q c s → wpAny (model X.prog X.w) (X.A.mark (some (.ref a))) (eval (.Name x p) X.env) Q E s := fun {x c p Q E} hc k => by
      obtain ⟨g1, g2, m | ⟨m, v, nn⟩⟩ := hc
      · exact ld_glob (X := X.suite a ((a, o) :: (X.pn ++ pins))) S g1 m k g2
      · exact ld_blt (X := X.suite a ((a, o) :: (X.pn ++ pins))) S g1 m v k nn g2
    cases f with
    | bare hc say =>
      refine wpAny_handleBy_cons (codeAny_handlers_test (named hc (lm.here ?_))) (by intro q; cases q)
      cases b with
      | false => exact ih (no rfl)
      | true =>
        refine codeAny_handlers_suite (HandSPX.lands_againZ h.fly fun h4 fl4 up4 => ?_)
        have h' : Held X pins σ H cls d a B s0 { s with heap := h4 } := ⟨h.inv, h.old, h.up.trans up4, fl4, h.os, h.bare, h.free⟩
        obtain ⟨o4, _, z4, ed4, S4⟩ := h'.pinned hf
        refine wpAny_mono ((say a o4 cls d (X.pn ++ pins) z4 ed4).run [] _ _ H _ S4 (yes rfl a h.free)) (fun f s6 hsp => ?_) (fun _ _ z => False.elim z)
        have ok := h.inv.ok
        cases f with
        | next => obtain ⟨σ6, H6, S6, q6⟩ := hsp; exact ⟨_, _, S6.unsuite ok, q6⟩
        | brk => obtain ⟨σ6, H6, S6, q6⟩ := hsp; exact ⟨_, _, S6.unsuite ok, q6⟩
        | cont => obtain ⟨σ6, H6, S6, q6⟩ := hsp; exact ⟨_, _, S6.unsuite ok, q6⟩
        | ret u => obtain ⟨v6, σ6, H6, S6, r6, q6⟩ := hsp; exact ⟨_, _, _, S6.unsuite ok, r6, q6⟩
    | @named x n i c say0 b0 bs p1 p2 hN hi hl hc say =>
      refine wpAny_handleBy_cons (codeAny_handlers_test (named hc (lm.here ?_))) (by intro q; cases q)
      cases b with
      | false => exact ih (no rfl)
      | true =>
        refine codeAny_handlers_suite_as (HandSPX.lands_againZ h.fly fun h4 fl4 up4 => ?_)
        have h' : Held X pins σ H cls d a B s0 { s with heap := h4 } := ⟨h.inv, h.old, h.up.trans up4, fl4, h.os, h.bare, h.free⟩
        obtain ⟨o4, _, z4, ed4, S4⟩ := h'.pinned hf
        refine store_ok (X := X.suite a ((a, o4) :: (X.pn ++ pins))) (v := .ref a) S4 hN hi (.inl hl) rfl (fun s5 S5 => ?_) (.inr hl)
        refine wpAny_mono ((say a o4 cls d (X.pn ++ pins) z4 ed4).run [] s5 _ H _ S5 (yes rfl a h.free)) (fun f s6 hsp => ?_) (fun _ _ z => False.elim z)
        have ok := h.inv.ok
        have end_ : ∀ {σ6 : L2.St} {H6 : Hp} {Q : Shared → Prop}, Inv (X.suite a ((a, o4) :: (X.pn ++ pins))) [] σ6 H6 s6 → (∀ s7, Inv X pins (σ6.set i none) H6 s7 → Q s7) →
            wpAny (model X.prog X.w) X.A (do bindName X.env n .none; unbindBehindTheSuite X.env n p2) (fun _ s7 => Q s7) X.xe s6 := fun {σ6 H6 Q} S6 hq => gone_ok (S6.unsuite ok) hN hi hl hq
        cases f with
        | next => obtain ⟨σ6, H6, S6, q6⟩ := hsp; exact end_ S6 fun s7 J7 => ⟨_, _, J7, q6⟩
        | brk => obtain ⟨σ6, H6, S6, q6⟩ := hsp; exact end_ S6 fun s7 J7 => ⟨_, _, J7, q6⟩
        | cont => obtain ⟨σ6, H6, S6, q6⟩ := hsp; exact end_ S6 fun s7 J7 => ⟨_, _, J7, q6⟩
        | ret u => obtain ⟨v6, σ6, H6, S6, r6, q6⟩ := hsp; exact end_ S6 fun s7 J7 => ⟨_, _, _, J7, r6, q6⟩
end
section
variable {X : Cx} {body : List Stmt} {h0 : ExceptHandler} {hds : List ExceptHandler} {l : List Cla} {pos : Pos} {tb : WX → TS} {out : WX}
theorem ps_try_ms (hs : X.stack = X.env :: X.outer) (hf : X.env.frame = some X.env.locals) (tk : Takes X out)
    (hb : ∀ (W : WX) (pn : List (Addr × Obj)) (xe : Value → Shared → Prop), Takes (X.tr pn xe) W → PassesOwn (model X.prog X.w) X.A X.env xe → PSs (X.tr pn xe) body (tb W))
    (fs : Fits X (h0 :: hds) l) : PS X (.Try body (h0 :: hds) [] [] pos) (fun D σ H => tb (wish X.K out D l) D σ H) := by
  refine ⟨fun pins s σ H D I h => ?_⟩
  have ok := I.ok
  have hfr : X.A.frames = some (X.env :: X.outer) := by rw [ok.frames, hs]
  refine wpAny_Try_except (wpAny_mono ((hb (wish X.K out D l) (X.pn ++ pins) (fun e s₁ => wpAny (model X.prog X.w) X.A (noteFrame e X.env) (fun _ s₂ => wpAny (model X.prog X.w) X.A (setFlight e none) (fun _ s₃ =>
    wpAny (model X.prog X.w) X.A (handleBy e X.env (h0 :: hds)) (SP X pins D) X.xe s₃) X.xe s₂) X.xe s₁) (fun u s' xx => ?_) PassesOwn.looking).run [] s σ H D (I.toTry _) h) (fun f s1 hsp => ?_) (fun e s1 he => he))
  · obtain ⟨a, B, s0, pins', σ', H', cls, d, rfl, J', old, up, sky, free, os, bare, w⟩ := xx
    have sky' : Sky B (X.env :: X.outer) a (Zc cls d) X.env.locals s'.heap := by rw [← hs]; exact sky
    exact Sky.land Zc.steady hfr hf sky' fun h3 fl3 up3 => Held.goes (s := { s' with heap := h3 }) ⟨J'.ofTry ok, old, up.trans up3, fl3, os, bare, free⟩ hs hf tk fs w
  · cases f with
    | next => obtain ⟨σ', H', J', q⟩ := hsp; exact wpAny_execs_nil ⟨σ', H', J'.ofTry ok, q⟩
    | brk => obtain ⟨σ', H', J', q⟩ := hsp; exact ⟨σ', H', J'.ofTry ok, q⟩
    | cont => obtain ⟨σ', H', J', q⟩ := hsp; exact ⟨σ', H', J'.ofTry ok, q⟩
    | ret u => obtain ⟨v, σ', H', J', r, q⟩ := hsp; exact ⟨v, σ', H', J'.ofTry ok, r, q⟩
end
end TM
set_option Elab.async false
set_option linter.all false
set_option maxRecDepth 100000
set_option maxHeartbeats 600000
/-! Rounds of a permutation of 0 to n - 1: how many there are, and what an exchange of two places does to that. -/
namespace Cy
/-- f goes from below n to below n, no two to one -/
structure Bij (n : Nat) (f : Nat → Nat) : Prop where
  lt : ∀ i, i < n → f i < n
  inj : ∀ i j, i < n → j < n → f i = f j → i = j
/-- the greatest place passed over -/
def byp (n : Nat) (f : Nat → Nat) : Nat → Nat := fun x => if f x = n then f n else f x
def cyc : Nat → (Nat → Nat) → Nat
  | 0, _ => 0
  | n + 1, f => (if f n = n then 1 else 0) + cyc n (byp n f)
def swp (a b x : Nat) : Nat := if x = a then b else if x = b then a else x
theorem swp_l (a b : Nat) : swp a b a = b := if_pos rfl
theorem swp_r (a b : Nat) : swp a b b = a := by
  unfold swp
  split
  · rename_i h; exact h
  · rw [if_pos rfl]
theorem swp_o {a b x : Nat} (h1 : x ≠ a) (h2 : x ≠ b) : swp a b x = x := by
  unfold swp
  rw [if_neg h1, if_neg h2]
theorem swp_comm (a b x : Nat) : swp a b x = swp b a x := by
  by_cases h1 : x = a
  · subst h1
    rw [swp_l, swp_r]
  · by_cases h2 : x = b
    · subst h2
      rw [swp_l, swp_r]
    · rw [swp_o h1 h2, swp_o h2 h1]
theorem swp_swp (a b x : Nat) : swp a b (swp a b x) = x := by
  by_cases h1 : x = a
  · subst h1
    rw [swp_l, swp_r]
  · by_cases h2 : x = b
    · subst h2
      rw [swp_r, swp_l]
    · rw [swp_o h1 h2, swp_o h1 h2]
theorem swp_lt {n a b x : Nat} (ha : a < n) (hb : b < n) (hx : x < n) : swp a b x < n := by
  unfold swp
  split
  · exact hb
  · split
    · exact ha
    · exact hx
theorem Bij.swp {n : Nat} {f : Nat → Nat} (h : Bij n f) {a b : Nat} (ha : a < n) (hb : b < n) : Bij n fun x => f (Cy.swp a b x) :=
  ⟨fun i hi => h.lt _ (swp_lt ha hb hi), fun i j hi hj e => by
    have := h.inj _ _ (swp_lt ha hb hi) (swp_lt ha hb hj) e
    rw [← swp_swp a b i, this, swp_swp]⟩
theorem Bij.byp {n : Nat} {f : Nat → Nat} (h : Bij (n + 1) f) : Bij n (Cy.byp n f) := by
  refine ⟨fun i hi => ?_, fun i j hi hj e => ?_⟩
  · unfold Cy.byp
    split
    · rename_i hf
      have h1 := h.lt n (by omega)
      have : f n ≠ n := fun q => by
        have := h.inj i n (by omega) (by omega) (hf.trans q.symm)
        omega
      omega
    · have h1 := h.lt i (by omega)
      omega
  · unfold Cy.byp at e
    split at e
    · rename_i hf
      split at e
      · rename_i hg
        exact h.inj i j (by omega) (by omega) (hf.trans hg.symm)
      · have := h.inj n j (by omega) (by omega) e
        omega
    · split at e
      · have := h.inj i n (by omega) (by omega) e
        omega
      · exact h.inj i j (by omega) (by omega) e
theorem cyc_congr : ∀ (n : Nat) (f g : Nat → Nat), (∀ i, i < n → f i = g i) → Bij n f → cyc n f = cyc n g
  | 0, _, _, _, _ => rfl
  | n + 1, f, g, h, hb => by
    unfold cyc
    rw [h n (by omega)]
    congr 1
    refine cyc_congr n _ _ (fun i hi => ?_) hb.byp
    unfold byp
    rw [h n (by omega), h i (by omega)]
/-- a place that is hit -/
theorem Bij.hit {n : Nat} {f : Nat → Nat} (h : Bij n f) {y : Nat} (hy : y < n) : ∃ x, x < n ∧ f x = y := by
  refine Decidable.byContradiction fun no => ?_
  have nd : (y :: (List.range n).map f).Nodup := by
    refine List.nodup_cons.mpr ⟨fun hm => ?_, ?_⟩
    · obtain ⟨x, hx, e⟩ := List.mem_map.mp hm
      exact no ⟨x, List.mem_range.mp hx, e⟩
    · refine List.pairwise_map.mpr ((List.nodup_range (n := n)).imp_of_mem fun {a b} ha hb ne e => ?_)
      exact ne (h.inj a b (List.mem_range.mp ha) (List.mem_range.mp hb) e)
  have := L2.nat_nodup_len _ (List.range n) nd fun x hx => by
    rcases List.mem_cons.mp hx with rfl | hx
    · exact List.mem_range.mpr hy
    · obtain ⟨z, hz, rfl⟩ := List.mem_map.mp hx
      exact List.mem_range.mpr (h.lt z (List.mem_range.mp hz))
  rw [List.length_cons, List.length_map, List.length_range] at this
  omega
/-- two places exchanged: one round more or one less -/
theorem cyc_swp : ∀ (n : Nat) (f : Nat → Nat) (a b : Nat), Bij n f → a < n → b < n → a ≠ b → cyc n (fun x => f (swp a b x)) = cyc n f + 1 ∨ cyc n f = cyc n (fun x => f (swp a b x)) + 1
  | 0, _, _, _, _, h, _, _ => absurd h (Nat.not_lt_zero _)
  | n + 1, f, a, b, hB, ha, hb, ne => by
    have main : ∀ a, a < n → cyc (n + 1) (fun x => f (swp a n x)) = cyc (n + 1) f + 1 ∨ cyc (n + 1) f = cyc (n + 1) (fun x => f (swp a n x)) + 1 := by
      intro a ha
      have hf' : Bij (n + 1) (fun x => f (swp a n x)) := hB.swp (by omega) (by omega)
      have ean : (fun x => f (swp a n x)) n = f a := by show f (swp a n n) = f a; rw [swp_r]
      have eaa : f (swp a n a) = f n := by rw [swp_l]
      have eo : ∀ x, x ≠ a → x < n → f (swp a n x) = f x := fun x h1 h2 => by rw [swp_o h1 (by omega)]
      by_cases h1 : f n = n
      · right
        have hfa : f a ≠ n := fun q => by
          have := hB.inj a n (by omega) (by omega) (q.trans h1.symm)
          omega
        unfold cyc
        rw [if_pos h1, if_neg (by rw [ean]; exact hfa)]
        have : cyc n (byp n fun x => f (swp a n x)) = cyc n (byp n f) := by
          refine cyc_congr n _ _ (fun i hi => ?_) hf'.byp
          unfold byp
          show (if f (swp a n i) = n then f (swp a n n) else f (swp a n i)) = _
          rw [swp_r]
          by_cases hi' : i = a
          · subst hi'
            rw [swp_l, if_pos h1, if_neg hfa]
          · rw [eo i hi' hi]
            have : f i ≠ n := fun q => by
              have := hB.inj i n (by omega) (by omega) (q.trans h1.symm)
              omega
            rw [if_neg this, if_neg this]
        omega
      · by_cases h2 : f a = n
        · left
          unfold cyc
          rw [if_neg h1, if_pos (by rw [ean]; exact h2)]
          have : cyc n (byp n fun x => f (swp a n x)) = cyc n (byp n f) := by
            refine cyc_congr n _ _ (fun i hi => ?_) hf'.byp
            unfold byp
            show (if f (swp a n i) = n then f (swp a n n) else f (swp a n i)) = _
            rw [swp_r]
            by_cases hi' : i = a
            · subst hi'
              rw [swp_l, if_neg h1, if_pos h2]
            · rw [eo i hi' hi]
              have : f i ≠ n := fun q => by
                have := hB.inj i a (by omega) (by omega) (q.trans h2.symm)
                omega
              rw [if_neg this, if_neg this]
          omega
        · obtain ⟨c, hc, ec⟩ := hB.hit (y := n) (by omega)
          have hcn : c ≠ n := fun q => h1 (by rw [q] at ec; exact ec)
          have hca : c ≠ a := fun q => h2 (by rw [q] at ec; exact ec)
          have hc' : c < n := by omega
          unfold cyc
          rw [if_neg h1, if_neg (by rw [ean]; exact h2)]
          have : cyc n (byp n fun x => f (swp a n x)) = cyc n (fun x => byp n f (swp a c x)) := by
            refine cyc_congr n _ _ (fun i hi => ?_) hf'.byp
            unfold byp
            show (if f (swp a n i) = n then f (swp a n n) else f (swp a n i)) = (if f (swp a c i) = n then f n else f (swp a c i))
            rw [swp_r]
            by_cases hi' : i = a
            · subst hi'
              rw [swp_l, swp_l, if_neg h1, if_pos ec]
            · rw [eo i hi' hi]
              by_cases hic : i = c
              · subst hic
                rw [swp_r, if_pos ec, if_neg h2]
              · rw [swp_o hi' hic]
                have : f i ≠ n := fun q => hic (hB.inj i c (by omega) hc (q.trans ec.symm))
                rw [if_neg this, if_neg this]
          rw [this]
          have ih := cyc_swp n (byp n f) a c hB.byp ha hc' (Ne.symm hca)
          omega
    by_cases hbn : b = n
    · subst hbn
      exact main a (by omega)
    · by_cases han : a = n
      · subst han
        have e : (fun x => f (swp a b x)) = fun x => f (swp b a x) := by
          funext x
          rw [swp_comm]
        rw [e]
        exact main b (by omega)
      · have hf' : Bij (n + 1) (fun x => f (swp a b x)) := hB.swp ha hb
        have e1 : f (swp a b n) = f n := by rw [swp_o (by omega) (by omega)]
        unfold cyc
        show ((if f (swp a b n) = n then 1 else 0) + _ = _ + 1) ∨ (_ = (if f (swp a b n) = n then 1 else 0) + _ + 1)
        rw [e1]
        have : cyc n (byp n fun x => f (swp a b x)) = cyc n (fun x => byp n f (swp a b x)) := by
          refine cyc_congr n _ _ (fun i hi => ?_) hf'.byp
          unfold byp
          show (if f (swp a b i) = n then f (swp a b n) else f (swp a b i)) = _
          rw [e1]
        rw [this]
        have ih := cyc_swp n (byp n f) a b hB.byp (by omega) (by omega) ne
        omega
/-! ### the rounds, by what one place leads to -/
def it (f : Nat → Nat) : Nat → Nat → Nat
  | 0, x => x
  | k + 1, x => it f k (f x)
def Rch (f : Nat → Nat) (i j : Nat) : Prop := ∃ k, it f k i = j
/-- no place ahead leads to i -/
def New (f : Nat → Nat) (i : Nat) : Prop := ∀ i', i' < i → ¬ Rch f i' i
open Classical in
noncomputable def cnt (f : Nat → Nat) : Nat → Nat
  | 0 => 0
  | n + 1 => cnt f n + if New f n then 1 else 0
theorem it_lt {n : Nat} {f : Nat → Nat} (h : ∀ i, i < n → f i < n) : ∀ (k x : Nat), x < n → it f k x < n
  | 0, _, hx => hx
  | k + 1, x, hx => it_lt h k (f x) (h x hx)
theorem it_add (f : Nat → Nat) : ∀ (j k x : Nat), it f (j + k) x = it f k (it f j x)
  | 0, k, x => by rw [Nat.zero_add]; rfl
  | j + 1, k, x => by
    rw [show j + 1 + k = (j + k) + 1 by omega]
    exact it_add f j k (f x)
theorem Rch.refl (f : Nat → Nat) (i : Nat) : Rch f i i := ⟨0, rfl⟩
theorem Rch.trans {f : Nat → Nat} {i j k : Nat} (h : Rch f i j) (h2 : Rch f j k) : Rch f i k := by
  obtain ⟨a, rfl⟩ := h
  obtain ⟨b, rfl⟩ := h2
  exact ⟨a + b, it_add f a b i⟩
theorem Rch.step (f : Nat → Nat) (i : Nat) : Rch f i (f i) := ⟨1, rfl⟩
theorem byp_to {n : Nat} {f : Nat → Nat} (h : Bij (n + 1) f) : ∀ (k x : Nat), x < n → ∀ y, y < n → it f k x = y → Rch (byp n f) x y
  | 0, x, _, y, _, e => ⟨0, e⟩
  | k + 1, x, hx, y, hy, e => by
    by_cases hn : f x = n
    · cases k with
      | zero =>
        have : f x = y := e
        omega
      | succ k =>
        have e2 : it f k (f n) = y := by
          have : it f k (f (f x)) = y := e
          rw [hn] at this
          exact this
        have hfn : f n < n := by
          have h1 := h.lt n (by omega)
          have : f n ≠ n := fun q => by
            have := h.inj x n (by omega) (by omega) (hn.trans q.symm)
            omega
          omega
        have := byp_to h k (f n) hfn y hy e2
        refine Rch.trans ?_ this
        have e3 : byp n f x = f n := if_pos hn
        rw [← e3]
        exact Rch.step _ _
    · have hfx : f x < n := by
        have := h.lt x (by omega)
        omega
      have := byp_to h k (f x) hfx y hy e
      refine Rch.trans ?_ this
      have e3 : byp n f x = f x := if_neg hn
      rw [← e3]
      exact Rch.step _ _
theorem byp_of {n : Nat} {f : Nat → Nat} : ∀ (k x y : Nat), it (byp n f) k x = y → Rch f x y
  | 0, x, y, e => ⟨0, e⟩
  | k + 1, x, y, e => by
    refine Rch.trans ?_ (byp_of k _ y e)
    unfold byp
    split
    · rename_i h
      refine Rch.trans (Rch.step f x) ?_
      rw [h]
      exact Rch.step f n
    · exact Rch.step f x
theorem New.byp {n : Nat} {f : Nat → Nat} (h : Bij (n + 1) f) {i : Nat} (hi : i < n) : New f i ↔ New (Cy.byp n f) i := by
  refine ⟨fun hn i' h' ⟨k, e⟩ => hn i' h' (byp_of k i' i e), fun hn i' h' ⟨k, e⟩ => hn i' h' (byp_to h k i' (by omega) i hi e)⟩
theorem New.last {n : Nat} {f : Nat → Nat} (h : Bij (n + 1) f) : New f n ↔ f n = n := by
  refine ⟨fun hn => ?_, fun e i' h' ⟨k, ek⟩ => ?_⟩
  · refine Decidable.byContradiction fun q => ?_
    obtain ⟨x, hx, ex⟩ := h.hit (y := n) (by omega)
    have : x ≠ n := fun z => q (by rw [z] at ex; exact ex)
    exact hn x (by omega) ⟨1, ex⟩
  · have : ∀ (k x : Nat), x < n → it f k x < n := by
      intro k
      induction k with
      | zero => exact fun x hx => hx
      | succ k ih =>
        intro x hx
        refine ih (f x) ?_
        have h1 := h.lt x (by omega)
        have : f x ≠ n := fun q => by
          have := h.inj x n (by omega) (by omega) (q.trans e.symm)
          omega
        omega
    have := this k i' h'
    omega
theorem cnt_byp {n : Nat} {f : Nat → Nat} (h : Bij (n + 1) f) : ∀ m, m ≤ n → cnt f m = cnt (byp n f) m
  | 0, _ => rfl
  | m + 1, hm => by
    unfold cnt
    rw [cnt_byp h m (by omega)]
    congr 1
    have := New.byp h (i := m) (by omega)
    by_cases hn : New f m
    · rw [if_pos hn, if_pos (this.mp hn)]
    · rw [if_neg hn, if_neg fun q => hn (this.mpr q)]
theorem cnt_cyc : ∀ (n : Nat) (f : Nat → Nat), Bij n f → cnt f n = cyc n f
  | 0, _, _ => rfl
  | n + 1, f, h => by
    unfold cnt cyc
    rw [cnt_byp h n (Nat.le_refl _), cnt_cyc n _ h.byp, Nat.add_comm]
    congr 1
    have := New.last h
    by_cases hn : New f n
    · rw [if_pos hn, if_pos (this.mp hn)]
    · rw [if_neg hn, if_neg fun q => hn (this.mpr q)]
end Cy
set_option Elab.async false
set_option linter.all false
set_option maxRecDepth 100000
set_option maxHeartbeats 600000
namespace W33
open PySem L2 PySem.Spec PyProof.Rows WR WB WE
/-! ### how many corners there are -/
theorem orb_all {nx mt : List Int} {n : Nat} (hlt : ∀ x, x < n → nxt nx mt x < n) : ∀ (k p : Nat) (s c : List Nat), SeenOk n s → p < n → n - s.length < k → (∀ x ∈ s, nxt nx mt x ∈ s ∨ nxt nx mt x = p) →
    SeenOk n (orb nx mt k s p c).1 ∧ (∀ x ∈ (orb nx mt k s p c).1, nxt nx mt x ∈ (orb nx mt k s p c).1) ∧ p ∈ (orb nx mt k s p c).1 ∧ (∀ x ∈ s, x ∈ (orb nx mt k s p c).1) ∧ (∀ j ∈ (orb nx mt k s p c).1, j ∈ s ∨ Cy.Rch (nxt nx mt) p j) ∧ ∃ t, (orb nx mt k s p c).2 = c ++ t ∧ (t = [] ↔ p ∈ s)
  | 0, _, s, _, _, _, hk, _ => absurd hk (Nat.not_lt_zero _)
  | k + 1, p, s, c, ok, hp, hk, hc => by
    by_cases h : p ∈ s
    · rw [orb_in (by omega) h]
      exact ⟨ok, fun x hx => (hc x hx).elim id fun e => e ▸ h, h, fun _ h => h, fun _ h => .inl h, [], (List.append_nil _).symm, by simp [h]⟩
    · rw [orb_out h]
      have hl := ok.lt hp h
      have ok2 : SeenOk n (p :: s) := ⟨List.nodup_cons.mpr ⟨h, ok.1⟩, fun x hx => by
        rcases List.mem_cons.mp hx with rfl | hx
        · exact hp
        · exact ok.2 x hx⟩
      obtain ⟨i1, i2, i3, i4, i5, t, i6, _⟩ := orb_all hlt k (nxt nx mt p) (p :: s) (c ++ [p]) ok2 (hlt p hp) (by rw [List.length_cons]; omega) fun x hx => by
        rcases List.mem_cons.mp hx with rfl | hx
        · exact .inr rfl
        · rcases hc x hx with e | e
          · exact .inl (List.mem_cons_of_mem _ e)
          · exact .inl (e ▸ List.mem_cons_self)
      refine ⟨i1, i2, i4 p List.mem_cons_self, fun x hx => i4 x (List.mem_cons_of_mem _ hx), fun j hj => ?_, p :: t, by rw [i6, List.append_assoc]; rfl, by simp [h]⟩
      rcases i5 j hj with hj | hj
      · rcases List.mem_cons.mp hj with rfl | hj
        · exact .inr (Cy.Rch.refl _ _)
        · exact .inl hj
      · exact .inr ((Cy.Rch.step _ p).trans hj)
theorem crn_all {nx mt : List Int} {n : Nat} (hlt : ∀ x, x < n → nxt nx mt x < n) : ∀ m, m ≤ n → SeenOk n (crn nx mt n m).1 ∧ (∀ x ∈ (crn nx mt n m).1, nxt nx mt x ∈ (crn nx mt n m).1) ∧ (∀ j, j ∈ (crn nx mt n m).1 ↔ ∃ i, i < m ∧ Cy.Rch (nxt nx mt) i j) ∧ (crn nx mt n m).2.length = Cy.cnt (nxt nx mt) m
  | 0, _ => ⟨⟨List.nodup_nil, fun _ h => nomatch h⟩, (fun _ h => nomatch h), fun j => ⟨(fun h => nomatch h), fun ⟨i, h, _⟩ => absurd h (Nat.not_lt_zero _)⟩, rfl⟩
  | m + 1, hm => by
    obtain ⟨h1, h2, h3, h4⟩ := crn_all hlt m (by omega)
    obtain ⟨i1, i2, i3, i4, i5, t, i6, i7⟩ := orb_all (mt := mt) hlt (n + 1) m (crn nx mt n m).1 [] h1 (by omega) (by omega) fun x hx => .inl (h2 x hx)
    refine ⟨i1, i2, fun j => ⟨fun hj => ?_, fun ⟨i, hi, hr⟩ => ?_⟩, ?_⟩
    · rcases i5 j hj with hj | hj
      · obtain ⟨i, hi, hr⟩ := (h3 j).mp hj
        exact ⟨i, by omega, hr⟩
      · exact ⟨m, by omega, hj⟩
    · have cl : ∀ (k x : Nat), x ∈ (crn nx mt n (m + 1)).1 → Cy.it (nxt nx mt) k x ∈ (crn nx mt n (m + 1)).1 := by
        intro k
        induction k with
        | zero => exact fun x hx => hx
        | succ k ih => exact fun x hx => ih _ (i2 x hx)
      obtain ⟨k, rfl⟩ := hr
      refine cl k i ?_
      by_cases he : i = m
      · subst he
        exact i3
      · exact i4 i ((h3 i).mpr ⟨i, by omega, Cy.Rch.refl _ _⟩)
    · have e : (crn nx mt n (m + 1)).2 = if (orb nx mt (n + 1) (crn nx mt n m).1 m []).2 = [] then (crn nx mt n m).2 else (crn nx mt n m).2 ++ [(orb nx mt (n + 1) (crn nx mt n m).1 m []).2] := rfl
      have hn : Cy.New (nxt nx mt) m ↔ ¬ m ∈ (crn nx mt n m).1 := by
        rw [h3]
        exact ⟨fun h ⟨i, hi, hr⟩ => h i hi hr, fun h i hi hr => h ⟨i, hi, hr⟩⟩
      rw [e, i6, List.nil_append]
      unfold Cy.cnt
      by_cases hs : m ∈ (crn nx mt n m).1
      · rw [if_pos (i7.mpr hs), if_neg (fun q => hn.mp q hs), h4]
        rfl
      · rw [if_neg (fun q => hs (i7.mp q)), if_pos (hn.mpr hs), List.length_append, h4]
        rfl
theorem nxF_nodup : ∀ (ws : List (List Int)) (f : Nat), (∀ w ∈ ws, w ≠ []) → (nxF f ws).Nodup
  | [], _, _ => List.nodup_nil
  | w :: r, f, hne => by
    unfold nxF
    have hl : 0 < w.length := List.length_pos_iff.mpr (hne w List.mem_cons_self)
    refine List.nodup_append.mpr ⟨?_, nxF_nodup r _ fun u hu => hne u (List.mem_cons_of_mem _ hu), fun a ha b hb e => ?_⟩
    · refine List.pairwise_map.mpr ((List.nodup_range (n := w.length)).imp_of_mem fun {a b} ha hb ne e => ne ?_)
      have ha := List.mem_range.mp ha
      have hb := List.mem_range.mp hb
      have e2 : (a + 1) % w.length = (b + 1) % w.length := by omega
      by_cases h1 : a + 1 = w.length
      · by_cases h2 : b + 1 = w.length
        · omega
        · rw [h1, Nat.mod_self, Nat.mod_eq_of_lt (by omega)] at e2
          omega
      · by_cases h2 : b + 1 = w.length
        · rw [h2, Nat.mod_self, Nat.mod_eq_of_lt (by omega)] at e2
          omega
        · rw [Nat.mod_eq_of_lt (by omega), Nat.mod_eq_of_lt (by omega)] at e2
          omega
    · obtain ⟨t, ht, rfl⟩ := List.mem_map.mp ha
      have h1 := Nat.mod_lt (t + 1) hl
      have h2 := nxF_lo r (f + w.length) b hb
      omega
where
  nxF_lo : ∀ (ws : List (List Int)) (f : Nat), ∀ z ∈ nxF f ws, (f : Int) ≤ z
    | [], _, z, h => nomatch h
    | w :: r, f, z, h => by
      unfold nxF at h
      rcases List.mem_append.mp h with h | h
      · obtain ⟨t, ht, rfl⟩ := List.mem_map.mp h
        omega
      · have := nxF_lo r (f + w.length) z h
        omega
theorem getD_lt {xs : List Int} {i : Nat} (h : i < xs.length) : xs.getD i 0 = xs[i] := by
  rw [List.getD_eq_getElem?_getD, List.getElem?_eq_getElem h]
  rfl
theorem nodup_inj {xs : List Int} (h : xs.Nodup) {i j : Nat} (hi : i < xs.length) (hj : j < xs.length) (e : xs[i] = xs[j]) : i = j := by
  have hp := List.pairwise_iff_getElem.mp h
  rcases Nat.lt_trichotomy i j with l | l | l
  · exact absurd e (hp i j hi hj l)
  · exact l
  · exact absurd e.symm (hp j i hj hi l)
/-- a mate is a place -/
def mtn (mt : List Int) (i : Nat) : Nat := (mt.getD i 0).toNat
theorem mtn_at {n : Nat} {mt : List Int} (h : MatesOk n mt) {i : Nat} (hi : i < n) : mtn mt i < n ∧ mt[i]? = some ((mtn mt i : Nat) : Int) ∧ mt.getD i 0 = ((mtn mt i : Nat) : Int) := by
  have hl : i < mt.length := by rw [h.1]; exact hi
  have hz := h.2 _ (List.getElem_mem hl)
  have e : mt.getD i 0 = ((mtn mt i : Nat) : Int) := by
    unfold mtn
    rw [getD_lt hl]
    omega
  refine ⟨?_, ?_, e⟩
  · unfold mtn
    rw [getD_lt hl]
    omega
  · rw [List.getElem?_eq_getElem hl, ← e, getD_lt hl]
theorem pair_inv {n : Nat} {mt : List Int} (h : PairOk n mt) {i : Nat} (hi : i < n) : mtn mt (mtn mt i) = i ∧ mtn mt i ≠ i := by
  have hl : i < mt.length := by rw [h.1.1]; exact hi
  obtain ⟨a1, a2, a3⟩ := mtn_at h.1 hi
  obtain ⟨p1, p2⟩ := h.2 i hl
  have e : mt[i] = ((mtn mt i : Nat) : Int) := by rw [← getD_lt hl]; exact a3
  rw [e] at p1 p2
  rw [Int.toNat_natCast] at p2
  refine ⟨?_, fun q => p1 (by rw [q])⟩
  have := (mtn_at h.1 a1).2.1
  rw [p2] at this
  have := Option.some.inj this
  omega
theorem bij_nxt {ws : List (List Int)} (hne : ∀ w ∈ ws, w ≠ []) {mt : List Int} (h : PairOk ws.flatten.length mt) : Cy.Bij ws.flatten.length (nxt (nxF 0 ws) mt) := by
  have hx : (nxF 0 ws).length = ws.flatten.length := nxF_len ws 0
  have rng : ∀ i (hi : i < (nxF 0 ws).length), 0 ≤ (nxF 0 ws)[i] ∧ (nxF 0 ws)[i] < (ws.flatten.length : Int) := fun i hi => by
    have := nxF_rng ws 0 hne _ (List.getElem_mem hi)
    omega
  have val : ∀ i (hi : i < ws.flatten.length), ((nxt (nxF 0 ws) mt i : Nat) : Int) = (nxF 0 ws)[mtn mt i]'(by rw [hx]; exact (mtn_at h.1 hi).1) := fun i hi => by
    have h1 := (mtn_at h.1 hi).1
    have hl : mtn mt i < (nxF 0 ws).length := by rw [hx]; exact h1
    show (((nxF 0 ws).getD (mtn mt i) 0).toNat : Int) = _
    rw [getD_lt hl]
    have := rng _ hl
    omega
  refine ⟨fun i hi => ?_, fun i j hi hj e => ?_⟩
  · have := val i hi
    have := rng (mtn mt i) (by rw [hx]; exact (mtn_at h.1 hi).1)
    omega
  · have e2 : ((nxt (nxF 0 ws) mt i : Nat) : Int) = ((nxt (nxF 0 ws) mt j : Nat) : Int) := by rw [e]
    rw [val i hi, val j hj] at e2
    have := nodup_inj (nxF_nodup ws 0 hne) _ _ e2
    have h1 := (pair_inv h hi).1
    rw [this, (pair_inv h hj).1] at h1
    exact h1.symm
theorem corn_cyc {ws : List (List Int)} (hne : ∀ w ∈ ws, w ≠ []) {mt : List Int} (h : PairOk ws.flatten.length mt) : (cornF ws mt).length = Cy.cyc ws.flatten.length (nxt (nxF 0 ws) mt) := by
  have hb := bij_nxt hne h
  rw [← Cy.cnt_cyc _ _ hb]
  exact (crn_all hb.lt ws.flatten.length (Nat.le_refl _)).2.2.2
/-! ### two places exchange mates -/
/-- the mates when p and q give each other theirs -/
def swpF (mt : List Int) (p q : Nat) : List Int := (List.range mt.length).map fun i => ((Cy.swp p q (mtn mt (Cy.swp p q i)) : Nat) : Int)
theorem swpF_len (mt : List Int) (p q : Nat) : (swpF mt p q).length = mt.length := by
  unfold swpF
  rw [List.length_map, List.length_range]
theorem swpF_get {mt : List Int} {p q i : Nat} (hi : i < (swpF mt p q).length) : (swpF mt p q)[i] = ((Cy.swp p q (mtn mt (Cy.swp p q i)) : Nat) : Int) := by
  simp [swpF]
theorem swpF_mtn {mt : List Int} {p q i : Nat} (hi : i < mt.length) : mtn (swpF mt p q) i = Cy.swp p q (mtn mt (Cy.swp p q i)) := by
  have hl : i < (swpF mt p q).length := by rw [swpF_len]; exact hi
  show ((swpF mt p q).getD i 0).toNat = _
  rw [getD_lt hl, swpF_get hl, Int.toNat_natCast]
theorem mates_ok_of {n : Nat} {mt : List Int} (hl : mt.length = n) (g : Nat → Nat) (hg : ∀ i (hi : i < mt.length), mt[i] = ((g i : Nat) : Int) ∧ g i < n ∧ g i ≠ i ∧ g (g i) = i) : PairOk n mt := by
  refine ⟨⟨hl, fun z hz => ?_⟩, fun i hi => ?_⟩
  · obtain ⟨i, hi, rfl⟩ := List.getElem_of_mem hz
    have := hg i hi
    omega
  · obtain ⟨e, l, ne, inv⟩ := hg i hi
    have hl2 : g i < mt.length := by omega
    refine ⟨fun q => ne (by omega), ?_⟩
    rw [e, Int.toNat_natCast, List.getElem?_eq_getElem hl2, (hg _ hl2).1, inv]
theorem swpF_pair {n : Nat} {mt : List Int} (h : PairOk n mt) {p q : Nat} (hp : p < n) (hq : q < n) : PairOk n (swpF mt p q) := by
  have hl := h.1.1
  refine mates_ok_of (by rw [swpF_len]; exact hl) (fun i => Cy.swp p q (mtn mt (Cy.swp p q i))) fun i hi => ?_
  rw [swpF_len] at hi
  have hi' : i < n := by omega
  have s1 := Cy.swp_lt hp hq hi'
  refine ⟨?_, Cy.swp_lt hp hq (mtn_at h.1 s1).1, fun e => ?_, ?_⟩
  · exact swpF_get _
  · have : mtn mt (Cy.swp p q i) = Cy.swp p q i := by rw [← Cy.swp_swp p q (mtn mt (Cy.swp p q i)), e]
    exact (pair_inv h s1).2 this
  · rw [Cy.swp_swp, (pair_inv h s1).1, Cy.swp_swp]
end W33
set_option Elab.async false
set_option linter.all false
set_option maxRecDepth 100000
set_option maxHeartbeats 1000000
namespace W33
open PySem L2 PySem.Spec PyProof.Rows WR WB WE
/-! ### what stands for a balance -/
/-! ### expressions that make something, wherever they stand -/
def LI (ns : List Int) (H : Hp) (v : V) : Prop := ∃ q, v = V.ref q ∧ H q = some (.lst (iv ns))
theorem LI.same {ns : List Int} {H H' : Hp} {v : V} (h : LI ns H v) (s : Same H H') : LI ns H' v := by
  obtain ⟨q, e, r⟩ := h
  exact ⟨q, e, s _ _ r⟩
end W33
set_option Elab.async false
set_option linter.all false
set_option maxRecDepth 100000
set_option maxHeartbeats 600000
namespace W33
open PySem L2 PySem.Spec PyProof.Rows WR WB WE
structure TN (mg : Str → Option Value) : Prop where
  len : mg "len" = none
  range : mg "range" = none
  list : mg "list" = none
  tuple : mg "tuple" = none
  int : mg "int" = none
  abs : mg "abs" = none
  min : mg "min" = none
  sorted : mg "sorted" = none
  set : mg "set" = none
  enumerate : mg "enumerate" = none
  zip : mg "zip" = none
  isinstance : mg "isinstance" = none
  repr : mg "repr" = none
end W33
set_option Elab.async false
set_option linter.all false
set_option maxRecDepth 100000
set_option maxHeartbeats 600000
namespace W33
open PySem L2 PySem.Spec PyProof.Rows WR WB WE
/-! ### letters cut into words -/
/-- words: a list of lists of letters -/
def LLs (H : Hp) (us : List V) (ws : List (List Int)) : Prop := All2 (fun v w => LI w H v) us ws
theorem LLs.same {H H' : Hp} {us : List V} {ws : List (List Int)} (h : LLs H us ws) (s : Same H H') : LLs H' us ws := h.imp fun _ _ r => r.same s
end W33
set_option Elab.async false
set_option linter.all false
set_option maxRecDepth 100000
set_option maxHeartbeats 600000
namespace W33
open PySem L2 PySem.Spec PyProof.Rows WR WB WE
/-! ### plain words -/
def plF : List (Int × Nat) → List Int
  | [] => []
  | (k, c) :: r => (List.replicate c [k, -k]).flatten ++ plF r
def sumN : List (Int × Nat) → Nat
  | [] => 0
  | (_, c) :: r => c + sumN r
theorem rep_len (k : Int) : ∀ c : Nat, (List.replicate c [k, -k]).flatten.length = 2 * c
  | 0 => rfl
  | c + 1 => by
    rw [List.replicate_succ, List.flatten_cons, List.length_append, rep_len k c]
    show 2 + 2 * c = _
    omega
theorem plF_len : ∀ xs : List (Int × Nat), (plF xs).length = 2 * sumN xs
  | [] => rfl
  | (k, c) :: r => by
    show ((List.replicate c [k, -k]).flatten ++ plF r).length = 2 * (c + sumN r)
    rw [List.length_append, rep_len, plF_len r]
    omega
theorem rep_cnt (k z : Int) : ∀ c : Nat, ((List.replicate c [k, -k]).flatten.count z : Int) = c * ((if k = z then 1 else 0) + (if -k = z then 1 else 0))
  | 0 => by simp
  | c + 1 => by
    rw [List.replicate_succ, List.flatten_cons, List.count_append, Int.natCast_add, rep_cnt k z c]
    have : (([k, -k].count z : Nat) : Int) = (if k = z then 1 else 0) + (if -k = z then 1 else 0) := by
      rw [List.count_cons, List.count_cons, List.count_nil]
      by_cases h1 : k = z
      · by_cases h2 : -k = z
        · simp only [beq_iff_eq, if_pos h1, if_pos h2]; rfl
        · simp only [beq_iff_eq, if_pos h1, if_neg h2]; rfl
      · by_cases h2 : -k = z
        · simp only [beq_iff_eq, if_neg h1, if_pos h2]; rfl
        · simp only [beq_iff_eq, if_neg h1, if_neg h2]; rfl
    rw [this, Int.natCast_add, Int.add_mul]
    simp
    omega
theorem plF_cnt0 (z : Int) : ∀ xs : List (Int × Nat), ((plF xs).count z : Int) = (plF xs).count (-z)
  | [] => rfl
  | (k, c) :: r => by
    show (((List.replicate c [k, -k]).flatten ++ plF r).count z : Int) = (((List.replicate c [k, -k]).flatten ++ plF r).count (-z) : Nat)
    rw [List.count_append, List.count_append, Int.natCast_add, Int.natCast_add, plF_cnt0 z r, rep_cnt, rep_cnt]
    congr 2
    by_cases h1 : k = z <;> by_cases h2 : -k = z <;> simp [h1, h2] <;> (try split) <;> (try split) <;> omega
theorem plF_mem {z : Int} : ∀ {xs : List (Int × Nat)}, z ∈ plF xs → ∃ p ∈ xs, z = p.1 ∨ z = -p.1
  | (k, c) :: r, h => by
    rcases List.mem_append.mp h with h | h
    · obtain ⟨l, hl, hz⟩ := List.mem_flatten.mp h
      rw [List.eq_of_mem_replicate hl] at hz
      refine ⟨(k, c), List.mem_cons_self, ?_⟩
      simpa using hz
    · obtain ⟨p, hp, e⟩ := plF_mem h
      exact ⟨p, List.mem_cons_of_mem _ hp, e⟩
theorem bal_none {xs : List Int} (h : ∀ z, (xs.count z : Int) = xs.count (-z)) : Fr.bal xs = [] := by
  unfold Fr.bal
  refine List.filter_eq_nil_iff.mpr fun p hp => ?_
  obtain ⟨i, _, rfl⟩ := List.mem_map.mp hp
  have := h ((i : Int) + 1)
  show ¬ decide (Fr.cnt xs ((i : Int) + 1) ≠ 0) = true
  unfold Fr.cnt
  rw [decide_eq_true_iff]
  omega
/-- words of drawn kinds, as often as counts tell -/
structure PlainOk (cs : List Nat) (ws : List (List Int)) (ks : List Int) : Prop where
  nd : ks.Nodup
  rg : ∀ k ∈ ks, 1 ≤ k ∧ k ≤ 26
  len : ks.length = 26
  pm : ws.flatten.Perm (plF (ks.zip cs))
  ne : ∀ w ∈ ws, w ≠ []
  l1 : 1 ≤ ws.length
  l4 : ws.length ≤ 4
theorem sum_zip : ∀ (ks : List Int) (cs : List Nat), sumN (ks.zip cs) ≤ cs.sum
  | [], _ => Nat.zero_le _
  | _ :: _, [] => Nat.zero_le _
  | k :: ks, c :: cs => by
    have := sum_zip ks cs
    rw [List.zip_cons_cons, List.sum_cons]
    show c + sumN (ks.zip cs) ≤ _
    omega
theorem PlainOk.ok {cs : List Nat} {ws : List (List Int)} {ks : List Int} (h : PlainOk cs ws ks) (hs : cs.sum ≤ 12) : RimOk ws := by
  refine ⟨h.l1, h.l4, h.ne, ?_, fun x hx => ?_, bal_none fun z => ?_⟩
  · rw [h.pm.length_eq, plF_len]
    have := sum_zip ks cs
    omega
  · obtain ⟨p, hp, e⟩ := plF_mem (h.pm.mem_iff.mp hx)
    have := h.rg p.1 (List.of_mem_zip hp).1
    omega
  · rw [h.pm.count_eq, h.pm.count_eq]
    exact plF_cnt0 z _
end W33
set_option Elab.async false
set_option linter.all false
set_option maxRecDepth 100000
set_option maxHeartbeats 600000
namespace W33
open PySem L2 PySem.Spec PyProof.Rows WR WB WE
theorem WordAt.keptL {K : PySem.W.Frag} {C : Addr} {H H' : Hp} {l p : Addr} {vs : List V} {ns : List Int} (hl : H l = some (.lst vs)) (d : Kept l H H') (h : WordAt K C H p ns) : WordAt K C H' p ns := by
  obtain ⟨dx, tl, tk, ks, h1, h2, h3, h4⟩ := h
  refine ⟨dx, tl, tk, ks, d _ _ (fun z => ?_) h1, SqB.keptL hl d h2, SqT.keptL hl d h3, h4⟩
  rw [z, hl] at h1
  cases h1
theorem pe_wordK {X : Cx} {K : PySem.W.Frag} {C : Addr} {p pos : Pos} {e : Expr} {es : List Expr} {t : TA} {j : Nat} (hK : X.K = K) (M : MkW X.prog X.w K X.mg X.base C) (T : TxW K X.mg C) (hr : Room j X.A) (hkj : 5 ≤ j) (hg : Gl X "Word") (ha : PA X (e :: es) t)
    (he : starEach (e :: es) X.env = (false, eval e X.env) :: starEach es X.env := by rfl) (hpl : (backTo pos (starEach es X.env)).any (·.1) = false := by rfl) : PE X (.Call (.Name "Word" p) (e :: es) [] pos) (tMake C (spInit K C) [] E0 t) := by
  subst hK
  exact pe_word M T hr hkj hg ha he hpl
theorem op_notInK {X : Cx} {K : PySem.W.Frag} (h : X.K = K) : OpR X (compareOp .NotIn) (rIn K true) := h ▸ op_notIn_seq
theorem call_lenK {X : Cx} {K : PySem.W.Frag} (h : X.K = K) : CallR X (.builtin "len") (fun xs H Q => ∃ p ys, xs = [.ref p] ∧ (SqL K H p ys ∨ SqT K H p ys) ∧ Q (.int ys.length) H) := h ▸ call_len_seq
/-! ### plain words made to rims; nexts, letters -/
theorem nxF_app : ∀ (xs ys : List (List Int)) (f : Nat), nxF f (xs ++ ys) = nxF f xs ++ nxF (f + xs.flatten.length) ys
  | [], ys, f => by
    show nxF f ys = [] ++ nxF (f + 0) ys
    rw [Nat.add_zero]
    rfl
  | w :: r, ys, f => by
    show _ ++ nxF (f + w.length) (r ++ ys) = (_ ++ nxF (f + w.length) r) ++ nxF (f + (w :: r).flatten.length) ys
    rw [nxF_app r ys, List.flatten_cons, List.length_append, ← Nat.add_assoc, List.append_assoc]
end W33
set_option Elab.async false
set_option linter.all false
set_option maxRecDepth 100000
set_option maxHeartbeats 600000
namespace W33
open PySem L2 PySem.Spec PyProof.Rows WR WB WE
/-! ### corners, by the law's own going round -/
theorem inV_nats {p : Nat} {s : List Nat} : inV (.int (p : Int)) (iv (nats s)) = decide (p ∈ s) := by
  unfold inV iv nats
  rw [List.map_map, List.any_map, Bool.eq_iff_iff, List.any_eq_true, decide_eq_true_iff]
  constructor
  · rintro ⟨x, hx, e⟩
    have : V.int ((x : Nat) : Int) = V.int (p : Int) := by
      have e : eqV (V.int ((x : Nat) : Int)) (V.int (p : Int)) = true := e
      simpa [eqV] using e
    injection this with this
    have : x = p := by omega
    exact this ▸ hx
  · intro h
    refine ⟨p, h, ?_⟩
    show eqV (V.int ((p : Nat) : Int)) (V.int (p : Int)) = true
    simp [eqV]
theorem flat_nats (s : List Nat) : (iv (nats s)).all flatV = true := by
  unfold iv nats
  rw [List.map_map, List.all_eq_true]
  intro x hx
  obtain ⟨y, _, rfl⟩ := List.mem_map.mp hx
  rfl
end W33
set_option Elab.async false
set_option linter.all false
set_option maxRecDepth 100000
set_option maxHeartbeats 600000
namespace W33
open PySem L2 PySem.Spec PyProof.Rows WR WB WE WS
/-! ### drawn mates -/
theorem sq_lcS {wi : TI} {g gg : TG} {tt : TT} {te : TE} {vs : List Nat} {D : Ends} {σ : L2.St} {H : Hp} {Cc : TS}
    (h : wi σ H fun J H1 => tLc (fun _ H R => R J H) g tt te vs σ H1 fun z H4 => gg z σ H4 (Cc D)) : tSeq (tAsg (tLc wi g tt te vs) gg) Cc D σ H := h
theorem self_map (ls : List Int) : ls = (List.range ls.length).map fun i => ls.getD i 0 := by
  refine List.ext_getElem (by simp) fun i h1 h2 => ?_
  rw [List.getElem_map, List.getElem_range, getD_lt h1]
theorem getD_set2 {fd : List Int} {p q : Nat} (hp : p < fd.length) (hq : q < fd.length) (n : p ≠ q) (i : Nat) : ((fd.set p ((q : Nat) : Int)).set q ((p : Nat) : Int)).getD i 0 = if i = q then ((p : Nat) : Int) else if i = p then ((q : Nat) : Int) else fd.getD i 0 := by
  rw [List.getD_eq_getElem?_getD, List.getElem?_set, List.getElem?_set, List.length_set]
  by_cases h1 : i = q
  · subst h1
    rw [if_pos rfl, if_pos hq, if_pos rfl]
    rfl
  · rw [if_neg (fun e => h1 e.symm), if_neg h1]
    by_cases h2 : i = p
    · subst h2
      rw [if_pos rfl, if_pos hp, if_pos rfl]
      rfl
    · rw [if_neg (fun e => h2 e.symm), if_neg h2, List.getD_eq_getElem?_getD]
/-- the mates of one kind, pair by pair -/
structure Prs (ls fd0 fd : List Int) (fw bw : List Nat) (j : Nat) : Prop where
  len : fd.length = ls.length
  old : ∀ p, p ∉ fw.take j → p ∉ bw.take j → fd.getD p 0 = fd0.getD p 0
  one : ∀ t, t < j → ∀ x y, fw[t]? = some x → bw[t]? = some y → fd.getD x 0 = ((y : Nat) : Int) ∧ fd.getD y 0 = ((x : Nat) : Int)
theorem take_not {xs : List Nat} (h : xs.Nodup) {i : Nat} {x : Nat} (hx : xs[i]? = some x) : x ∉ xs.take i := fun hm => by
  obtain ⟨j, hj, e⟩ := List.getElem_of_mem hm
  rw [List.length_take] at hj
  rw [List.getElem_take] at e
  have hi := (List.getElem?_eq_some_iff.mp hx)
  obtain ⟨hi1, hi2⟩ := hi
  have := List.pairwise_iff_getElem.mp h j i (by omega) hi1 (by omega)
  exact this (by rw [e, hi2])
theorem Prs.step {ls fd0 fd : List Int} {fw bw : List Nat} {j x y : Nat} (h : Prs ls fd0 fd fw bw j) (nf : fw.Nodup) (nb : bw.Nodup) (dj : ∀ a ∈ fw, a ∉ bw) (hx : fw[j]? = some x) (hy : bw[j]? = some y) (lx : x < ls.length) (ly : y < ls.length) :
    Prs ls fd0 ((fd.set x ((y : Nat) : Int)).set y ((x : Nat) : Int)) fw bw (j + 1) := by
  have nxy : x ≠ y := fun e => dj x (List.mem_of_getElem? hx) (e ▸ List.mem_of_getElem? hy)
  have hl := h.len
  have g := fun i => getD_set2 (fd := fd) (p := x) (q := y) (by omega) (by omega) nxy i
  have tx := take_not nf hx
  have ty := take_not nb hy
  have ef : fw.take (j + 1) = fw.take j ++ [x] := by
    rw [List.take_succ_eq_append_getElem (List.getElem?_eq_some_iff.mp hx).1, (List.getElem?_eq_some_iff.mp hx).2]
  have eb : bw.take (j + 1) = bw.take j ++ [y] := by
    rw [List.take_succ_eq_append_getElem (List.getElem?_eq_some_iff.mp hy).1, (List.getElem?_eq_some_iff.mp hy).2]
  refine ⟨by rw [List.length_set, List.length_set]; exact hl, fun p h1 h2 => ?_, fun t ht a b ha hb => ?_⟩
  · rw [ef, List.mem_append, List.mem_singleton, not_or] at h1
    rw [eb, List.mem_append, List.mem_singleton, not_or] at h2
    rw [g, if_neg h2.2, if_neg h1.2]
    exact h.old p h1.1 h2.1
  · rcases Nat.lt_succ_iff_lt_or_eq.mp ht with ht | rfl
    · obtain ⟨o1, o2⟩ := h.one t ht a b ha hb
      have at_ : a ∈ fw.take j := List.mem_of_getElem? (by rw [List.getElem?_take, if_pos ht]; exact ha)
      have bt : b ∈ bw.take j := List.mem_of_getElem? (by rw [List.getElem?_take, if_pos ht]; exact hb)
      have n1 : a ≠ x := fun e => tx (e ▸ at_)
      have n2 : b ≠ y := fun e => ty (e ▸ bt)
      have n3 : a ≠ y := fun e => dj a (List.mem_of_getElem? ha) (e ▸ List.mem_of_getElem? hy)
      have n4 : b ≠ x := fun e => dj x (List.mem_of_getElem? hx) (e ▸ List.mem_of_getElem? hb)
      rw [g, g, if_neg n3, if_neg n1, if_neg n2, if_neg n4]
      exact ⟨o1, o2⟩
    · obtain rfl := Option.some.inj (ha.symm.trans hx)
      obtain rfl := Option.some.inj (hb.symm.trans hy)
      rw [g, g, if_neg nxy, if_pos rfl, if_pos rfl]
      exact ⟨rfl, rfl⟩
end W33
set_option Elab.async false
set_option linter.all false
set_option maxRecDepth 100000
set_option maxHeartbeats 600000
/-! Rounds do not depend on how places are called; a place that stands alone and one passed over, taken out. -/
namespace Cy
theorem it_inj {n : Nat} {f : Nat → Nat} (h : Bij n f) : ∀ (k x y : Nat), x < n → y < n → it f k x = it f k y → x = y
  | 0, x, y, _, _, e => e
  | k + 1, x, y, hx, hy, e => h.inj x y hx hy (it_inj h k (f x) (f y) (h.lt x hx) (h.lt y hy) e)
/-- each place is come back to -/
theorem round {n : Nat} {f : Nat → Nat} (h : Bij n f) {x : Nat} (hx : x < n) : ∃ d, it f (d + 1) x = x := by
  by_cases em : ∃ i j, i < j ∧ it f i x = it f j x
  · obtain ⟨i, j, lt, e⟩ := em
    refine ⟨j - i - 1, ?_⟩
    have e1 : it f j x = it f i (it f (j - i - 1 + 1) x) := by
      rw [← it_add]
      congr 1
      omega
    exact (it_inj h i _ _ (it_lt h.lt _ _ hx) hx (by rw [← e1, ← e]))
  · have nd : ((List.range (n + 1)).map fun k => it f k x).Nodup := List.pairwise_map.mpr (List.pairwise_lt_range.imp fun {a b} lt e => em ⟨a, b, lt, e⟩)
    have := L2.nat_nodup_len _ (List.range n) nd fun y hy => by
      obtain ⟨k, _, rfl⟩ := List.mem_map.mp hy
      exact List.mem_range.mpr (it_lt h.lt k x hx)
    rw [List.length_map, List.length_range, List.length_range] at this
    omega
theorem Rch.back {n : Nat} {f : Nat → Nat} (h : Bij n f) : ∀ (k x y : Nat), x < n → it f k x = y → Rch f y x
  | 0, x, y, _, e => ⟨0, e.symm⟩
  | k + 1, x, y, hx, e => by
    refine Rch.trans (Rch.back h k (f x) y (h.lt x hx) e) ?_
    obtain ⟨d, hd⟩ := round h hx
    exact ⟨d, hd⟩
theorem Rch.symm {n : Nat} {f : Nat → Nat} (h : Bij n f) {x y : Nat} (hx : x < n) (r : Rch f x y) : Rch f y x := by
  obtain ⟨k, e⟩ := r
  exact Rch.back h k x y hx e
/-- one place of each round -/
structure Reps (n : Nat) (f : Nat → Nat) (L : List Nat) : Prop where
  lt : ∀ x ∈ L, x < n
  sep : L.Pairwise fun a b => ¬ Rch f a b
  cov : ∀ y, y < n → ∃ x ∈ L, Rch f x y
open Classical in
theorem reps_le {n : Nat} {f : Nat → Nat} {L M : List Nat} (h : Bij n f) (A : Reps n f L) (B : Reps n f M) : L.length ≤ M.length := by
  let m : Nat → Nat := fun x => if hx : x < n then choose (B.cov x hx) else 0
  have hm : ∀ x, x < n → m x ∈ M ∧ Rch f (m x) x := fun x hx => by
    have e : m x = choose (B.cov x hx) := dif_pos hx
    rw [e]
    exact choose_spec (B.cov x hx)
  have nd : (L.map m).Nodup := List.pairwise_map.mpr (A.sep.imp_of_mem fun {a b} ha hb no e => no (by
    have h1 := hm a (A.lt a ha)
    have h2 := hm b (A.lt b hb)
    refine Rch.trans (Rch.symm h (B.lt _ h1.1) h1.2) ?_
    rw [e]
    exact h2.2))
  have := L2.nat_nodup_len _ M nd fun y hy => by
    obtain ⟨x, hx, rfl⟩ := List.mem_map.mp hy
    exact (hm x (A.lt x hx)).1
  rw [List.length_map] at this
  exact this
open Classical in
noncomputable def news (f : Nat → Nat) (m : Nat) : List Nat := (List.range m).filter fun i => decide (New f i)
open Classical in
theorem news_len (f : Nat → Nat) : ∀ m, (news f m).length = cnt f m
  | 0 => rfl
  | m + 1 => by
    unfold news cnt
    rw [List.range_succ, List.filter_append, List.length_append]
    have ih := news_len f m
    unfold news at ih
    rw [ih]
    congr 1
    by_cases hn : New f m
    · rw [if_pos hn, List.filter_cons_of_pos (by simpa using hn)]
      rfl
    · rw [if_neg hn, List.filter_cons_of_neg (by simpa using hn)]
      rfl
open Classical in
theorem news_reps {n : Nat} {f : Nat → Nat} (h : Bij n f) : Reps n f (news f n) := by
  refine ⟨fun x hx => List.mem_range.mp (List.mem_filter.mp hx).1, ?_, ?_⟩
  · refine (List.pairwise_lt_range (n := n)).filter _ |>.imp_of_mem fun {a b} ha hb lt r => ?_
    have nb := of_decide_eq_true (List.mem_filter.mp hb).2
    exact nb a lt r
  · intro y
    induction y using Nat.strongRecOn with
    | ind y ih =>
      intro hy
      by_cases hn : New f y
      · exact ⟨y, List.mem_filter.mpr ⟨List.mem_range.mpr hy, decide_eq_true hn⟩, Rch.refl f y⟩
      · have : ∃ i', i' < y ∧ Rch f i' y := Classical.byContradiction fun q => hn fun i' lt r => q ⟨i', lt, r⟩
        obtain ⟨i', lt, r⟩ := this
        obtain ⟨x, hx, rx⟩ := ih i' lt (by omega)
        exact ⟨x, hx, rx.trans r⟩
theorem reps_cyc {n : Nat} {f : Nat → Nat} {L : List Nat} (h : Bij n f) (A : Reps n f L) : L.length = cyc n f := by
  rw [← cnt_cyc n f h, ← news_len]
  exact Nat.le_antisymm (reps_le h A (news_reps h)) (reps_le h (news_reps h) A)
/-- the places called otherwise -/
theorem cyc_conj {n : Nat} {f g e : Nat → Nat} (hf : Bij n f) (he : Bij n e) (hg : ∀ i, i < n → g i < n ∧ e (g i) = f (e i)) : cyc n g = cyc n f := by
  have bg : Bij n g := ⟨fun i hi => (hg i hi).1, fun i j hi hj q => by
    have h1 := (hg i hi).2
    rw [q, (hg j hj).2] at h1
    exact (he.inj _ _ hj hi (hf.inj _ _ (he.lt j hj) (he.lt i hi) h1)).symm⟩
  have iter : ∀ (k a : Nat), a < n → it f k (e a) = e (it g k a) := by
    intro k
    induction k with
    | zero => exact fun a _ => rfl
    | succ k ih =>
      intro a ha
      show it f k (f (e a)) = e (it g k (g a))
      rw [← (hg a ha).2, ih (g a) (hg a ha).1]
  have R : Reps n f ((news g n).map e) := by
    have N := news_reps bg
    refine ⟨fun x hx => ?_, List.pairwise_map.mpr (N.sep.imp_of_mem fun {a b} ha hb no r => no (by
      obtain ⟨k, q⟩ := r
      rw [iter k a (N.lt a ha)] at q
      exact ⟨k, he.inj _ _ (it_lt bg.lt k a (N.lt a ha)) (N.lt b hb) q⟩)), fun y hy => ?_⟩
    · obtain ⟨a, ha, rfl⟩ := List.mem_map.mp hx
      exact he.lt a (N.lt a ha)
    · obtain ⟨x, hx, rfl⟩ := he.hit hy
      obtain ⟨a, ha, k, q⟩ := N.cov x hx
      exact ⟨e a, List.mem_map.mpr ⟨a, ha, rfl⟩, k, by rw [iter k a (N.lt a ha), q]⟩
  have h1 := reps_cyc hf R
  rw [List.length_map] at h1
  rw [← h1, reps_cyc bg (news_reps bg)]
/-- of n + 2 places the one at e (n + 1) stands alone, the one at e n is passed over: f2 is what is left -/
theorem cyc_cut {n : Nat} {f f2 e : Nat → Nat} (hf : Bij (n + 2) f) (he : Bij (n + 2) e) (fix : f (e (n + 1)) = e (n + 1)) (nfx : f (e n) ≠ e n) (h2 : ∀ i, i < n → f2 i < n ∧ e (f2 i) = if f (e i) = e n then f (e n) else f (e i)) : cyc (n + 2) f = cyc n f2 + 1 := by
  have hit : ∀ i, i < n + 2 → ∃ j, j < n + 2 ∧ e j = f (e i) := fun i hi => he.hit (hf.lt _ (he.lt i hi))
  have gx : ∃ g : Nat → Nat, ∀ i, i < n + 2 → g i < n + 2 ∧ e (g i) = f (e i) :=
    ⟨fun i => if h : i < n + 2 then Classical.choose (hit i h) else 0, fun i hi => by
      have : (if h : i < n + 2 then Classical.choose (hit i h) else 0) = Classical.choose (hit i hi) := dif_pos hi
      show (if h : i < n + 2 then Classical.choose (hit i h) else 0) < n + 2 ∧ e (if h : i < n + 2 then Classical.choose (hit i h) else 0) = f (e i)
      rw [this]
      exact Classical.choose_spec (hit i hi)⟩
  obtain ⟨g, hg⟩ := gx
  rw [← cyc_conj hf he hg]
  have bg : Bij (n + 2) g := ⟨fun i hi => (hg i hi).1, fun i j hi hj q => by
    have h1 := (hg i hi).2
    rw [q, (hg j hj).2] at h1
    exact (he.inj _ _ hj hi (hf.inj _ _ (he.lt j hj) (he.lt i hi) h1)).symm⟩
  have g1 : g (n + 1) = n + 1 := he.inj _ _ (hg _ (by omega)).1 (by omega) (by rw [(hg _ (by omega)).2, fix])
  have gn : g n ≠ n := fun q => nfx (by
    have := (hg n (by omega)).2
    rw [q] at this
    exact this.symm)
  have ne1 : ∀ i, i < n + 1 → g i ≠ n + 1 := fun i hi q => by
    have := bg.inj i (n + 1) (by omega) (by omega) (q.trans g1.symm)
    omega
  have b1 : ∀ i, i < n + 1 → byp (n + 1) g i = g i := fun i hi => if_neg (ne1 i hi)
  show (if g (n + 1) = n + 1 then 1 else 0) + ((if byp (n + 1) g n = n then 1 else 0) + cyc n (byp n (byp (n + 1) g))) = _
  rw [if_pos g1, b1 n (by omega), if_neg gn, Nat.zero_add, Nat.add_comm]
  congr 1
  refine cyc_congr n _ _ (fun i hi => ?_) bg.byp.byp
  unfold byp
  have e0 : (if g i = n + 1 then g (n + 1) else g i) = g i := if_neg (ne1 i (by omega))
  have en : (if g n = n + 1 then g (n + 1) else g n) = g n := if_neg (ne1 n (by omega))
  rw [e0, en]
  have q := (h2 i hi).2
  rw [← (hg i (by omega)).2, ← (hg n (by omega)).2] at q
  by_cases c : g i = n
  · rw [if_pos c]
    rw [if_pos (by rw [c])] at q
    exact (he.inj _ _ (by have := (h2 i hi).1; omega) (hg n (by omega)).1 q).symm
  · rw [if_neg c]
    rw [if_neg fun z => c (he.inj _ _ (hg i (by omega)).1 (by omega) z)] at q
    exact (he.inj _ _ (by have := (h2 i hi).1; omega) (hg i (by omega)).1 q).symm
end Cy
set_option Elab.async false
set_option linter.all false
set_option maxRecDepth 100000
set_option maxHeartbeats 600000
/-! A place freed from its round; two places put in. -/
namespace Cy
theorem swp_bij {n q m : Nat} (hq : q < n) (hm : m < n) : Bij n (swp q m) := ⟨fun i hi => swp_lt hq hm hi, fun i j _ _ e => by rw [← swp_swp q m i, e, swp_swp]⟩
/-- a leads to q: exchanged, q stands alone -/
theorem cyc_free {n : Nat} {f : Nat → Nat} {a q : Nat} (h : Bij n f) (ha : a < n) (hq : q < n) (e : f a = q) (nq : f q ≠ q) : cyc n (fun x => f (swp a q x)) = cyc n f + 1 := by
  obtain ⟨m, rfl⟩ : ∃ m, n = m + 1 := ⟨n - 1, by omega⟩
  have hm : m < m + 1 := by omega
  have naq : a ≠ q := fun z => nq (by rw [z] at e; exact e)
  have bs := swp_bij hq hm
  have bG := h.swp ha hq
  have c1 := cyc_conj h bs (g := fun x => swp q m (f (swp q m x))) fun i hi => ⟨swp_lt hq hm (h.lt _ (swp_lt hq hm hi)), swp_swp _ _ _⟩
  have c2 := cyc_conj bG bs (g := fun x => swp q m (f (swp a q (swp q m x)))) fun i hi => ⟨swp_lt hq hm (bG.lt _ (swp_lt hq hm hi)), swp_swp _ _ _⟩
  rw [← c1, ← c2]
  have Fm : swp q m (f (swp q m m)) ≠ m := fun z => by
    rw [swp_r] at z
    have : f q = q := by rw [← swp_swp q m (f q), z, swp_r]
    exact nq this
  have Gm : swp q m (f (swp a q (swp q m m))) = m := by rw [swp_r, swp_r, e, swp_l]
  have gb : Bij (m + 1) fun x => swp q m (f (swp a q (swp q m x))) := ⟨fun i hi => swp_lt hq hm (bG.lt _ (swp_lt hq hm hi)), fun i j hi hj z => by
    have z1 := bs.inj _ _ (bG.lt _ (swp_lt hq hm hi)) (bG.lt _ (swp_lt hq hm hj)) z
    exact bs.inj _ _ hi hj (bG.inj _ _ (swp_lt hq hm hi) (swp_lt hq hm hj) z1)⟩
  show (if swp q m (f (swp a q (swp q m m))) = m then 1 else 0) + cyc m (byp m fun x => swp q m (f (swp a q (swp q m x)))) = (if swp q m (f (swp q m m)) = m then 1 else 0) + cyc m (byp m fun x => swp q m (f (swp q m x))) + 1
  rw [if_pos Gm, if_neg Fm, Nat.zero_add, Nat.add_comm]
  congr 1
  refine cyc_congr m _ _ (fun x hx => ?_) gb.byp
  have yq : swp q m x ≠ q := fun z => by
    have : x = m := by rw [← swp_swp q m x, z, swp_l]
    omega
  have Gx : swp q m (f (swp a q (swp q m x))) ≠ m := fun z => by
    have := gb.inj x m (by omega) hm (z.trans Gm.symm)
    omega
  show (if swp q m (f (swp a q (swp q m x))) = m then _ else swp q m (f (swp a q (swp q m x)))) = if swp q m (f (swp q m x)) = m then swp q m (f (swp q m m)) else swp q m (f (swp q m x))
  rw [if_neg Gx]
  by_cases ya : swp q m x = a
  · rw [ya, swp_l a q, e, swp_l q m, if_pos rfl, swp_r]
  · rw [swp_o ya yq, if_neg]
    intro z
    have : f (swp q m x) = q := by rw [← swp_swp q m (f (swp q m x)), z, swp_r]
    exact ya (h.inj _ _ (swp_lt hq hm (by omega)) ha (this.trans e.symm))
/-- two places put in, ahead of t; e: where the others stand then -/
structure Ins (n : Nat) (nx nx2 e : Nat → Nat) (p q t : Nat) : Prop where
  he : Bij (n + 2) e
  en : e n = p
  en1 : e (n + 1) = q
  ht : t < n
  pq : nx2 p = q
  qt : nx2 q = e t
  step : ∀ j, j < n → nx2 (e j) = if nx j = t then p else e (nx j)
  lt : ∀ j, j < n → nx j < n
/-- p and q mates: one round more, q alone -/
theorem ins_cyc {n : Nat} {nx nx2 e mt mt2 : Nat → Nat} {p q t : Nat} (I : Ins n nx nx2 e p q t) (b2 : Bij (n + 2) fun x => nx2 (mt2 x)) (hp : mt2 p = q) (hq : mt2 q = p) (hm : ∀ i, i < n → mt i < n ∧ mt2 (e i) = e (mt i)) : cyc (n + 2) (fun x => nx2 (mt2 x)) = cyc n (fun x => nx (mt x)) + 1 := by
  have ne : e t ≠ p := fun z => by
    have := I.he.inj t n (by have := I.ht; omega) (by omega) (z.trans I.en.symm)
    have := I.ht
    omega
  refine cyc_cut b2 I.he ?_ ?_ fun i hi => ⟨I.lt _ (hm i hi).1, ?_⟩
  · rw [I.en1, hq, I.pq]
  · rw [I.en, hp, I.qt]
    exact ne
  · show e (nx (mt i)) = if nx2 (mt2 (e i)) = e n then nx2 (mt2 (e n)) else nx2 (mt2 (e i))
    rw [(hm i hi).2, I.step _ (hm i hi).1, I.en, hp, I.qt]
    by_cases c : nx (mt i) = t
    · rw [if_pos c, if_pos rfl, c]
    · rw [if_neg c, if_neg]
      intro z
      have := I.he.inj (nx (mt i)) n (by have := I.lt _ (hm i hi).1; omega) (by omega) (z.trans I.en.symm)
      have := I.lt _ (hm i hi).1
      omega
end Cy
set_option Elab.async false
set_option linter.all false
set_option maxRecDepth 100000
set_option maxHeartbeats 1000000
namespace W33
open PySem L2 PySem.Spec PyProof.Rows WR WB WE
/-! ### nexts of words in which two letters are put -/
def nxN (ws : List (List Int)) (j : Nat) : Nat := ((nxF 0 ws).getD j 0).toNat
theorem nxF_up : ∀ (ws : List (List Int)) (f d : Nat), nxF (f + d) ws = (nxF f ws).map fun z => z + (d : Int)
  | [], _, _ => rfl
  | w :: r, f, d => by
    unfold nxF
    rw [List.map_append, List.map_map]
    congr 1
    · refine List.map_congr_left fun t _ => ?_
      show ((f + d : Nat) : Int) + _ = (f : Int) + _ + (d : Int)
      omega
    · rw [show f + d + w.length = f + w.length + d by omega]
      exact nxF_up r _ d
theorem nx_mid (A B : List (List Int)) (w : List Int) (hB : ∀ u ∈ B, u ≠ []) {j : Nat} (hj : j < A.flatten.length + w.length + B.flatten.length) :
    nxN (A ++ [w] ++ B) j = if j < A.flatten.length then nxN A j else if j < A.flatten.length + w.length then (if j + 1 < A.flatten.length + w.length then j + 1 else A.flatten.length) else A.flatten.length + w.length + nxN B (j - A.flatten.length - w.length) := by
  unfold nxN
  rw [nxF_app, nxF_app, Nat.zero_add, Nat.zero_add]
  have la := nxF_len A 0
  have lw : (nxF A.flatten.length [w]).length = w.length := by rw [nxF_len]; simp
  have lA : (A ++ [w]).flatten.length = A.flatten.length + w.length := by rw [List.flatten_append, List.length_append]; simp
  rw [lA]
  by_cases h1 : j < A.flatten.length
  · rw [if_pos h1, List.getD_eq_getElem?_getD, List.getD_eq_getElem?_getD, List.getElem?_append_left (by rw [List.length_append]; omega), List.getElem?_append_left (by omega)]
  · rw [if_neg h1]
    by_cases h2 : j < A.flatten.length + w.length
    · rw [if_pos h2, List.getD_eq_getElem?_getD, List.getElem?_append_left (by rw [List.length_append]; omega), List.getElem?_append_right (by omega), la]
      unfold nxF
      rw [show nxF (A.flatten.length + w.length) [] = [] from rfl, List.append_nil, List.getElem?_map, List.getElem?_range (by omega)]
      show ((A.flatten.length : Int) + (((j - A.flatten.length + 1) % w.length : Nat) : Int)).toNat = _
      by_cases h3 : j + 1 < A.flatten.length + w.length
      · rw [if_pos h3, Nat.mod_eq_of_lt (by omega)]
        omega
      · rw [if_neg h3, show j - A.flatten.length + 1 = w.length by omega, Nat.mod_self]
        omega
    · rw [if_neg h2, List.getD_eq_getElem?_getD, List.getElem?_append_right (by rw [List.length_append]; omega), List.length_append, la, lw]
      have hk : j - (A.flatten.length + w.length) < B.flatten.length := by omega
      have up := nxF_up B 0 (A.flatten.length + w.length)
      rw [Nat.zero_add] at up
      rw [up, List.getElem?_map, List.getD_eq_getElem?_getD, show j - A.flatten.length - w.length = j - (A.flatten.length + w.length) by omega]
      have hl : j - (A.flatten.length + w.length) < (nxF 0 B).length := by rw [nxF_len]; exact hk
      rw [List.getElem?_eq_getElem hl]
      have nn := (nxF_rng B 0 hB _ (List.getElem_mem hl)).1
      show ((nxF 0 B)[j - (A.flatten.length + w.length)]'hl + ((A.flatten.length + w.length : Nat) : Int)).toNat = A.flatten.length + w.length + ((nxF 0 B)[j - (A.flatten.length + w.length)]'hl).toNat
      omega
theorem nxN_lt {ws : List (List Int)} (hne : ∀ w ∈ ws, w ≠ []) {j : Nat} (hj : j < ws.flatten.length) : nxN ws j < ws.flatten.length := by
  unfold nxN
  have hl : j < (nxF 0 ws).length := by rw [nxF_len]; exact hj
  rw [getD_lt hl]
  have := nxF_rng ws 0 hne _ (List.getElem_mem hl)
  omega
/-- where the places stand when two are put in at p -/
def eIn (n p i : Nat) : Nat := if i < p then i else if i < n then i + 2 else if i = n then p else p + 1
theorem eIn_bij {n p : Nat} (hp : p ≤ n) : Cy.Bij (n + 2) (eIn n p) := by
  refine ⟨fun i hi => ?_, fun i j hi hj h => ?_⟩
  · unfold eIn
    split
    · omega
    · split
      · omega
      · split <;> omega
  · unfold eIn at h
    split at h <;> split at h <;> (try split at h) <;> (try split at h) <;> (try split at h) <;> (try split at h) <;> omega
/-- x and y put in behind u -/
theorem ins_mid (A B : List (List Int)) (u v : List Int) (x y : Int) (hA : ∀ w ∈ A, w ≠ []) (hB : ∀ w ∈ B, w ≠ []) (huv : u ++ v ≠ []) :
    Cy.Ins (A ++ [u ++ v] ++ B).flatten.length (nxN (A ++ [u ++ v] ++ B)) (nxN (A ++ [u ++ [x, y] ++ v] ++ B)) (eIn (A ++ [u ++ v] ++ B).flatten.length (A.flatten.length + u.length)) (A.flatten.length + u.length) (A.flatten.length + u.length + 1) (if v = [] then A.flatten.length else A.flatten.length + u.length) := by
  have hl := List.length_pos_iff.mpr huv
  rw [List.length_append] at hl
  have len : (A ++ [u ++ v] ++ B).flatten.length = A.flatten.length + (u.length + v.length) + B.flatten.length := by
    simp only [List.flatten_append, List.length_append, List.flatten_cons, List.flatten_nil, List.append_nil]
  have len2 : (A ++ [u ++ [x, y] ++ v] ++ B).flatten.length = A.flatten.length + (u.length + 2 + v.length) + B.flatten.length := by
    simp only [List.flatten_append, List.length_append, List.flatten_cons, List.flatten_nil, List.append_nil, List.length_cons, List.length_nil]
  have lw : (u ++ v).length = u.length + v.length := List.length_append
  have lw2 : (u ++ [x, y] ++ v).length = u.length + 2 + v.length := by rw [List.length_append, List.length_append]; rfl
  have n1 : ∀ j, j < A.flatten.length + (u.length + v.length) + B.flatten.length → nxN (A ++ [u ++ v] ++ B) j = if j < A.flatten.length then nxN A j else if j < A.flatten.length + (u.length + v.length) then (if j + 1 < A.flatten.length + (u.length + v.length) then j + 1 else A.flatten.length) else A.flatten.length + (u.length + v.length) + nxN B (j - A.flatten.length - (u.length + v.length)) := fun j hj => by
    have := nx_mid A B (u ++ v) hB (j := j) (by rw [lw]; exact hj)
    rw [lw] at this
    exact this
  have n2 : ∀ j, j < A.flatten.length + (u.length + 2 + v.length) + B.flatten.length → nxN (A ++ [u ++ [x, y] ++ v] ++ B) j = if j < A.flatten.length then nxN A j else if j < A.flatten.length + (u.length + 2 + v.length) then (if j + 1 < A.flatten.length + (u.length + 2 + v.length) then j + 1 else A.flatten.length) else A.flatten.length + (u.length + 2 + v.length) + nxN B (j - A.flatten.length - (u.length + 2 + v.length)) := fun j hj => by
    have := nx_mid A B (u ++ [x, y] ++ v) hB (j := j) (by rw [lw2]; exact hj)
    rw [lw2] at this
    exact this
  have vz : v = [] ↔ v.length = 0 := List.length_eq_zero_iff.symm
  have ltA : ∀ j, j < A.flatten.length → nxN A j < A.flatten.length := fun j hj => nxN_lt hA hj
  have ltB : ∀ j, j < B.flatten.length → nxN B j < B.flatten.length := fun j hj => nxN_lt hB hj
  rw [len]
  refine ⟨eIn_bij (by omega), ?_, ?_, ?_, ?_, ?_, fun j hj => ?_, fun j hj => ?_⟩
  · unfold eIn
    rw [if_neg (by omega), if_neg (by omega), if_pos rfl]
  · unfold eIn
    rw [if_neg (by omega), if_neg (by omega), if_neg (by omega)]
  · by_cases hv : v = []
    · rw [if_pos hv]
      omega
    · rw [if_neg hv]
      have : v.length ≠ 0 := fun z => hv (vz.mpr z)
      omega
  · rw [n2 (A.flatten.length + u.length) (by omega), if_neg (by omega), if_pos (by omega), if_pos (by omega)]
  · rw [n2 (A.flatten.length + u.length + 1) (by omega), if_neg (by omega), if_pos (by omega)]
    unfold eIn
    by_cases hv : v = []
    · rw [if_pos hv]
      have := vz.mp hv
      rw [if_neg (by omega), if_pos (by omega)]
    · rw [if_neg hv]
      have : v.length ≠ 0 := fun z => hv (vz.mpr z)
      rw [if_pos (by omega), if_neg (by omega), if_pos (by omega)]
  · obtain ⟨t, et, tc⟩ : ∃ t, (if v = [] then A.flatten.length else A.flatten.length + u.length) = t ∧ ((v.length = 0 ∧ t = A.flatten.length) ∨ (v.length ≠ 0 ∧ t = A.flatten.length + u.length)) := by
      by_cases hv : v = []
      · exact ⟨_, if_pos hv, .inl ⟨vz.mp hv, rfl⟩⟩
      · exact ⟨_, if_neg hv, .inr ⟨fun z => hv (vz.mpr z), rfl⟩⟩
    rw [et, n1 j (by omega)]
    have la := ltA j
    have lb := ltB (j - A.flatten.length - (u.length + v.length))
    by_cases h2 : j < A.flatten.length + u.length
    · have e0 : eIn (A.flatten.length + (u.length + v.length) + B.flatten.length) (A.flatten.length + u.length) j = j := by
        unfold eIn
        rw [if_pos h2]
      rw [e0, n2 j (by omega)]
      unfold eIn
      generalize nxN A j = na at *
      generalize nxN B (j - A.flatten.length - (u.length + v.length)) = nb at *
      generalize nxN B (j - A.flatten.length - (u.length + 2 + v.length)) = nb2 at *
      generalize A.flatten.length = a at *
      generalize B.flatten.length = b at *
      generalize u.length = c at *
      generalize v.length = d at *
      clear n1 n2 ltA ltB len len2 lw lw2 et e0 vz hA hB huv
      repeat' (first | omega | split)
    · have e0 : eIn (A.flatten.length + (u.length + v.length) + B.flatten.length) (A.flatten.length + u.length) j = j + 2 := by
        unfold eIn
        rw [if_neg h2, if_pos hj]
      have e1 : j + 2 - A.flatten.length - (u.length + 2 + v.length) = j - A.flatten.length - (u.length + v.length) := by omega
      rw [e0, n2 (j + 2) (by omega), e1]
      unfold eIn
      generalize nxN A j = na at *
      generalize nxN A (j + 2) = na2 at *
      generalize nxN B (j - A.flatten.length - (u.length + v.length)) = nb at *
      generalize A.flatten.length = a at *
      generalize B.flatten.length = b at *
      generalize u.length = c at *
      generalize v.length = d at *
      clear n1 n2 ltA ltB len len2 lw lw2 et e0 e1 vz hA hB huv
      repeat' (first | omega | split)
  · rw [n1 j (by omega)]
    split
    · have := ltA j (by omega)
      omega
    · split
      · split <;> omega
      · have := ltB (j - A.flatten.length - (u.length + v.length)) (by omega)
        omega
/-- where the places stand when the first and the last of a word of length m behind a are put in -/
def eWr (n a m i : Nat) : Nat := if i < a then i else if i < a + m then i + 1 else if i < n then i + 2 else if i = n then a + m + 1 else a
theorem eWr_bij {n a m : Nat} (h : a + m ≤ n) : Cy.Bij (n + 2) (eWr n a m) := by
  refine ⟨fun i hi => ?_, fun i j hi hj h => ?_⟩
  · unfold eWr
    repeat' (first | omega | split)
  · unfold eWr at h
    split at h <;> split at h <;> (try split at h) <;> (try split at h) <;> (try split at h) <;> (try split at h) <;> (try split at h) <;> (try split at h) <;> omega
/-- y put in ahead of a word, x behind it -/
theorem ins_wrap (A B : List (List Int)) (u : List Int) (x y : Int) (hA : ∀ w ∈ A, w ≠ []) (hB : ∀ w ∈ B, w ≠ []) (hu : u ≠ []) :
    Cy.Ins (A ++ [u] ++ B).flatten.length (nxN (A ++ [u] ++ B)) (nxN (A ++ [[y] ++ u ++ [x]] ++ B)) (eWr (A ++ [u] ++ B).flatten.length A.flatten.length u.length) (A.flatten.length + u.length + 1) A.flatten.length A.flatten.length := by
  have hl := List.length_pos_iff.mpr hu
  have len : (A ++ [u] ++ B).flatten.length = A.flatten.length + u.length + B.flatten.length := by
    simp only [List.flatten_append, List.length_append, List.flatten_cons, List.flatten_nil, List.append_nil]
  have n1 : ∀ j, j < A.flatten.length + u.length + B.flatten.length → nxN (A ++ [u] ++ B) j = if j < A.flatten.length then nxN A j else if j < A.flatten.length + u.length then (if j + 1 < A.flatten.length + u.length then j + 1 else A.flatten.length) else A.flatten.length + u.length + nxN B (j - A.flatten.length - u.length) := fun j hj => nx_mid A B u hB hj
  have lw2 : ([y] ++ u ++ [x]).length = u.length + 2 := by
    rw [List.length_append, List.length_append]
    simp only [List.length_cons, List.length_nil]
    omega
  have n2 : ∀ j, j < A.flatten.length + (u.length + 2) + B.flatten.length → nxN (A ++ [[y] ++ u ++ [x]] ++ B) j = if j < A.flatten.length then nxN A j else if j < A.flatten.length + (u.length + 2) then (if j + 1 < A.flatten.length + (u.length + 2) then j + 1 else A.flatten.length) else A.flatten.length + (u.length + 2) + nxN B (j - A.flatten.length - (u.length + 2)) := fun j hj => by
    have := nx_mid A B ([y] ++ u ++ [x]) hB (j := j) (by rw [lw2]; exact hj)
    rw [lw2] at this
    exact this
  have ltA : ∀ j, j < A.flatten.length → nxN A j < A.flatten.length := fun j hj => nxN_lt hA hj
  have ltB : ∀ j, j < B.flatten.length → nxN B j < B.flatten.length := fun j hj => nxN_lt hB hj
  rw [len]
  refine ⟨eWr_bij (by omega), ?_, ?_, by omega, ?_, ?_, fun j hj => ?_, fun j hj => ?_⟩
  · unfold eWr
    rw [if_neg (by omega), if_neg (by omega), if_neg (by omega), if_pos rfl]
  · unfold eWr
    rw [if_neg (by omega), if_neg (by omega), if_neg (by omega), if_neg (by omega)]
  · rw [n2 (A.flatten.length + u.length + 1) (by omega), if_neg (by omega), if_pos (by omega), if_neg (by omega)]
  · rw [n2 A.flatten.length (by omega), if_neg (by omega), if_pos (by omega), if_pos (by omega)]
    unfold eWr
    rw [if_neg (by omega), if_pos (by omega)]
  · rw [n1 j (by omega)]
    have la := ltA j
    have lb := ltB (j - A.flatten.length - u.length)
    by_cases h1 : j < A.flatten.length
    · have e0 : eWr (A.flatten.length + u.length + B.flatten.length) A.flatten.length u.length j = j := by
        unfold eWr
        rw [if_pos h1]
      rw [e0, n2 j (by omega)]
      unfold eWr
      generalize nxN A j = na at *
      generalize nxN B (j - A.flatten.length - u.length) = nb at *
      generalize nxN B (j - A.flatten.length - (u.length + 2)) = nb2 at *
      generalize A.flatten.length = a at *
      generalize B.flatten.length = b at *
      generalize u.length = c at *
      clear n1 n2 ltA ltB len lw2 e0 hA hB hu
      repeat' (first | omega | split)
    · by_cases h2 : j < A.flatten.length + u.length
      · have e0 : eWr (A.flatten.length + u.length + B.flatten.length) A.flatten.length u.length j = j + 1 := by
          unfold eWr
          rw [if_neg h1, if_pos h2]
        rw [e0, n2 (j + 1) (by omega)]
        unfold eWr
        generalize nxN A j = na at *
        generalize nxN A (j + 1) = na2 at *
        generalize nxN B (j - A.flatten.length - u.length) = nb at *
        generalize nxN B (j + 1 - A.flatten.length - (u.length + 2)) = nb2 at *
        generalize A.flatten.length = a at *
        generalize B.flatten.length = b at *
        generalize u.length = c at *
        clear n1 n2 ltA ltB len lw2 e0 hA hB hu
        repeat' (first | omega | split)
      · have e0 : eWr (A.flatten.length + u.length + B.flatten.length) A.flatten.length u.length j = j + 2 := by
          unfold eWr
          rw [if_neg h1, if_neg h2, if_pos hj]
        have e1 : j + 2 - A.flatten.length - (u.length + 2) = j - A.flatten.length - u.length := by omega
        rw [e0, n2 (j + 2) (by omega), e1]
        unfold eWr
        generalize nxN A j = na at *
        generalize nxN A (j + 2) = na2 at *
        generalize nxN B (j - A.flatten.length - u.length) = nb at *
        generalize A.flatten.length = a at *
        generalize B.flatten.length = b at *
        generalize u.length = c at *
        clear n1 n2 ltA ltB len lw2 e0 e1 hA hB hu
        repeat' (first | omega | split)
  · rw [n1 j (by omega)]
    split
    · have := ltA j (by omega)
      omega
    · split
      · split <;> omega
      · have := ltB (j - A.flatten.length - u.length) (by omega)
        omega
end W33
set_option Elab.async false
set_option linter.all false
set_option maxRecDepth 100000
set_option maxHeartbeats 1000000
namespace W33
open PySem L2 PySem.Spec PyProof.Rows WR WB WE
/-! ### what two letters put in, or taken out, do to the cost -/
theorem nxt_eq (ws : List (List Int)) (mt : List Int) (x : Nat) : nxt (nxF 0 ws) mt x = nxN ws (mtn mt x) := rfl
/-- mates put in: the cost stays -/
theorem ins_cost {ws ws2 : List (List Int)} {mt mt2 : List Int} {e : Nat → Nat} {p q t : Nat} (hne : ∀ w ∈ ws, w ≠ []) (hne2 : ∀ w ∈ ws2, w ≠ []) (l2 : ws2.flatten.length = ws.flatten.length + 2) (I : Cy.Ins ws.flatten.length (nxN ws) (nxN ws2) e p q t)
    (h : PairOk ws.flatten.length mt) (h2 : PairOk ws2.flatten.length mt2) (hp : mtn mt2 p = q) (hq : mtn mt2 q = p) (hm : ∀ i, i < ws.flatten.length → mtn mt2 (e i) = e (mtn mt i)) : costF ws2 mt2 = costF ws mt := by
  have B2 := bij_nxt hne2 h2
  rw [l2] at B2
  have c := Cy.ins_cyc I (mt := mtn mt) (mt2 := mtn mt2) B2 hp hq fun i hi => ⟨(mtn_at h.1 hi).1, hm i hi⟩
  have c1 := corn_cyc hne h
  have c2 := corn_cyc hne2 h2
  rw [l2] at c2
  have e1 : (cornF ws mt).length = Cy.cyc ws.flatten.length fun x => nxN ws (mtn mt x) := c1
  have e2 : (cornF ws2 mt2).length = Cy.cyc (ws.flatten.length + 2) fun x => nxN ws2 (mtn mt2 x) := c2
  unfold costF
  rw [e1, e2, c, l2]
  omega
/-- p's next is q, of contrary letter, no mate: mates exchanged so that p and q are mates -/
theorem free_cost {ws : List (List Int)} (hne : ∀ w ∈ ws, w ≠ []) {mt : List Int} (h : MatOk ws.flatten mt) {p q : Nat} (hp : p < ws.flatten.length) (hq : q < ws.flatten.length) (npq : p ≠ q) (nx : nxN ws p = q) (nm : mtn mt p ≠ q) :
    costF ws (swpF mt p (mtn mt q)) = costF ws mt ∨ costF ws (swpF mt p (mtn mt q)) = costF ws mt - 2 := by
  have P := h.1
  have a1 := (mtn_at P.1 hp).1
  have b1 := (mtn_at P.1 hq).1
  have qb := (pair_inv P hq).1
  have n3 := (pair_inv P hp).2
  have npb : p ≠ mtn mt q := fun e => nm (by rw [e, qb])
  have B := bij_nxt hne P
  have B1 := B.swp a1 hq
  have f1 : (fun x => nxt (nxF 0 ws) mt x) (mtn mt p) = q := by
    show nxN ws (mtn mt (mtn mt p)) = q
    rw [(pair_inv P hp).1, nx]
  have f2 : (fun x => nxt (nxF 0 ws) mt x) q ≠ q := fun z => by
    have z : nxN ws (mtn mt q) = q := z
    -- nexts are unlike
    have i1 := B.inj (mtn mt p) q a1 hq (by
      show nxN ws (mtn mt (mtn mt p)) = nxN ws (mtn mt q)
      rw [(pair_inv P hp).1, nx, z])
    exact nm i1
  have cyc1 := Cy.cyc_free B a1 hq f1 f2
  have cyc2 := Cy.cyc_swp _ _ _ _ B1 hp b1 npb
  have ef : Cy.cyc ws.flatten.length (nxt (nxF 0 ws) (swpF mt p (mtn mt q))) = Cy.cyc ws.flatten.length (fun x => (fun x => nxt (nxF 0 ws) mt (Cy.swp (mtn mt p) q x)) (Cy.swp p (mtn mt q) x)) := by
    refine Cy.cyc_congr _ _ _ (fun i hi => ?_) (bij_nxt hne (swpF_pair P hp b1))
    show ((nxF 0 ws).getD (mtn (swpF mt p (mtn mt q)) i) 0).toNat = ((nxF 0 ws).getD (mtn mt (Cy.swp (mtn mt p) q (Cy.swp p (mtn mt q) i))) 0).toNat
    rw [swpF_mtn (by rw [P.1.1]; exact hi)]
    congr 2
    have key : ∀ x, x < ws.flatten.length → Cy.swp p (mtn mt q) (mtn mt x) = mtn mt (Cy.swp (mtn mt p) q x) := fun x hx => by
      by_cases h1 : x = mtn mt p
      · subst h1
        rw [Cy.swp_l, (pair_inv P hp).1, Cy.swp_l]
      · by_cases h2 : x = q
        · subst h2
          rw [Cy.swp_r, Cy.swp_r, (pair_inv P hp).1]
        · rw [Cy.swp_o h1 h2, Cy.swp_o]
          · intro e
            exact h1 (by rw [← e, (pair_inv P hx).1])
          · intro e
            exact h2 (by rw [← (pair_inv P hx).1, e, qb])
    exact key _ (Cy.swp_lt hp b1 hi)
  have c0 := corn_cyc hne P
  have c1 := corn_cyc hne (swpF_pair P hp b1)
  rw [ef] at c1
  unfold costF
  rw [c0, c1]
  dsimp only at cyc1 cyc2 ⊢
  omega
end W33
set_option Elab.async false
set_option linter.all false
set_option maxRecDepth 100000
set_option maxHeartbeats 1000000
namespace W33
open PySem L2 PySem.Spec PyProof.Rows WR WB WE
/-! ### pieces of words in which two letters are put -/
theorem hmF_up : ∀ (ws : List (List Int)) (f d : Nat), hmF (f + d) ws = (hmF f ws).map fun z => z + (d : Int)
  | [], _, _ => rfl
  | w :: r, f, d => by
    unfold hmF
    rw [List.map_append, List.map_replicate, show f + d + 1 = f + 1 + d by omega, hmF_up r]
    congr 1
theorem hmF_app : ∀ (xs ys : List (List Int)) (f : Nat), hmF f (xs ++ ys) = hmF f xs ++ hmF (f + xs.length) ys
  | [], ys, f => rfl
  | w :: r, ys, f => by
    show List.replicate w.length (f : Int) ++ hmF (f + 1) (r ++ ys) = (List.replicate w.length (f : Int) ++ hmF (f + 1) r) ++ hmF (f + (r.length + 1)) ys
    rw [hmF_app r ys, List.append_assoc, show f + 1 + r.length = f + (r.length + 1) by omega]
theorem hm_mid (A B : List (List Int)) (w : List Int) {j : Nat} (hj : j < A.flatten.length + w.length + B.flatten.length) :
    home (A ++ [w] ++ B) j = if j < A.flatten.length then home A j else if j < A.flatten.length + w.length then A.length else A.length + 1 + home B (j - A.flatten.length - w.length) := by
  unfold home
  rw [hmF_app, hmF_app, Nat.zero_add, Nat.zero_add]
  have la := hmF_len A 0
  have lw : (hmF A.length [w]).length = w.length := by rw [hmF_len]; simp
  have lA : (A ++ [w]).length = A.length + 1 := by rw [List.length_append]; rfl
  rw [lA]
  by_cases h1 : j < A.flatten.length
  · rw [if_pos h1, List.getD_eq_getElem?_getD, List.getD_eq_getElem?_getD, List.getElem?_append_left (by rw [List.length_append]; omega), List.getElem?_append_left (by omega)]
  · rw [if_neg h1]
    by_cases h2 : j < A.flatten.length + w.length
    · rw [if_pos h2, List.getD_eq_getElem?_getD, List.getElem?_append_left (by rw [List.length_append]; omega), List.getElem?_append_right (by omega), la]
      unfold hmF
      rw [show hmF (A.length + 1) [] = [] from rfl, List.append_nil, List.getElem?_replicate, if_pos (by omega)]
      rfl
    · rw [if_neg h2, List.getD_eq_getElem?_getD, List.getElem?_append_right (by rw [List.length_append]; omega), List.length_append, la, lw]
      have hk : j - (A.flatten.length + w.length) < B.flatten.length := by omega
      have up := hmF_up B 0 (A.length + 1)
      rw [Nat.zero_add] at up
      rw [up, List.getElem?_map, List.getD_eq_getElem?_getD, show j - A.flatten.length - w.length = j - (A.flatten.length + w.length) by omega]
      have hl : j - (A.flatten.length + w.length) < (hmF 0 B).length := by rw [hmF_len]; exact hk
      rw [List.getElem?_eq_getElem hl]
      have nn := (hmF_rng B 0 _ (List.getElem_mem hl)).1
      show ((hmF 0 B)[j - (A.flatten.length + w.length)]'hl + ((A.length + 1 : Nat) : Int)).toNat = A.length + 1 + ((hmF 0 B)[j - (A.flatten.length + w.length)]'hl).toNat
      omega
section
variable {A B : List (List Int)} {u v : List Int} {x y : Int}
theorem len_in : (A ++ [u ++ v] ++ B).flatten.length = A.flatten.length + (u.length + v.length) + B.flatten.length := by
  simp only [List.flatten_append, List.length_append, List.flatten_cons, List.flatten_nil, List.append_nil]
theorem len_in2 : (A ++ [u ++ [x, y] ++ v] ++ B).flatten.length = A.flatten.length + (u.length + v.length) + B.flatten.length + 2 := by
  simp only [List.flatten_append, List.length_append, List.flatten_cons, List.flatten_nil, List.append_nil, List.length_cons, List.length_nil]
  omega
theorem home_in {j : Nat} (hj : j < (A ++ [u ++ v] ++ B).flatten.length) : home (A ++ [u ++ [x, y] ++ v] ++ B) (eIn (A ++ [u ++ v] ++ B).flatten.length (A.flatten.length + u.length) j) = home (A ++ [u ++ v] ++ B) j := by
  rw [len_in] at hj ⊢
  have lw : (u ++ v).length = u.length + v.length := List.length_append
  have lw2 : (u ++ [x, y] ++ v).length = u.length + 2 + v.length := by rw [List.length_append, List.length_append]; rfl
  have h1 := hm_mid A B (u ++ v) (j := j) (by rw [lw]; exact hj)
  rw [lw] at h1
  have h2 := fun {i} (hi : i < A.flatten.length + (u.length + 2 + v.length) + B.flatten.length) => hm_mid A B (u ++ [x, y] ++ v) (j := i) (by rw [lw2]; exact hi)
  rw [h1]
  by_cases c : j < A.flatten.length + u.length
  · have e0 : eIn (A.flatten.length + (u.length + v.length) + B.flatten.length) (A.flatten.length + u.length) j = j := if_pos c
    rw [e0, h2 (by omega), lw2]
    by_cases c1 : j < A.flatten.length
    · rw [if_pos c1, if_pos c1]
    · rw [if_neg c1, if_neg c1, if_pos (by omega), if_pos (by omega)]
  · have e0 : eIn (A.flatten.length + (u.length + v.length) + B.flatten.length) (A.flatten.length + u.length) j = j + 2 := by
      unfold eIn
      rw [if_neg c, if_pos hj]
    have d0 : ¬ j < A.flatten.length := by omega
    have d2 : ¬ j + 2 < A.flatten.length := by omega
    rw [e0, h2 (by omega), lw2, if_neg d0, if_neg d2]
    by_cases c1 : j < A.flatten.length + (u.length + v.length)
    · rw [if_pos (show j + 2 < A.flatten.length + (u.length + 2 + v.length) by omega), if_pos c1]
    · rw [if_neg (show ¬ j + 2 < A.flatten.length + (u.length + 2 + v.length) by omega), if_neg c1, show j + 2 - A.flatten.length - (u.length + 2 + v.length) = j - A.flatten.length - (u.length + v.length) by omega]
end
end W33
set_option Elab.async false
set_option linter.all false
set_option maxRecDepth 100000
set_option maxHeartbeats 600000
/-! C.m(..), m a plain def of the class C. -/
namespace CF
open PySem L2 PySem.Spec PyProof.Rows
/-- m is a def in C's body: it stands at g -/
structure CFn (K : PySem.W.Frag) (C : Addr) (mc : Value) (m : Str) (g : Addr) : Prop where
  rd : PySem.W.readsIn K C mc = true
  ga : PySem.W.specialIn K (.ref C) "__getattribute__" = some (some (.builtin "type.__getattribute__"))
  at_ : PySem.W.findCls K (.ref C) mc m = some (.val (.ref g))
  kp : PySem.W.keepIn K (.ref g) = true
section
variable {X : Cx} {k j : Nat} {C : Addr} {sp : Sp} {ps : List Str} {o e : Expr} {es : List Expr} {m : Str} {pos apos : Pos} {ta : TE} {t : TA} {pl : Sem Bool} {fd : FuncData} {g : Addr} {mc : Value}
theorem pe_cfn (he : PE X o ta) (c : CFn X.K C mc m g) (F : FnOk X.prog X.w X.K X.mg X.base CX0 k g fd ps sp) (hr : Room k X.A) (hb : Binds X.K fd ps []) (ha : PA X (e :: es) t)
    (hst : starEach (e :: es) X.env = (false, eval e X.env) :: starEach es X.env := by rfl) (hpl : (backTo pos (starEach es X.env)).any (·.1) = false := by rfl)
    (ht : eval (.Call (.Attribute o m apos) (e :: es) [] pos) X.env = (do
      let ov ← eval o X.env
      standAt apos.atName
      let (f, first) ← holding [ov] (getMethod ov m pl)
      callWith pos f first (backTo pos (starEach (e :: es) X.env)) (backToKw pos (keywordEach [] X.env))) := by rfl) :
    PE X (.Call (.Attribute o m apos) (e :: es) [] pos) (MStat.tSMeth C sp ta t) := by
  refine ⟨fun pins s σ H Q I h => ?_⟩
  refine PySem.W.methodCall_KW (pl := pl) (thn (he.run pins s σ H _ I h) fun u s1 ⟨x, H1, I1, rx, ex, q⟩ => ?_) ht
  subst ex
  obtain rfl : u = Value.ref C := rx
  refine PySem.W.method_cls I1.kIn c.ga (PySem.W.cls_value I1.kIn c.rd c.at_ (handed_of (v := V.ref g) rfl) ?_)
  have I2 := I1.tok (t := s1.toks + 1)
  refine PySem.W.callWith_K (first := []) (h₀ := X.base) I2.ok.mod.kin c.kp (thn (ha.run pos pins _ σ H1 _ I2 q) fun us s3 ⟨vs, H2, I3, rv, q2⟩ => ⟨I3.kIn, ?_⟩) hst hpl
  exact run_fn (us := us) (vs := vs) (dvs := []) (ds := []) F hr hb .nil pass0 I3 rv (by simpa using q2)
end
end CF
namespace W33
open PySem L2 PySem.Spec PyProof.Rows WR WB WE WS
/-! ### errors with one field -/
def spI1 (fl : Str) (C : Addr) : Sp := fun vs H Q _ => ∃ (a : Addr) (v : V), vs = [.ref a, v] ∧ H a = some (exo a C none) ∧ ∀ dx, H dx = none → dx ≠ a → Q .non (L2.upd (L2.upd H dx (exd dx [(fl, v)])) a (exo a C (some dx)))
structure ErrC (P : Program) (w : World) (K : PySem.W.Frag) (mg : Str → Option Value) (base : Heap) (C : Addr) (x : Str) (ps : List Str) (sp : Sp) : Prop where
  oex : OexC K C
  ini : ∃ (fI : Addr) (fd : FuncData), PySem.W.findIn K (.ref C) "__init__" = some (some (.ref fI)) ∧ PySem.W.typeIn K (.ref fI) = some (.type "function") ∧ FnOk P w K mg base CX0 2 fI fd ps sp ∧ Binds K fd ps []
  g : mg x = some (.ref C)
  xf : XfC K C
  te : PySem.W.exmOne K (.ref C) (.ref C) = some true
abbrev sInitBS : Stmt := inClass (top 5) 0
abbrev nInitBS : List Str := ["self", "part"]
theorem scInitBS : FnScope nInitBS ["self", "part"] (defScope sInitBS) := ⟨rfl, rfl, rfl, by decide +kernel, rfl, by decide +kernel, by decide +kernel⟩
abbrev sInitMF : Stmt := inClass (top 6) 0
abbrev nInitMF : List Str := ["self", "part"]
theorem scInitMF : FnScope nInitMF ["self", "part"] (defScope sInitMF) := ⟨rfl, rfl, rfl, by decide +kernel, rfl, by decide +kernel, by decide +kernel⟩
abbrev sInitMi : Stmt := inClass (top 7) 0
abbrev nInitMi : List Str := ["self", "value"]
theorem scInitMi : FnScope nInitMi ["self", "value"] (defScope sInitMi) := ⟨rfl, rfl, rfl, by decide +kernel, rfl, by decide +kernel, by decide +kernel⟩
abbrev sInitNP : Stmt := inClass (top 8) 0
abbrev nInitNP : List Str := ["self", "value"]
theorem scInitNP : FnScope nInitNP ["self", "value"] (defScope sInitNP) := ⟨rfl, rfl, rfl, by decide +kernel, rfl, by decide +kernel, by decide +kernel⟩
section
variable {P : Program} {w : World} {K : PySem.W.Frag} {mg : Str → Option Value} {base : Heap}
theorem ok_initBS {C f : Addr} {fd : FuncData} (F : Fun K "__init__" "BadSewing.__init__" sInitBS f fd) (O : OexC K C) (n1 : PySem.W.findIn K (.ref C) "part" = some none) : FnOk P w K mg base CX0 1 f fd ["self", "part"] (spI1 "part" C) := by
  refine F.ok scInitBS (fun vs H Q E h => ?_) (fun cdv A outer s H vs Q E hr h => ?_)
  · obtain ⟨a, v, rfl, _⟩ := h
    rfl
  · obtain ⟨a, v, rfl, hA, k⟩ := h
    refine ⟨_, pss_one (ps_ost (pv 0) (pv 1)), ?_⟩
    exact ⟨_, rfl, _, rfl, a, C, rfl, O, n1, .inl ⟨hA, fun dx h1 h2 => k dx h1 h2⟩⟩
theorem ok_initMF {C f : Addr} {fd : FuncData} (F : Fun K "__init__" "Misfit.__init__" sInitMF f fd) (O : OexC K C) (n1 : PySem.W.findIn K (.ref C) "part" = some none) : FnOk P w K mg base CX0 1 f fd ["self", "part"] (spI1 "part" C) := by
  refine F.ok scInitMF (fun vs H Q E h => ?_) (fun cdv A outer s H vs Q E hr h => ?_)
  · obtain ⟨a, v, rfl, _⟩ := h
    rfl
  · obtain ⟨a, v, rfl, hA, k⟩ := h
    refine ⟨_, pss_one (ps_ost (pv 0) (pv 1)), ?_⟩
    exact ⟨_, rfl, _, rfl, a, C, rfl, O, n1, .inl ⟨hA, fun dx h1 h2 => k dx h1 h2⟩⟩
theorem ok_initMi {C f : Addr} {fd : FuncData} (F : Fun K "__init__" "Missing.__init__" sInitMi f fd) (O : OexC K C) (n1 : PySem.W.findIn K (.ref C) "value" = some none) : FnOk P w K mg base CX0 1 f fd ["self", "value"] (spI1 "value" C) := by
  refine F.ok scInitMi (fun vs H Q E h => ?_) (fun cdv A outer s H vs Q E hr h => ?_)
  · obtain ⟨a, v, rfl, _⟩ := h
    rfl
  · obtain ⟨a, v, rfl, hA, k⟩ := h
    refine ⟨_, pss_one (ps_ost (pv 0) (pv 1)), ?_⟩
    exact ⟨_, rfl, _, rfl, a, C, rfl, O, n1, .inl ⟨hA, fun dx h1 h2 => k dx h1 h2⟩⟩
/-- NoPlace's own __init__ calls that of Missing -/
theorem ok_initNP {C CM g f : Addr} {mc : Value} {fd fdm : FuncData} (F : Fun K "__init__" "NoPlace.__init__" sInitNP f fd) (hM : mg "Missing" = some (.ref CM)) (c : CF.CFn K CM mc "__init__" g) (FM : FnOk P w K mg base CX0 1 g fdm ["self", "value"] (spI1 "value" C)) (bM : Binds K fdm ["self", "value"] []) : FnOk P w K mg base CX0 2 f fd ["self", "value"] (spI1 "value" C) := by
  refine F.ok scInitNP (fun vs H Q E h => ?_) (fun cdv A outer s H vs Q E hr h => ?_)
  · obtain ⟨a, v, rfl, _⟩ := h
    rfl
  · obtain ⟨a, v, rfl, hA, k⟩ := h
    refine ⟨_, pss_one (ps_expr (CF.pe_cfn (pe_glob (v := .ref CM) (by rfl) hM rfl) c FM hr bM (pa_cons (pv 0) (pa_cons (pv 1) pa_nil)))), ?_⟩
    exact ⟨rfl, _, rfl, _, rfl, a, v, rfl, hA, fun dx h1 h2 => k dx h1 h2⟩
end
theorem heap1 {H : Hp} {a d : Addr} {e1 e2 e3 o : HO} (ha : H a = none) (hd : d ≠ a) : L2.upd (del (L2.upd (L2.upd (L2.upd H a e1) d e2) a e3) a) d o = L2.upd H d o := by
  funext b
  by_cases h1 : b = d
  · subst h1
    rw [upd_same, upd_same]
  · rw [upd_ne h1, upd_ne h1]
    by_cases h2 : b = a
    · subst h2
      rw [del_same, ha]
    · rw [del_ne h2, upd_ne h2, upd_ne h1, upd_ne h2]
theorem mk1 {fl : Str} {C : Addr} {H : Hp} {v : V} {Q : XK} (k : ∀ d, H d = none → Q (.ref C) (some d) (L2.upd H d (.xd [(fl, v)]))) : ∀ a, H a = none → spI1 fl C [.ref a, v] (L2.upd H a (exo a C none))
    (fun z H2 => z = .non ∧ ∃ (d : Addr) (fs : List (Str × V)), H2 a = some (exo a C (some d)) ∧ H2 d = some (exd d fs) ∧ H d = none ∧ Q (.ref C) (some d) (L2.upd (del H2 a) d (.xd fs))) (fun _ _ _ => False) := by
  intro a ha
  refine ⟨a, v, rfl, upd_same, fun dx h1 h2 => ⟨rfl, dx, _, upd_same, by rw [upd_ne h2, upd_same], by rw [upd_ne h2] at h1; exact h1, ?_⟩⟩
  rw [heap1 ha h2]
  exact k dx (by rw [upd_ne h2] at h1; exact h1)
/-- an error of the class C with this field -/
abbrev Bad (fl : Str) (C : Addr) (E : XK) (H : Hp) (v : V) : Prop := ∀ H1, Same H H1 → ∀ d, H1 d = none → E (.ref C) (some d) (L2.upd H1 d (.xd [(fl, v)]))
structure CalX (P : Program) (w : World) (K : PySem.W.Frag) (mg : Str → Option Value) (base : Heap) (x : Str) (k : Nat) (ps : List Str) (sp : Sp) : Prop where
  ex : ∃ (f : Addr) (fd : FuncData), FnOk P w K mg base (L2.CX P w) k f fd ps sp ∧ mg x = some (.ref f) ∧ PySem.W.keepIn K (.ref f) = true ∧ Binds K fd ps []
section
variable {X : Cx} {x : Str} {k j : Nat} {ps : List Str} {sp : Sp} {p pos : Pos} {e : Expr} {es : List Expr} {t : TA} {E : XK}
theorem pe_calX (C : CalX X.prog X.w X.K X.mg X.base x k ps sp) (hr : Room j X.A) (hkj : k ≤ j) (hx : Passes (L2.CX X.prog X.w) X E) (hg : Gl X x) (ha : PA X (e :: es) t) (hdb : (x == ("__debug__" : Str)) = false := by decide)
    (he : starEach (e :: es) X.env = (false, eval e X.env) :: starEach es X.env := by rfl) (hpl : (backTo pos (starEach es X.env)).any (·.1) = false := by rfl) :
    PE X (.Call (.Name x p) (e :: es) [] pos) (tCall sp [] E t) := by
  obtain ⟨f, fd, F, hm, hk, hb⟩ := C.ex
  exact pe_call F (hr.mono hkj) hg hm hk hb .nil hx ha hdb he hpl
theorem passF : Passes (L2.CX X.prog X.w) X (fun _ _ _ => False) := fun pins σ H s e s' I c => by
  obtain ⟨a, B, H', cls, d, rfl, fl, hok, ub, na, os, ag, hE⟩ := c
  exact hE.elim
end
end W33
set_option Elab.async false
set_option linter.all false
set_option maxRecDepth 100000
set_option maxHeartbeats 600000
namespace W33
open PySem L2 PySem.Spec PyProof.Rows WR WB WE WS
structure MkS (P : Program) (w : World) (K : PySem.W.Frag) (mg : Str → Option Value) (base : Heap) (C CR CS : Addr) : Prop where
  ex : ∃ (f : Addr) (fd : FuncData), Mk K CS f ∧ FnOk P w K mg base CX0 5 f fd ["self", "rims", "mates"] (spInitS K C CR CS) ∧ Binds K fd ["self", "rims", "mates"] []
theorem pe_sewK {X : Cx} {C CR CS : Addr} {p pos : Pos} {e : Expr} {es : List Expr} {t : TA} {j : Nat} {K : PySem.W.Frag} (hK : X.K = K) (M : MkS X.prog X.w K X.mg X.base C CR CS) (T : TxSC K X.mg CS) (hr : Room j X.A) (hkj : 6 ≤ j) (hg : Gl X "Sewing") (ha : PA X (e :: es) t)
    (he : starEach (e :: es) X.env = (false, eval e X.env) :: starEach es X.env := by rfl) (hpl : (backTo pos (starEach es X.env)).any (·.1) = false := by rfl) :
    PE X (.Call (.Name "Sewing" p) (e :: es) [] pos) (tMake CS (spInitS K C CR CS) [] E0 t) := by
  subst hK
  obtain ⟨f, fd, M, F, hb⟩ := M.ex
  exact pe_make M F (hr.mono hkj) hg T.mgS hb .nil pass0 ha (by decide) he hpl
theorem sew_at {K : PySem.W.Frag} {C CR CS : Addr} {H1 : Hp} {rp m x dx : Addr} {xs : List Addr} {ws : List (List Int)} {mt : List Int} {G : Hp → Prop} {E : XK} (nx : H1 x = none) (ndx : H1 dx = none) (R1 : RimsAt K C CR H1 rp xs ws) (ok : RimOk ws) (hm : SqW K H1 m (iv mt)) (mk : MatOk ws.flatten mt)
    (k : ∀ H', Same H1 H' → SewAt K C CR CS H' x rp xs ws mt → G H') : spInitS K C CR CS [.ref x, .ref rp, .ref m] (L2.upd (L2.upd H1 dx (.own x)) x (.ins CS dx [])) (fun v H2 => v = .non ∧ G H2) E := by
  have s0 : Same H1 (L2.upd (L2.upd H1 dx (.own x)) x (.ins CS dx [])) := fun b o e => by
    rw [upd_ne (ne_of_none e nx), upd_ne (ne_of_none e ndx)]
    exact e
  exact ⟨H1, x, dx, rp, m, xs, ws, mt, rfl, s0, nx, upd_same, R1, ok, hm, mk, fun H' s' W' => ⟨rfl, k H' s' W'⟩⟩
theorem SewAt.put {K : PySem.W.Frag} {C CR CS : Addr} {H : Hp} {D p rp : Addr} {xs : List Addr} {ws : List (List Int)} {mt : List Int} {us : List V} {o : HO} (h : SewAt K C CR CS H p rp xs ws mt) (hD : H D = some (.lst us)) : SewAt K C CR CS (L2.upd H D o) p rp xs ws mt := by
  have kB : ∀ {a ys}, SqB K H a ys → SqB K (L2.upd H D o) a ys := fun h => SqB.keptL hD Kept.upd h
  have kI : ∀ {a C dx fs}, H a = some (.ins C dx fs) → L2.upd H D o a = some (.ins C dx fs) := fun {a C dx fs} e => by
    rw [upd_ne (fun z => by rw [z, hD] at e; cases e)]
    exact e
  have kC : ∀ {a cs}, CornAt K H a cs → CornAt K (L2.upd H D o) a cs := fun ⟨vs, h1, h2⟩ => ⟨vs, kB h1, h2.imp fun _ _ ⟨q, e, r⟩ => ⟨q, e, kB r⟩⟩
  obtain ⟨dx, tm, tc, tp, h1, ⟨d2, tw, tl, th, tn, r1, r2, r3, r4, r5, r6⟩, h3, h4, h5⟩ := h
  refine ⟨dx, tm, tc, tp, kI h1, ⟨d2, tw, tl, th, tn, kI r1, kB r2, r3.imp fun a ns wa => ?_, kB r4, kB r5, kB r6⟩, kB h3, kC h4, kC h5⟩
  obtain ⟨dx, tl, tk, ks, w1, w2, w3, w4⟩ := wa
  exact ⟨dx, tl, tk, ks, kI w1, kB w2, SqT.keptL hD Kept.upd w3, w4⟩
/-! ### what is no sewing, no place; exchanged -/
/-- not of the class D -/
def NotC (K : PySem.W.Frag) (D : Addr) (H : Hp) (x : V) : Prop := ∃ tv, TyX K H x tv ∧ PySem.W.kitOne K tv (.ref D) = some false
def SewV (K : PySem.W.Frag) (C CR CS : Addr) (H : Hp) (x : V) : Prop := ∃ p rp xs ws mt, x = V.ref p ∧ SewAt K C CR CS H p rp xs ws mt
theorem SewAt.tyx {K : PySem.W.Frag} {C CR CS : Addr} {H : Hp} {p rp : Addr} {xs : List Addr} {ws : List (List Int)} {mt : List Int} {mg : Str → Option Value} (h : SewAt K C CR CS H p rp xs ws mt) (T : TxW K mg C) (TS : TxSC K mg CS) : TyX K H (.ref p) (.ref CS) := by
  obtain ⟨dx, tm, tc, tp, h1, _⟩ := h
  exact .base (.ins h1 TS.cl TS.ca T.cn T.ct TS.cm)
def spNeedS (K : PySem.W.Frag) (C CR CS CBS : Addr) : Sp := fun vs H Q E => ∃ x part : V, vs = [x, part] ∧ ((NotC K CS H x ∧ Bad "part" CBS E H part) ∨ (SewV K C CR CS H x ∧ Q .non H))
abbrev sNeedS : Stmt := top 54
abbrev nNeedS : List Str := ["value", "part"]
theorem scNeedS : FnScope nNeedS ["value", "part"] (defScope sNeedS) := ⟨rfl, rfl, rfl, by decide +kernel, rfl, by decide +kernel, by decide +kernel⟩
/-- a place of n ones -/
def plB (x : V) (n : Nat) : Bool := within x (.int 0) (.int ((n : Int) - 1))
theorem plB_nat {k n : Nat} (h : k < n) : plB (.int (k : Int)) n = true := by
  show (decide ((0 : Int) ≤ k) && decide ((k : Int) ≤ (n : Int) - 1)) = true
  rw [decide_eq_true (show (0 : Int) ≤ k by omega), decide_eq_true (show (k : Int) ≤ (n : Int) - 1 by omega)]
  rfl
def spNeedPX (K : PySem.W.Frag) (C CR CNP : Addr) : Sp := fun vs H Q E => ∃ (p : Addr) (x : V) (t : String) (xs : List Addr) (ws : List (List Int)), vs = [.ref p, x] ∧ RimsAt K C CR H p xs ws ∧ Typ H x t ∧ (plB x ws.flatten.length = false → Bad "value" CNP E H x) ∧ (plB x ws.flatten.length = true → Q .non H)
abbrev sNeedPX : Stmt := top 47
abbrev nNeedPX : List Str := ["rims", "value"]
theorem scNeedPX : FnScope nNeedPX ["rims", "value"] (defScope sNeedPX) := ⟨rfl, rfl, rfl, by decide +kernel, rfl, by decide +kernel, by decide +kernel⟩
section
variable {P : Program} {w : World} {K : PySem.W.Frag} {mg : Str → Option Value} {base : Heap} {C CR CS CBS CNP CTw CMF : Addr}
theorem ok_NeedS {f : Addr} {fd : FuncData} (F : Fun K "need_sewing" "need_sewing" sNeedS f fd) (N : TN mg) (T : TxW K mg C) (TS : TxSC K mg CS) (BS : ErrC P w K mg base CBS "BadSewing" ["self", "part"] (spI1 "part" CBS))  : FnOk P w K mg base (L2.CX P w) 4 f fd ["value", "part"] (spNeedS K C CR CS CBS) := by
  refine F.okX scNeedS (fun vs H Q E h => ?_) (fun cdv A outer s H vs Q E hr h => ?_)
  · obtain ⟨x, part, rfl, _⟩ := h
    rfl
  · obtain ⟨x, part, rfl, h⟩ := h
    obtain ⟨fBS, fdBS, iBS, tBS, FBS, bBS⟩ := BS.ini
    refine ⟨_, pss_one (ps_if (pt_not (pt_val (pe_callB call_isi (by rfl) N.isinstance (by decide +kernel) (pa_cons (pv 0) (pa_cons (pe_glob (v := .ref CS) (by rfl) TS.mgS rfl) pa_nil))))) (pss_one (ps_raise rfl (takes_of rfl rfl rfl rfl) (pmk_oex (dvs := []) BS.oex iBS tBS FBS (hr.mono (by decide)) bBS .nil pass0 (by rfl) BS.g (pa_cons (pv 1) pa_nil)))) pss_nil), ?_⟩
    rcases h with ⟨⟨tv, ht, hk⟩, kb⟩ | ⟨⟨p, rp, xs, ws, mt, rfl, hS⟩, kq⟩
    · refine ⟨_, rfl, x, _, _, _, _, rfl, .own CS, ht, hk, _, rfl, ?_⟩
      exact iteT ⟨_, rfl, by show 1 ≤ 1000; decide, mk1 (Q := fun cls d H' => E cls d H') fun d hd => kb H (Same.refl _) d hd⟩
    · refine ⟨_, rfl, .ref p, _, _, _, _, rfl, .own CS, hS.tyx T TS, kit_self CS, _, rfl, ?_⟩
      exact iteF kq
theorem ok_NeedPX {f : Addr} {fd : FuncData} (F : Fun K "need_place" "need_place" sNeedPX f fd) (N : TN mg) (TC : TxRC K mg CR) (NP : ErrC P w K mg base CNP "NoPlace" ["self", "value"] (spI1 "value" CNP)) (G_within : Cal P w K mg base "is_within" 2 ["value", "least", "most"] (spWithin)) : FnOk P w K mg base (L2.CX P w) 4 f fd ["rims", "value"] (spNeedPX K C CR CNP) := by
  refine F.okX scNeedPX (fun vs H Q E h => ?_) (fun cdv A outer s H vs Q E hr h => ?_)
  · obtain ⟨p, x, t, xs, ws, rfl, _⟩ := h
    rfl
  · obtain ⟨p, x, t, xs, ws, rfl, R1, ht, kb, kq⟩ := h
    obtain ⟨fNP, fdNP, iNP, tNP, FNP, bNP⟩ := NP.ini
    refine ⟨_, pss_one (ps_if (pt_not (pt_val (pe_cal G_within hr (by decide) (by rfl) (pa_cons (pv 1) (pa_cons pe_int (pa_cons (pe_op op_sub (pe_fld (pv 0) rfl) pe_int) pa_nil)))))) (pss_one (ps_raise rfl (takes_of rfl rfl rfl rfl) (pmk_oex (dvs := []) NP.oex iNP tNP FNP (hr.mono (by decide)) bNP .nil pass0 (by rfl) NP.g (pa_cons (pv 1) pa_nil)))) pss_nil), ?_⟩
    obtain ⟨dx, tw, tl, th, tn, h1, _⟩ := id R1
    refine ⟨_, rfl, _, rfl, p, CR, dx, _, _, rfl, h1, TC.cl, TC.n3, rf_many, _, _, rfl, rfl, ?_⟩
    refine ⟨x, .int 0, .int ((ws.flatten.length : Int) - 1), t, rfl, ht, .inr ⟨_, rfl⟩, .inr ⟨_, rfl⟩, _, rfl, ?_⟩
    show if (!plB x ws.flatten.length) = true then _ else _
    cases hb : plB x ws.flatten.length with
    | true => exact iteF (kq hb)
    | false => exact iteT ⟨_, rfl, by show 1 ≤ 1000; decide, mk1 (Q := fun cls d H' => E cls d H') fun d hd => kb hb H (Same.refl _) d hd⟩
end
end W33
set_option Elab.async false
set_option linter.all false
set_option maxRecDepth 100000
set_option maxHeartbeats 600000
/-! == and != of the instances of a class with its own ==. -/
namespace OE
open PySem L2 PySem.Spec PyProof.Rows
def spE (R : Hp → Addr → Addr → Bool → Prop) : Sp := fun vs H Q _ => ∃ (p q : Addr) (b : Bool), vs = [.ref p, .ref q] ∧ R H p q b ∧ Q (.bl b) H
/-- C's == answers b where R says so -/
structure Eq (P : Program) (w : World) (K : PySem.W.Frag) (mg : Str → Option Value) (base : Heap) (C : Addr) (k : Nat) (R : Hp → Addr → Addr → Bool → Prop) : Prop where
  ex : ∃ (f : Addr) (fd : FuncData), FnOk P w K mg base CX0 k f fd ["self", "other"] (spE R) ∧ PySem.W.findIn K (.ref C) "__eq__" = some (some (.ref f)) ∧ PySem.W.isFn K (.ref f) = true ∧ Binds K fd ["self", "other"] []
  ins : ∀ H p q b, R H p q b → (∃ dx fs, H p = some (.ins C dx fs)) ∧ ∃ dy gs, H q = some (.ins C dy gs)
  ne : PySem.W.findIn K (.ref C) "__ne__" = some (some (.builtin "object.__ne__"))
  mr : PySem.W.mroIn K C (.type "object") = some true
def rE (R : Hp → Addr → Addr → Bool → Prop) : R2 := fun x y H Q => ∃ (p q : Addr) (b : Bool), x = .ref p ∧ y = .ref q ∧ R H p q b ∧ Q (.bl b) H
def rN (R : Hp → Addr → Addr → Bool → Prop) : R2 := fun x y H Q => ∃ (p q : Addr) (b : Bool), x = .ref p ∧ y = .ref q ∧ R H p q b ∧ Q (.bl (!b)) H
section
variable {X : Cx} {C : Addr} {k : Nat} {R : Hp → Addr → Addr → Bool → Prop} {pins : List (Addr × Obj)} {σ : L2.St} {H : Hp} {s : Shared}
theorem callE (M : Eq X.prog X.w X.K X.mg X.base C k R) {A : Around} (sb : Sub X k A) (I : Inv X pins σ H s) {a b : Addr} {c : Bool} (r : R H a b c) :
    ∃ f : Addr, PySem.W.findIn X.K (.ref C) "__eq__" = some (some (.ref f)) ∧ PySem.W.isFn X.K (.ref f) = true ∧ wpAny (model X.prog X.w) A (call (.ref f) [.ref a, .ref b]) (fun r s' => r = .bool c ∧ Inv X pins σ H s') X.xe s := by
  obtain ⟨f, fd, F, hs, hf, hb⟩ := M.ex
  refine ⟨f, hs, hf, ?_⟩
  have hsp : spE R [.ref a, .ref b] H (fun v H' => v = .bl c ∧ H' = H) E0 := ⟨a, b, c, rfl, r, rfl, rfl⟩
  have e0 : Env0 X.prog X.w X.K X.mg X.base A X.stack s H := by
    have e := I.env0
    exact ⟨by rw [sb.fr]; exact e.frames, e.mod, e.bs, e.bsz, e.funs, e.frf, e.hok, e.bare⟩
  have hl := F.len _ _ _ _ hsp
  have r2 : Vals [V.ref a, V.ref b] [Value.ref a, Value.ref b] := .cons rfl (.cons rfl .nil)
  refine wpAny_call (codeAny_mono (F.run A X.stack s H ⟨[.ref a, .ref b], []⟩ [.ref a, .ref b] [.ref a, .ref b] _ E0 sb.room e0 (by
    have := hb s [.ref a, .ref b] I.kIn (by simpa using hl)
    simpa using this) r2 hsp) fun r s' hq => ?_)
  cases r with
  | error e => exact pass0 pins σ H s e s' I hq
  | ok fl =>
    cases fl with
    | ret w =>
      obtain ⟨z, H', I', rz, ez, eH⟩ := I.after hq
      subst ez eH
      cases rz
      exact ⟨rfl, I'⟩
    | next => exact False.elim hq
    | brk => exact False.elim hq
    | cont => exact False.elim hq
theorem op_e (M : Eq X.prog X.w X.K X.mg X.base C k R) {j : Nat} (hr : Room j X.A) (hj : k ≤ j) : OpR X (compareOp .Eq) (rE R) := by
  intro pins s σ H x y u v Q I rx ry d
  obtain ⟨a, b, c, rfl, rfl, r, hq⟩ := d
  cases rx
  cases ry
  obtain ⟨⟨dx, fs, ha⟩, dy, gs, hb'⟩ := M.ins _ _ _ _ r
  obtain ⟨mA, J, _⟩ := ins_get I.hok ha
  obtain ⟨mB, J', _⟩ := ins_get I.hok hb'
  obtain ⟨od, J, _⟩ := J.look
  obtain ⟨od', J', _⟩ := J'.look
  obtain ⟨m, hF⟩ := I.fr
  have rm : Room k X.A := hr.mono hj
  obtain ⟨f, hs, hf, hc⟩ := callE M ⟨rm, rfl⟩ I r
  show wpAny (model X.prog X.w) X.A (richCompare .Eq (.ref a) (.ref b)) (EP X pins σ Q) X.xe s
  refine PySem.W.cmp_K (op := .Eq) (tb := .ref C) rm.units0 hF I.ok.mod.kin J J'.type (by simp [PySem.W.notFirst]) hs hf (wpAny_mono hc (fun r s' q => ?_) fun _ _ z => z)
  obtain ⟨rfl, I'⟩ := q
  exact ⟨.bl _, H, I', rfl, hq⟩
theorem op_n (M : Eq X.prog X.w X.K X.mg X.base C k R) {j : Nat} (hr : Room j X.A) (hj : k + 1 ≤ j) : OpR X (compareOp .NotEq) (rN R) := by
  intro pins s σ H x y u v Q I rx ry d
  obtain ⟨a, b, c, rfl, rfl, r, hq⟩ := d
  cases rx
  cases ry
  obtain ⟨⟨dx, fs, ha⟩, dy, gs, hb'⟩ := M.ins _ _ _ _ r
  obtain ⟨mA, J, _⟩ := ins_get I.hok ha
  obtain ⟨mB, J', _⟩ := ins_get I.hok hb'
  obtain ⟨od, J, _⟩ := J.look
  obtain ⟨od', J', _⟩ := J'.look
  have rm4 : Room (k + 1) X.A := hr.mono hj
  obtain ⟨f, hs, hf, hc⟩ := callE (A := X.A.in1) M ⟨rm4.in1, rfl⟩ I r
  show wpAny (model X.prog X.w) X.A (richCompare .NotEq (.ref a) (.ref b)) (EP X pins σ Q) X.xe s
  refine NeK.rc_ne (by have := rm4.in1.units0; exact this) I.kIn J J' M.mr hs hf M.ne (wpAny_mono hc (fun r s' q => ?_) fun _ _ z => z)
  obtain ⟨rfl, I'⟩ := q
  exact ⟨_, rfl, .bl _, H, I', rfl, hq⟩
end
end OE
set_option Elab.async false
set_option linter.all false
set_option maxRecDepth 100000
set_option maxHeartbeats 600000
namespace W33
open PySem L2 PySem.Spec PyProof.Rows WR WB WE WS
/-! ### sewings held against one another -/
def SewEq (K : PySem.W.Frag) (C CR CS : Addr) (H : Hp) (p q : Addr) (b : Bool) : Prop := ∃ (rp rq : Addr) (xs ys : List Addr) (ws us : List (List Int)) (mt nt : List Int), SewAt K C CR CS H p rp xs ws mt ∧ SewAt K C CR CS H q rq ys us nt ∧ b = decide (ws = us ∧ mt = nt)
abbrev sEqSx : Stmt := inClass (top 59) 1
abbrev nEqSx : List Str := ["self", "other"]
theorem scEqSx : FnScope nEqSx ["self", "other"] (defScope sEqSx) := ⟨rfl, rfl, rfl, by decide +kernel, rfl, by decide +kernel, by decide +kernel⟩
section
variable {P : Program} {w : World} {K : PySem.W.Frag} {mg : Str → Option Value} {base : Heap} {C CR CS : Addr}
theorem ok_EqSx {f : Addr} {fd : FuncData} (F : Fun K "__eq__" "Sewing.__eq__" sEqSx f fd) (N : TN mg) (T : TxW K mg C) (TC : TxRC K mg CR) (TS : TxSC K mg CS) (ER : EqR P w K mg base C CR)  : FnOk P w K mg base CX0 4 f fd ["self", "other"] (OE.spE (SewEq K C CR CS)) := by
  refine F.ok scEqSx (fun vs H Q E h => ?_) (fun cdv A outer s H vs Q E hr h => ?_)
  · obtain ⟨p, q, b, rfl, _⟩ := h
    rfl
  · obtain ⟨p, q, b, rfl, ⟨rp, rq, xs, ys, ws, us, mt, nt, S1, S2, rfl⟩, k⟩ := h
    refine ⟨_, pss_one (ps_ret (pe_and (pe_callB call_isi (by rfl) N.isinstance (by decide +kernel) (pa_cons (pv 1) (pa_cons (pe_glob (v := .ref CS) (by rfl) TS.mgS rfl) pa_nil))) (pe_and (pe_cmpR (op_eqR ER hr (by decide)) (pe_fld (pv 0) rfl) (pe_fld (pv 1) rfl) (nomark _)) (pe_one (pe_cmpR (op_eqD hr.units) (pe_fld (pv 0) rfl) (pe_fld (pv 1) rfl) (nomark _)))))), ?_⟩
    obtain ⟨dx, tm, tc, tp, h1, R1, h3, _⟩ := id S1
    obtain ⟨dy, um, uc, up, g1, R2, g3, _⟩ := id S2
    refine ⟨_, rfl, .ref q, _, _, _, _, rfl, .own CS, S2.tyx T TS, kit_self CS, _, rfl, ?_⟩
    refine iteT ?_
    refine ⟨_, rfl, p, CS, dx, _, _, rfl, h1, TS.cl, TS.n1, sf_rims, _, rfl, q, CS, dy, _, _, rfl, g1, TS.cl, TS.n1, sf_rims, rp, rq, xs, ys, ws, us, rfl, rfl, R1, R2, ?_⟩
    refine ⟨_, rfl, ?_⟩
    by_cases hw : ws = us
    · refine iteT' (decide_eq_true hw) ?_
      refine ⟨_, rfl, p, CS, dx, _, _, rfl, h1, TS.cl, TS.n2, sf_mates, _, rfl, q, CS, dy, _, _, rfl, g1, TS.cl, TS.n2, sf_mates, .tuple (mt.map .int), .tuple (nt.map .int), .tup h3.sq (dpInts mt), .tup g3.sq (dpInts nt), PySem.W.ke_shaped_ints mt, PySem.W.ke_shaped_ints nt, ?_⟩
      rw [eqv_ints]
      have : decide (ws = us ∧ mt = nt) = decide (mt = nt) := by
        rw [Bool.eq_iff_iff, decide_eq_true_iff, decide_eq_true_iff]
        exact ⟨fun h => h.2, fun h => ⟨hw, h⟩⟩
      rw [this] at k
      exact k
    · refine iteF' (decide_eq_false hw) ?_
      rw [decide_eq_false (fun h => hw h.1)] at k
      exact k
end
/-! ### a def that may raise, called by keywords alone, where nothing is raised -/
structure CalKX (P : Program) (w : World) (K : PySem.W.Frag) (mg : Str → Option Value) (base : Heap) (x : Str) (k : Nat) (ps ks : List Str) (gV : List V → List V) (sp : Sp) : Prop where
  ex : ∃ (f : Addr) (fd : FuncData) (g : List Value → List Value), FnOk P w K mg base (L2.CX P w) k f fd ps sp ∧ mg x = some (.ref f) ∧ PySem.W.keepIn K (.ref f) = true ∧ KBn K fd ps 0 ks (fun _ ws => g ws) (fun _ zs => gV zs)
def tCalKX (sp : Sp) (gV : List V → List V) (m : Nat) (tk : TA) : TE := fun σ H Q => tk σ H fun zs H2 => zs.length = m ∧ sp (gV zs) H2 Q (fun _ _ _ => False)
section
variable {X : Cx} {x : Str} {k j : Nat} {ps ks : List Str} {gV : List V → List V} {sp : Sp} {p pos : Pos} {kws : List Keyword} {tk : TA}
theorem pe_calKX (C : CalKX X.prog X.w X.K X.mg X.base x k ps ks gV sp) (hr : Room j X.A) (hkj : k ≤ j) (hg : Gl X x) (hkw : PK X kws tk) (hall : (backToKw pos (keywordEach kws X.env)).all (·.1.isSome) = true := by rfl)
    (hks : (backToKw pos (keywordEach kws X.env)).filterMap (·.1) = ks := by rfl) (hdb : (x == ("__debug__" : Str)) = false := by decide) (hpl : ((backTo pos (starEach [] X.env)).any (·.1) || (backToKw pos (keywordEach kws X.env)).any (·.1.isNone)) = false := by rfl) :
    PE X (.Call (.Name x p) [] kws pos) (tCalKX sp gV ks.length tk) := by
  obtain ⟨f, fd, g, F, hm, hk, hb⟩ := C.ex
  refine ⟨fun pins s σ H Q I h => ?_⟩
  refine wpAny_Call_Name_kw (ld_glob I hg hm ?_ hdb)
  refine PySem.W.callWith_KW0 (h₀ := X.base) I.ok.mod.kin hk hall ?_ hpl
  refine thn (hkw.run pos pins s σ H _ I h) fun ws s2 ⟨zs, H2, I2, rz, lz, q2⟩ => ⟨I2.kIn, ?_⟩
  rw [hks]
  have r2 := hb.rel (vs := []) (us := []) .nil rz
  have hl : ws.length = ks.length := by rw [← rz.length, lz]
  refine wpAny_call (codeAny_mono ((F.mono hkj).run X.A X.stack s2 H2 ⟨[], ks.zip ws⟩ (g ws) (gV zs) Q (fun _ _ _ => False) hr I2.env0 (hb.to s2 [] ws I2.kIn rfl hl) r2 q2) fun r s' hq => ?_)
  cases r with
  | error e => exact passF pins σ H2 s2 e s' I2 hq
  | ok fl =>
    cases fl with
    | ret u => exact I2.after hq
    | next => exact False.elim hq
    | brk => exact False.elim hq
    | cont => exact False.elim hq
end
end W33
set_option Elab.async false
set_option linter.all false
set_option maxRecDepth 100000
set_option maxHeartbeats 2000000
/-! try: .. except X as n: y = n: the exception is kept by a name, asked for its class and its fields later. -/
namespace CK
open PySem PySem.Spec PyProof.Rows L2 TM
/-! ### the class of an exception that has a dict of its own -/
end CK
set_option Elab.async false
set_option linter.all false
set_option maxRecDepth 100000
set_option maxHeartbeats 600000
/-! repr of any data; isinstance of a kept exception against a tuple of classes. -/
set_option Elab.async false
set_option linter.all false
set_option maxRecDepth 100000
set_option maxHeartbeats 1000000
namespace W33
open PySem L2 PySem.Spec PyProof.Rows WR WB WE WS
/-! ### errors besides; what needs a letter, few places -/
def spI2 (C : Addr) : Sp := fun vs H Q _ => ∃ (a : Addr) (v u : V), vs = [.ref a, v, u] ∧ H a = some (exo a C none) ∧ ∀ dx, H dx = none → dx ≠ a → Q .non (L2.upd (L2.upd (L2.upd H dx (exd dx [("what", v)])) a (exo a C (some dx))) dx (exd dx [("most", u), ("what", v)]))
theorem heap2 {H : Hp} {a d : Addr} {e1 e2 e3 e4 o : HO} (ha : H a = none) (hd : d ≠ a) : L2.upd (del (L2.upd (L2.upd (L2.upd (L2.upd H a e1) d e2) a e3) d e4) a) d o = L2.upd H d o := by
  funext b
  by_cases h1 : b = d
  · subst h1
    rw [upd_same, upd_same]
  · rw [upd_ne h1, upd_ne h1]
    by_cases h2 : b = a
    · subst h2
      rw [del_same, ha]
    · rw [del_ne h2, upd_ne h1, upd_ne h2, upd_ne h1, upd_ne h2]
theorem mk2 {C : Addr} {H : Hp} {v u : V} {Q : XK} (k : ∀ d, H d = none → Q (.ref C) (some d) (L2.upd H d (.xd [("most", u), ("what", v)]))) : ∀ a, H a = none → spI2 C [.ref a, v, u] (L2.upd H a (exo a C none))
    (fun z H2 => z = .non ∧ ∃ (d : Addr) (fs : List (Str × V)), H2 a = some (exo a C (some d)) ∧ H2 d = some (exd d fs) ∧ H d = none ∧ Q (.ref C) (some d) (L2.upd (del H2 a) d (.xd fs))) (fun _ _ _ => False) := by
  intro a ha
  refine ⟨a, v, u, rfl, upd_same, fun dx h1 h2 => ⟨rfl, dx, _, by rw [upd_ne h2.symm, upd_same], upd_same, by rw [upd_ne h2] at h1; exact h1, ?_⟩⟩
  rw [heap2 ha h2]
  exact k dx (by rw [upd_ne h2] at h1; exact h1)
abbrev sInitTM : Stmt := inClass (top 10) 0
abbrev nInitTM : List Str := ["self", "what", "most"]
theorem scInitTM : FnScope nInitTM ["self", "what", "most"] (defScope sInitTM) := ⟨rfl, rfl, rfl, by decide +kernel, rfl, by decide +kernel, by decide +kernel⟩
section
variable {P : Program} {w : World} {K : PySem.W.Frag} {mg : Str → Option Value} {base : Heap}
theorem ok_initTM {C f : Addr} {fd : FuncData} (F : Fun K "__init__" "TooMany.__init__" sInitTM f fd) (O : OexC K C) (n1 : PySem.W.findIn K (.ref C) "what" = some none) (n2 : PySem.W.findIn K (.ref C) "most" = some none) : FnOk P w K mg base CX0 1 f fd ["self", "what", "most"] (spI2 C) := by
  refine F.ok scInitTM (fun vs H Q E h => ?_) (fun cdv A outer s H vs Q E hr h => ?_)
  · obtain ⟨a, v, u, rfl, _⟩ := h
    rfl
  · obtain ⟨a, v, u, rfl, hA, k⟩ := h
    refine ⟨_, pss_cons (ps_ost (pv 0) (pv 1)) (pss_one (ps_ost (pv 0) (pv 2))), ?_⟩
    refine ⟨_, rfl, _, rfl, a, C, rfl, O, n1, .inl ⟨hA, fun dx h1 h2 => ?_⟩⟩
    refine ⟨_, rfl, _, rfl, a, C, rfl, O, n2, .inr ⟨dx, _, upd_same, by rw [upd_ne h2, upd_same], by show 1 ≤ 900; decide, k dx h1 h2⟩⟩
end
/-- too many of what there are -/
abbrev BadM (C : Addr) (E : XK) (H : Hp) (wh : V) (n : Int) : Prop := ∀ H1, Same H H1 → ∀ d, H1 d = none → E (.ref C) (some d) (L2.upd H1 d (.xd [("most", .int n), ("what", wh)]))
def spFewPX (CTM : Addr) : Sp := fun vs H Q E => ∃ n : Int, vs = [.int n] ∧ (n ≤ 24 → Q .non H) ∧ (24 < n → BadM CTM E H (.str "letters") 24)
def spInitRX (K : PySem.W.Frag) (C CR CTM : Addr) : Sp := fun vs H Q E => ∃ (H0 : Hp) (p dx a : Addr) (xs : List Addr) (ws : List (List Int)), vs = [.ref p, .ref a] ∧ Same H0 H ∧ H0 p = none ∧ H p = some (.ins CR dx []) ∧ SqL K H0 a (xs.map V.ref) ∧ Wds K C H0 xs ws ∧
  1 ≤ ws.length ∧ ws.length ≤ 4 ∧ (∀ w ∈ ws, w ≠ []) ∧ 24 < ws.flatten.length ∧ ws.flatten.length ≤ 60 ∧ BadM CTM E H (.str "letters") 24
section
variable {P : Program} {w : World} {K : PySem.W.Frag} {mg : Str → Option Value} {base : Heap} {C CR CTM CNL : Addr}
theorem ok_fewPX {f : Addr} {fd : FuncData} (F : Fun K "need_few_places" "need_few_places" sFewP f fd) (T : TxR mg) (ET : ErrC P w K mg base CTM "TooMany" ["self", "what", "most"] (spI2 CTM)) : FnOk P w K mg base (L2.CX P w) 4 f fd ["many"] (spFewPX CTM) := by
  refine F.okX scFewP (fun vs H Q E h => ?_) (fun cdv A outer s H vs Q E hr h => ?_)
  · obtain ⟨n, rfl, _⟩ := h
    rfl
  · obtain ⟨n, rfl, k1, k2⟩ := h
    obtain ⟨tk, mM⟩ := T.places
    obtain ⟨fI, fdI, iC, tI, FI, bI⟩ := ET.ini
    refine ⟨_, pss_one (ps_if (pt_cmpR op_gt (pv 0) (pe_glob (v := .int 24) (by rfl) mM ⟨_, rfl⟩) (nomark _)) (pss_one (ps_raise rfl (takes_of rfl rfl rfl rfl) (pmk_oex (dvs := []) ET.oex iC tI FI (hr.mono (by decide)) bI .nil pass0 (by rfl) ET.g (pa_cons pe_str (pa_cons (pe_glob (v := .int 24) (by rfl) mM ⟨_, rfl⟩) pa_nil))))) pss_nil), ?_⟩
    refine ⟨_, rfl, _, _, rfl, rfl, _, rfl, ?_⟩
    refine ite2 (fun h => ?_) (fun h => ?_)
    · exact ⟨by show 2 ≤ 1000; decide, mk2 (Q := fun cls d H' => E cls d H') fun d hd => k2 (of_decide_eq_true h) H (fun _ _ e => e) d hd⟩
    · exact k1 (by have := of_decide_eq_false (Bool.eq_false_iff.mpr h); omega)
theorem ok_initRX {f : Addr} {fd : FuncData} (F : Fun K "__init__" "Rims.__init__" sInitR f fd) (T : TxW K mg C) (TC : TxRC K mg CR) (TA : TxA mg) (R : TxR mg) (GL : Cal P w K mg base "is_listed" 1 ["value"] (spListE K)) (GF : Cal P w K mg base "is_filled" 1 ["value"] (spFilled K C))
    (GP : CalX P w K mg base "need_few_places" 4 ["many"] (spFewPX CTM)) (GB : Cal P w K mg base "need_balanced" 3 ["letters"] (spNeedB K)) (GN : Cal P w K mg base "nexts_of" 1 ["words"] (spNexts K C)) :
    FnOk P w K mg base (L2.CX P w) 5 f fd ["self", "words"] (spInitRX K C CR CTM) := by
  refine F.okX scInitR (fun vs H Q E h => ?_) (fun cdv A outer s H vs Q E hr h => ?_)
  · obtain ⟨H0, p, dx, a, xs, ws, rfl, _⟩ := h
    rfl
  · obtain ⟨H0, p, dx, a, xs, ws, rfl, s0, p0, hp, hS, hW, l1, l4, hne, l24, l60, k⟩ := h
    obtain ⟨tW, mW⟩ := R.words
    refine ⟨_, pss_cons (ps_if (PW.pt (pw_or (pt_not (pt_val (pe_cal GL hr (by decide) (by rfl) (pa_cons (pv 1) pa_nil)))) (pw_or1 (pt_not (pt_chain op_le op_le pe_int (pe_callB call_len_seq (by rfl) TA.len PySem.boot_len (pa_cons (pv 1) pa_nil)) (pe_glob (v := .int 4) (by rfl) mW ⟨_, rfl⟩)))))) (pss_one ps_never) pss_nil)
      (pss_cons (ps_if (pt_not (pt_val (pe_callB (cr_all rfl) (by rfl) T.all (by decide +kernel) (pa_cons (pe_lc (own := [("word", 3)]) (g := gName 3) (tt := tYes) rfl scInitR.nd (pi_list (pv 1))
          (blkOk_by (N := nInitR) (sc := defScope sInitR) (by decide +kernel)) (fun _ _ _ _ _ => pg_name (i := 3) scInitR.nd rfl (Or.inl rfl)) (fun _ _ _ _ _ => pts_nil)
          (fun _ _ _ _ _ => pe_cal GF hr (by decide) (by rfl) (pa_cons (pv 3) pa_nil))) pa_nil)))) (pss_one ps_never) pss_nil)
      (pss_cons (ps_setLc2 (i := 2) (own := [("word", 3), ("letter", 4)]) (vs1 := [4]) (g := gName 3) (tt := tYes) (g1 := gName 4) (tt1 := tYes) rfl scInitR.nd rfl rfl (sw_true rfl rfl rfl (by decide +kernel)) (pi_list (pv 1))
          (blkOk_by (N := nInitR) (sc := defScope sInitR) (by decide +kernel)) (by decide) (fun _ _ _ _ _ => pg_name (i := 3) scInitR.nd rfl (Or.inl rfl)) (fun _ _ _ _ _ => pts_nil)
          (fun _ _ _ _ _ => pi_tupK (K := K) rfl (pe_fldK (K := K) rfl (pv 3) rfl)) (fun _ _ _ _ _ => pg_name (i := 4) scInitR.nd rfl (Or.inl rfl)) (fun _ _ _ _ _ => pts_nil) (fun _ _ _ _ _ => pv 4))
      (pss_cons (ps_expr (pe_calX GP hr (by decide) (passes_call (takes_of rfl rfl rfl rfl) (fun _ _ _ _ h => h)) (by rfl) (pa_cons (pe_callB call_len_seq (by rfl) TA.len PySem.boot_len (pa_cons (pv 2) pa_nil)) pa_nil)))
      (pss_cons (ps_expr (pe_cal GB hr (by decide) (by rfl) (pa_cons (pv 2) pa_nil)))
      (pss_cons (ps_fld (pv 0) (pe_callTy call_tupB (by rfl) TA.tuple (by decide +kernel) (pa_cons (pv 1) pa_nil)) rfl)
      (pss_cons (ps_fld (pv 0) (pe_callTy call_tupB (by rfl) TA.tuple (by decide +kernel) (pa_cons (pv 2) pa_nil)) rfl)
      (pss_cons (ps_fld (pv 0) (pe_callB call_len_seq (by rfl) TA.len PySem.boot_len (pa_cons (pv 2) pa_nil)) rfl)
      (pss_cons (ps_fld (pv 0) (pe_op op_fdiv (pe_callB call_len_seq (by rfl) TA.len PySem.boot_len (pa_cons (pv 2) pa_nil)) pe_int) rfl)
      (pss_cons (ps_fld (pv 0) (pe_callB (cr_all rfl) (by rfl) T.all (by decide +kernel) (pa_cons (pe_lc (own := [("word", 3)]) (g := gName 3) (tt := tYes) rfl scInitR.nd (pi_list (pv 1))
          (blkOk_by (N := nInitR) (sc := defScope sInitR) (by decide +kernel)) (fun _ _ _ _ _ => pg_name (i := 3) scInitR.nd rfl (Or.inl rfl)) (fun _ _ _ _ _ => pts_nil)
          (fun _ _ _ _ _ => pe_fldK (K := K) rfl (pv 3) rfl)) pa_nil)) rfl)
      (pss_cons (ps_fld (pv 0) (pe_callTy call_tupB (by rfl) TA.tuple (by decide +kernel) (pa_cons (pe_lc2 (own := [("home", 5), ("word", 3), ("_", 6)]) (vs1 := [6]) (g := gTup K 2 (gCons (gName 5) (gCons (gName 3) gNil))) (tt := tYes) (g1 := gName 6) (tt1 := tYes) rfl scInitR.nd (pi_enum (by rfl) R.enum (pa_cons (pv 1) pa_nil))
          (blkOk_by (N := nInitR) (sc := defScope sInitR) (by decide +kernel)) (by decide) (fun _ _ _ _ _ => pg_tup (n := 2) rfl (pgs_cons (pg_name (i := 5) scInitR.nd rfl (Or.inl rfl)) (pgs_cons (pg_name (i := 3) scInitR.nd rfl (Or.inl rfl)) pgs_nil))) (fun _ _ _ _ _ => pts_nil)
          (fun _ _ _ _ _ => pi_tupK (K := K) rfl (pe_fldK (K := K) rfl (pv 3) rfl)) (fun _ _ _ _ _ => pg_name (i := 6) scInitR.nd rfl (Or.inl rfl)) (fun _ _ _ _ _ => pts_nil) (fun _ _ _ _ _ => pv 5)) pa_nil)) rfl)
      (pss_one (ps_fld (pv 0) (pe_cal GN hr (by decide) (by rfl) (pa_cons (pv 1) pa_nil)) rfl)))))))))))), ?_⟩
    have lxw : xs.length = ws.length := hW.length
    have E0 : SqE K H0 a (xs.map V.ref) := .inl hS
    refine ⟨_, rfl, a, _, rfl, E0.same s0, fun H1 s1 => ⟨_, rfl, ?_⟩⟩
    have s01 := s0.trans s1
    refine iteF ?_
    have hp1 := s1 _ _ hp
    refine ⟨_, rfl, a, _, rfl, .inl (s01.seq hS), _, _, rfl, rfl, _, rfl, iteT' (decide_eq_true (by rw [List.length_map, lxw]; omega)) ⟨_, _, rfl, rfl, _, rfl, no_ne (decide_eq_true (by rw [List.length_map, lxw]; omega)) ?_⟩⟩
    refine nx_not_lc ?_
    refine ⟨_, rfl, a, rfl, ⟨_, s01.seq hS⟩, ?_⟩
    refine lcp (walk_list (xs := xs.map V.ref)) (fun _ => true) (fun _ => V.bl true) (by rw [List.length_map]; omega) (fun H2 s => (s01.trans s).seq hS) ?_ ?_
    · intro x hx H2 s2 Qy Qn ky kn
      obtain ⟨q, hq, rfl⟩ := List.mem_map.mp hx
      obtain ⟨u, hu, Wq⟩ := All2.mem hW hq
      have up : 0 < u.length := List.length_pos_iff.mpr (hne u hu)
      refine ⟨rfl, yes_te ⟨_, rfl, q, u, rfl, Wq.same (s01.trans s2), ?_⟩⟩
      rw [decide_eq_true (show (0 : Int) < (u.length : Int) by omega)]
      exact ky rfl H2 (fun _ _ e => e)
    intro D1 H2 hD1 s2 h2
    have s02 := s01.trans s2
    have hp2 := s2 _ _ hp1
    refine ⟨D1, xs.map fun _ => true, rfl, SqL.of (by
      rw [h2, List.filter_eq_self.mpr (fun _ _ => rfl), List.map_map, List.map_map]
      rfl), ?_⟩
    have eall : (xs.map fun _ => true).all id = true := by
      rw [List.all_eq_true]
      intro b hb
      obtain ⟨_, _, rfl⟩ := List.mem_map.mp hb
      rfl
    rw [eall]
    refine ⟨_, rfl, iteF ?_⟩
    refine nx_lc2 ?_
    refine ⟨_, rfl, a, rfl, ⟨_, s02.seq hS⟩, ?_⟩
    refine lc2_out (walk_list (xs := xs.map V.ref)) (fun i => iv (ws.getD i [])) (fun H s => (s02.trans s).seq hS) ?_ ?_
    · rintro i x D H H' hi ⟨rfl, hx⟩ hD sm hDD Nx kN
      obtain ⟨q, hq, rfl⟩ : ∃ q, xs[i]? = some q ∧ x = V.ref q := by
        rw [List.getElem?_map] at hx
        cases e : xs[i]? with
        | none => rw [e] at hx; cases hx
        | some q => rw [e] at hx; exact ⟨q, rfl, (Option.some.inj hx).symm⟩
      obtain ⟨u, hu, Wq⟩ := hW.at hq
      have eu : ws.getD i [] = u := by rw [List.getD_eq_getElem?_getD, hu]; rfl
      obtain ⟨dx1, tl, tk, ks, w1, w2, _⟩ := Wq.same s02
      refine ⟨rfl, yes_te ?_⟩
      refine ⟨_, rfl, q, C, dx1, _, _, rfl, sm _ _ w1, T.cl, T.nL, wf_letters, tl, rfl, ⟨_, WR.Same.seqT sm w2.sq⟩, ?_⟩
      have hft := flat_take hu
      refine lc2_in (walk_tup (xs := iv u)) (fun y => y) hD sm hDD ?_ (fun H s => ?_) ?_ ?_
      · rw [flat_to (by have := (List.getElem?_eq_some_iff.mp hu).1; omega)]
        rw [List.length_map, List.length_map]
        omega
      · exact WR.Same.seqT s w2.sq
      · intro y hy H2 s2 Qy ky Qn
        exact ⟨rfl, yes_te ⟨_, rfl, ky H2 (fun _ _ e => e)⟩⟩
      · intro H2 s2 h2
        refine kN H2 s2 ?_
        rw [h2, List.map_id', eu]
    intro D H3 hD s3 h3
    have eD : ((List.range (xs.map V.ref).length).map fun i => iv (ws.getD i [])).flatten = iv ws.flatten := by
      rw [List.length_map, lxw, flat_to (Nat.le_refl _), List.take_length]
    rw [eD] at h3
    refine at_set ?_
    try dsimp only
    have s03 := s02.trans s3
    have hp3 := s3 _ _ hp2
    have elen : ((iv ws.flatten).length : Int) = (ws.flatten.length : Int) := by rw [List.length_map]
    exact ⟨_, rfl, D, _, rfl, .inl (SqL.of h3), _, rfl, (fun h => absurd h (by rw [elen]; omega)), fun _ H4 s4 => k H4 ((s1.trans (s2.trans s3)).trans s4)⟩
end
end W33
set_option Elab.async false
set_option linter.all false
set_option maxRecDepth 100000
set_option maxHeartbeats 4000000
/-! set(a tuple of ints). -/
namespace WST
open PySem PySem.Spec PyProof.Rows L2 WS
section
variable {P : Program} {w : World} {A : Around} {E : Value → Shared → Prop} {s : Shared}
/-- the heap with the new set, and with the walk of the list besides -/
abbrev hSetT (w : World) (s : Shared) : Heap := s.heap.push (bareSet w)
abbrev hWalk (w : World) (s : Shared) (l : Addr) : Heap := (hSetT w s).push { cls := .type "tuple_iterator", data := .fields #[.ref l, .int 0 0] }
theorem bare_zero {h : Heap} {a : Addr} {ns : List Int} (e : h.get? a = some (bareSet w)) : SetR w h a (fun j => decide (j ∈ ns.take 0)) 0 := setR_new_at e
/-- what set.__init__ leaves -/
def Filled (w : World) (s : Shared) (ns : List Int) (t : Shared) : Prop :=
  ∃ (g : Heap) (k m : Nat), t = { s with heap := g, toks := k } ∧ SetR w g s.heap.objs.size (fun j => decide (j ∈ ns)) m ∧ m ≤ ns.length ∧ ∀ b o, s.heap.get? b = some o → g.get? b = some o
theorem init_tup {l : Addr} {its : Array Value} {ns : List Int} (quiet : A.handled = none) (hl : s.heap.IsTuple l its) (hit : IntsAre its.toList ns) (few : ns.length + 1 < scanBound) :
    wpAny (model P w) A (Builtin.«set.__init__» ⟨[.ref s.heap.objs.size, .ref l], []⟩) (fun r t => r = .done (.ret .none) ∧ Filled w s ns t) E { s with heap := hSetT w s } := by
  have many : its.size = ns.length := by have z := hit.length; rwa [Array.length_toList] at z
  have new : (hSetT w s).get? s.heap.objs.size = some (bareSet w) := Heap.get?_push_size _ rfl
  have old : ∀ {b o}, s.heap.get? b = some o → (hSetT w s).get? b = some o := fun e => Heap.get?_push_of_some _ e
  have ty : Shared.TypeIs { s with heap := hSetT w s } (.ref s.heap.objs.size) "set" := ⟨_, new, rfl⟩
  have hl1 : (hSetT w s).IsTuple l its := hl.push _
  have lo : l < s.heap.objs.size := by obtain ⟨_, e, _⟩ := hl; exact Heap.lt_size e
  have sz : (hSetT w s).objs.size = s.heap.objs.size + 1 := Heap.size_push ..
  obtain ⟨⟨c0, d0, x0, o0⟩, at0, cls0, n0, dat0⟩ := id hl1
  simp only at cls0 dat0
  subst cls0 dat0
  have u1 := PySem.F.sub_tuple_set
  have u2 := PySem.F.sub_tuple_frozenset
  have u3 : (Value.type "tuple" == Value.type "dict") = false := rfl
  unfold Builtin.«set.__init__» noKeywords Builtin.Frozenset.updateFrom
  generalize hid : pyIter = it
  wp_walk
  subst hid
  refine wpAny_pyIter_tuple hl1 (wpAny_bind (wpAny_runValue ?_))
  have off : s.heap.objs.size ∉ [(hSetT w s).objs.size, l] := by
    intro m
    rcases List.mem_cons.mp m with m | m
    · exact absurd (m.trans sz) (Nat.ne_of_lt (Nat.lt_succ_self _))
    · exact absurd (List.mem_singleton.mp m).symm (Nat.ne_of_lt lo)
  have apart : l ≠ (hSetT w s).objs.size := fun e => absurd (e.trans sz) (Nat.ne_of_lt (Nat.lt_succ_of_lt lo))
  refine set_update_ints (Walks.tuple (by simpa using quiet) _ l apart its).toS _ off ns many few (fun i v q => ?_) (its.size - 0) 0 { s with heap := hWalk w s l } (by omega) (Nat.zero_le _) ⟨⟨_, Heap.get?_push_size _ rfl, rfl, rfl⟩, hl1.push _⟩ ⟨0, Nat.le_refl 0, bare_zero (Heap.get?_push_of_some _ new)⟩ fun t m mv le S => ?_
  · have lt : i < ns.length := by rw [← many]; exact (Array.getElem?_eq_some_iff.mp q).1
    obtain ⟨k, e⟩ := hit.int_at i v (by rw [Array.getElem?_toList]; exact q)
    rw [List.getD_eq_getElem?_getD, List.getElem?_eq_getElem lt] at e
    exact ⟨_, k, List.getElem?_eq_getElem lt, e⟩
  · obtain ⟨g, q, d, k, z⟩ := t
    obtain rfl : q = s.gens := mv.gens
    obtain rfl : d = s.drawn := mv.drawn
    obtain rfl : z = s.os := mv.os
    refine wpAny_pure (wpAny_pure ⟨rfl, g, k, m, rfl, S, by rw [← many]; exact le, fun b o e => ?_⟩)
    have lb : b < s.heap.objs.size := Heap.lt_size e
    refine mv.heap b o (fun h => ?_) (Heap.get?_push_of_some _ (old e))
    rcases List.mem_cons.mp h with h | h
    · exact absurd h (Nat.ne_of_lt lb)
    · exact absurd ((List.mem_singleton.mp h).trans sz) (Nat.ne_of_lt (Nat.lt_succ_of_lt lb))
/-- set(xs) of a tuple of ints -/
theorem set_tup {l : Addr} {its : Array Value} {ns : List Int} {Q : Value → Shared → Prop} (quiet : A.handled = none) (hl : s.heap.IsTuple l its) (hit : IntsAre its.toList ns) (few : ns.length + 1 < scanBound)
    (fin : ∀ t, Filled w s ns t → Q (.ref s.heap.objs.size) t) : wpAny (model P w) A (call (.type "set") [.ref l]) Q E s := by
  have F := PySem.F.called_set
  obtain ⟨top, below, mro⟩ := F.mro
  have f1 := F.made; have f2 := F.sub; have f3 := F.notType; have f4 := F.canCreate
  have f5 := PySem.F.typeCall_set_1 (.ref l)
  have new : (hSetT w s).get? s.heap.objs.size = some (bareSet w) := Heap.get?_push_size _ rfl
  have ty : Shared.TypeIs { s with heap := hSetT w s } (.ref s.heap.objs.size) "set" := ⟨_, new, rfl⟩
  have f6 := F.init.lookup; have f7 := F.init.bind (.ref s.heap.objs.size)
  refine wpAny_call (codeAny_of_tree (show wpAny _ _ (callAny (.type "set") _) _ _ _ from wpAny_pure ⟨Code.quiet_builtin _ (by decide +kernel), codeAny_builtin PySem.F.entry_type_call ?_⟩))
  rw [Around.under_plain (weight_type_call_type "set" [.ref l] []) rfl]
  repeat (any_goals (first | assumption | wp_step))
  refine codeAny_mono (code_set_led1 (.ref l) (E := E) (Q₁ := fun v t => v = .ref s.heap.objs.size ∧ t = { s with heap := hSetT w s }) ⟨rfl, rfl⟩) ?_
  rintro (e | fl) t ht
  · exact ht
  cases fl with
  | next => exact ht.elim
  | brk => exact ht.elim
  | cont => exact ht.elim
  | ret v =>
  obtain ⟨rfl, rfl⟩ := ht
  repeat (any_goals (first | assumption | wp_step))
  refine codeAny_mono (codeAny_call_builtin (R := wants (fun v t => v = .none ∧ Filled w s ns t) E) F.init.plain PySem.F.entry_set_init (check_set_init_1 ty ?_)) ?_
  · refine wpAny_mono (init_tup (by simpa using quiet) hl hit few) ?_ fun _ _ z => z
    rintro _ t ⟨rfl, z⟩
    exact ⟨rfl, z⟩
  rintro (e | fl) t ht
  · exact ht
  cases fl with
  | next => exact ht.elim
  | brk => exact ht.elim
  | cont => exact ht.elim
  | ret v =>
  obtain ⟨rfl, z⟩ := ht
  repeat (any_goals (first | assumption | wp_step))
  exact fin _ z
end
section
variable {X : Cx}
def rSetTI (K : PySem.W.Frag) (w : World) : List V → Hp → VK → Prop := fun xs H Q => ∃ (p : Addr) (ns : List Int), xs = [.ref p] ∧ SqT K H p (ns.map V.int) ∧ ns.length ≤ 1000 ∧
  ∀ (D : Addr) (L : List Int), H D = none → L.Nodup → (∀ k, k ∈ L ↔ k ∈ ns) → Q (.ref D) (upd H D (SetO w D (fun j => decide (j ∈ ns)) L.length))
theorem call_setLI (hc : X.calm = true) : CallR X (.type "set") (rSetTI X.K X.w) := by
  intro pins s σ H xs us Q I rel ask
  obtain ⟨p, ns, rfl, hs, few, q⟩ := ask
  obtain ⟨u, rfl, ru⟩ := vals1 rel
  cases ru
  obtain ⟨its, rv, pl, hlen⟩ := I.tuple hs
  refine set_tup (ns := ns) (I.ok.hd hc) pl (by simpa using ints_of_vals rv) (by unfold scanBound; omega) fun t ⟨g, k, m, e, S, le, keep⟩ => ?_
  subst e
  have J := I.laid (t' := k) keep (Nat.le_refl _) (setO_new S)
  obtain ⟨o, es, ep, tb, e1, e2, e3, e4, nd, mem, e5, e6, sz, _⟩ := S
  have z := q s.heap.objs.size (es.toList.map keyOf) (I.hok.fresh (Nat.le_refl _)) nd fun k => by rw [← mem k, decide_eq_true_eq]
  rw [List.length_map, Array.length_toList, sz] at z
  exact ⟨.ref _, _, J, rfl, z⟩
end
end WST
set_option Elab.async false
set_option linter.all false
set_option maxRecDepth 100000
set_option maxHeartbeats 1000000
namespace W33
open PySem L2 PySem.Spec PyProof.Rows WR WB WE WS
/-! ### mates of the places that are kept -/
theorem dc_walk {J : It} {n : Nat} {G : Hp → Prop} {Y : Nat → Hp → V → Hp → Prop} (w : Walk J n G Y) {g : TG} {tt : TT} {tk tv : TE} {vs : List Nat} {σ : L2.St} {H1 : Hp} {D : Addr} {Qd : Hp → Prop} (Pv : Nat → Hp → Prop) (h0 : Pv 0 (L2.upd H1 D (.dK []))) (hl : ∀ i H, i ≤ n → Pv i H → G H)
    (hs : ∀ i x H H', i < n → Pv i H → Y i H x H' → g x (wipe σ vs) H' fun σ2 H2 => wipe σ2 vs = wipe σ vs ∧ tt σ2 H2 fun b H3 =>
      if b = true then tk σ2 H3 fun y H4 => tv σ2 H4 fun z H5 => ∃ kvs k, y = kV k ∧ H5 D = some (.dK kvs) ∧ kvs.length < sizeLine ∧ Pv (i + 1) (L2.upd H5 D (.dK (putK kvs k z))) else Pv (i + 1) H3) (hd : ∀ H, Pv n H → Qd H) :
    ∃ W : Nat → Nat → Hp → Prop, (∃ m, W 0 m (L2.upd H1 D (.dK []))) ∧ ∀ i m H, W i m H →
      (J.stop i H ∧ Qd H) ∨ (J.go i H ∧ ∃ Nx : Hp → Prop, (∀ H', Nx H' → ∃ m', m' < m ∧ W (i + 1) m' H') ∧ ∀ x H', J.yld i H x H' → g x (wipe σ vs) H' fun σ2 H2 => wipe σ2 vs = wipe σ vs ∧ tt σ2 H2 fun b H3 =>
        if b = true then tk σ2 H3 fun y H4 => tv σ2 H4 fun z H5 => ∃ kvs k, y = kV k ∧ H5 D = some (.dK kvs) ∧ kvs.length < sizeLine ∧ Nx (L2.upd H5 D (.dK (putK kvs k z))) else Nx H3) := by
  refine ⟨fun i m H => m = n - i ∧ i ≤ n ∧ Pv i H, ⟨n, by simp, Nat.zero_le _, h0⟩, ?_⟩
  rintro i m H ⟨rfl, hi, p⟩
  have q := hl i H hi p
  by_cases lt : i < n
  · exact .inr ⟨w.goes i H lt q, Pv (i + 1), fun H' p' => ⟨n - (i + 1), by omega, rfl, lt, p'⟩, fun x H' y => hs i x H H' lt p (w.yields i H x H' lt q y)⟩
  · have e : i = n := by omega
    subst e
    exact .inl ⟨w.stops H q, hd H p⟩
theorem ret_lc {wi : TI} {g : TG} {tt : TT} {te : TE} {vs : List Nat} {D : Ends} {σ : L2.St} {H : Hp} (h : wi σ H fun J H1 => tLc (fun _ H R => R J H) g tt te vs σ H1 D.rt) : tRet (tLc wi g tt te vs) D σ H := h
/-- where each place stands among those that are kept -/
def ixO : List Nat → Nat → List (L2.Key × V)
  | [], _ => []
  | k :: r, o => (.inl (k : Int), .int (o : Int)) :: ixO r (o + 1)
theorem ixO_snoc : ∀ (ks : List Nat) (k o : Nat), ixO (ks ++ [k]) o = ixO ks o ++ [(.inl (k : Int), .int ((o + ks.length : Nat) : Int))]
  | [], k, o => rfl
  | x :: r, k, o => by
    show (_, _) :: ixO (r ++ [k]) (o + 1) = _
    rw [ixO_snoc r k (o + 1), show o + 1 + r.length = o + (x :: r).length by rw [List.length_cons]; omega]
    rfl
theorem ixO_len : ∀ (ks : List Nat) (o : Nat), (ixO ks o).length = ks.length
  | [], _ => rfl
  | x :: r, o => by
    show (ixO r (o + 1)).length + 1 = _
    rw [ixO_len r]
    rfl
theorem ixO_val : ∀ (ks : List Nat) (o k : Nat), k ∈ ks → valV (ixO ks o) (.inl (k : Int)) = some (.int ((o + ks.idxOf k : Nat) : Int))
  | x :: r, o, k, h => by
    by_cases e : x = k
    · subst e
      rw [List.idxOf_cons_self]
      exact valV_pos rfl
    · have e2 : ((.inl (x : Int) : L2.Key)) ≠ .inl (k : Int) := fun z => e (by injection z with z; omega)
      have hr : k ∈ r := (List.mem_cons.mp h).resolve_left fun z => e z.symm
      show valV ((.inl (x : Int), .int (o : Int)) :: ixO r (o + 1)) (.inl (k : Int)) = _
      have ex : (x :: r).idxOf k = r.idxOf k + 1 := by
        rw [List.idxOf_cons, show (x == k) = false from beq_eq_false_iff_ne.mpr e]
        rfl
      rw [ex]
      have ih := ixO_val r (o + 1) k hr
      rw [show o + 1 + r.idxOf k = o + (r.idxOf k + 1) by omega] at ih
      rw [← ih]
      exact valV_neg e2
theorem ixO_keys : ∀ (ks : List Nat) (o : Nat), ∀ kv ∈ ixO ks o, ∃ k ∈ ks, kv.1 = .inl (k : Int)
  | x :: r, o, kv, h => by
    rcases List.mem_cons.mp h with rfl | h
    · exact ⟨x, List.mem_cons_self, rfl⟩
    · obtain ⟨k, hk, e⟩ := ixO_keys r (o + 1) kv h
      exact ⟨k, List.mem_cons_of_mem _ hk, e⟩
theorem putK_new {kvs : List (L2.Key × V)} {k : L2.Key} {v : V} (h : ∀ kv ∈ kvs, kv.1 ≠ k) : putK kvs k v = kvs ++ [(k, v)] := by
  unfold putK
  rw [if_neg]
  intro z
  obtain ⟨kv, hk, e⟩ := List.any_eq_true.mp z
  exact h kv hk (of_decide_eq_true e)
def keptF (mt : List Int) (ks : List Nat) : List Nat := ks.map fun k => ks.idxOf (mtn mt k)
def spMam : Sp := fun vs H Q _ => ∃ (m q : Addr) (mt : List Int) (ks : List Nat), vs = [.ref m, .ref q] ∧ H m = some (.lst (iv mt)) ∧ H q = some (.lst (iv (nats ks))) ∧ ks.Nodup ∧ ks.length ≤ 100 ∧ (∀ k ∈ ks, mt[k]? = some ((mtn mt k : Nat) : Int) ∧ mtn mt k ∈ ks) ∧ ∀ l H', H l = none → Same H H' → H' l = some (.lst (iv (nats (keptF mt ks)))) → Q (.ref l) H'
abbrev sMam : Stmt := top 22
abbrev nMam : List Str := ["mates", "places", "stands", "at", "place"]
theorem scMam : FnScope nMam ["mates", "places"] (defScope sMam) := ⟨rfl, rfl, rfl, by decide +kernel, rfl, by decide +kernel, by decide +kernel⟩
section
variable {P : Program} {w : World} {K : PySem.W.Frag} {mg : Str → Option Value} {base : Heap} {C CR CS CTM : Addr}
theorem ok_Mam {f : Addr} {fd : FuncData} (F : Fun K "mates_among" "mates_among" sMam f fd) (N : TN mg)   : FnOk P w K mg base CX0 1 f fd ["mates", "places"] (spMam) := by
  refine F.ok scMam (fun vs H Q E h => ?_) (fun cdv A outer s H vs Q E hr h => ?_)
  · obtain ⟨m, q, mt, ks, rfl, _⟩ := h
    rfl
  · obtain ⟨m, q, mt, ks, rfl, hm, hq, nd, l100, hk, k⟩ := h
    refine ⟨_, pss_cons (ps_set (i := 2) scMam.nd rfl (Or.inr rfl) (pe_dc (own := [("at", 3), ("place", 4)]) (g := gTup K 2 (gCons (gName 3) (gCons (gName 4) gNil))) (tt := tYes) rfl scMam.nd (pi_enum (by rfl) N.enumerate (pa_cons (pv 1) pa_nil)) (blkOk_by (N := nMam) (sc := defScope sMam) (by decide +kernel)) (fun _ _ _ _ _ => (pg_tup (n := 2) rfl (pgs_cons (pg_name (i := 3) scMam.nd rfl (Or.inl rfl)) (pgs_cons (pg_name (i := 4) scMam.nd rfl (Or.inl rfl)) pgs_nil)))) (fun _ _ _ _ _ => pts_nil) (fun _ _ _ _ _ => pv 4) (fun _ _ _ _ _ => pv 3)))
      (pss_one (ps_ret (pe_lc (own := [("place", 4)]) (g := gName 4) (tt := tYes) rfl scMam.nd (pi_list (pv 1)) (blkOk_by (N := nMam) (sc := defScope sMam) (by decide +kernel)) (fun _ _ _ _ _ => (pg_name (i := 4) scMam.nd rfl (Or.inl rfl))) (fun _ _ _ _ _ => pts_nil) (fun _ _ _ _ _ => (pe_dget (by have hh : _ + 64 < cLine := hr.units; exact Nat.lt_of_le_of_lt (Nat.add_le_add_left (by decide : 1 ≤ 64) _) hh) (pv 2) (pe_ix (ixl (K := K) rfl) (pv 0) (pv 4) (fun _ _ => rfl)) (by intro _ _; rfl)))))), ?_⟩
    have sq0 : SqL K H q (iv (nats ks)) := SqL.of hq
    refine ⟨_, rfl, q, _, rfl, sq0, fun D hD => dc_walk (walk_enum (K := K) (a := q) (xs := iv (nats ks))) (fun i H' => Same H H' ∧ H' D = some (.dK (ixO (ks.take i) 0))) ⟨same_upd hD, upd_same⟩ (fun i H' _ p => p.1.seq sq0) ?_ ?_⟩
    · rintro i x H1 H2 hi ⟨s1, g1⟩ ⟨T, a, b, rfl, hT, rfl, ea, eb⟩
      have hik : i < ks.length := by
        rw [List.length_map] at hi
        unfold nats at hi
        rwa [List.length_map] at hi
      cases ea
      have eb : (iv (nats ks))[i]? = some b := eb
      have eb2 : b = V.int ((ks[i] : Nat) : Int) := by
        rw [List.getElem?_map] at eb
        unfold nats at eb
        rw [List.getElem?_map, List.getElem?_eq_getElem hik] at eb
        exact (Option.some.inj eb).symm
      subst eb2
      have sT := same_upd (o := .tup [.int (i : Nat), .int ((ks[i] : Nat) : Int)]) hT
      have nTD : D ≠ T := ne_of_none g1 hT
      refine ⟨T, _, rfl, SqT.of upd_same, rfl, _, _, rfl, _, _, rfl, rfl, rfl, yes_te ?_⟩
      refine ⟨_, rfl, _, rfl, _, .inl ((ks[i] : Nat) : Int), rfl, sT _ _ g1, ?_, ?_, ?_⟩
      · rw [ixO_len, List.length_take]
        exact Evl.sz_lt (by omega)
      · intro b o e
        rw [upd_ne (fun z => by rw [z, hD] at e; cases e)]
        exact sT _ _ (s1 _ _ e)
      · rw [upd_same, putK_new]
        · rw [List.take_succ_eq_append_getElem hik, ixO_snoc, List.length_take, Nat.zero_add, Nat.min_eq_left (Nat.le_of_lt hik)]
        · intro kv hkv z
          obtain ⟨k', hk', e⟩ := ixO_keys _ _ kv hkv
          rw [z] at e
          have e2 : ks[i] = k' := by
            injection e with e
            omega
          obtain ⟨j, hj, e3⟩ := List.getElem_of_mem hk'
          rw [List.length_take] at hj
          rw [List.getElem_take] at e3
          have := List.pairwise_iff_getElem.mp nd j i (by omega) hik (by omega)
          exact this (by rw [e3, e2])
    · rintro H1 ⟨s1, g1⟩
      rw [List.length_map] at g1
      unfold nats at g1
      rw [List.length_map, List.take_length] at g1
      have hm1 := s1 _ _ hm
      have hq1 := s1 _ _ hq
      refine at_set ?_
      try dsimp only
      refine ret_lc ?_
      refine ⟨_, rfl, q, rfl, ⟨_, SqL.of hq1⟩, ?_⟩
      refine lcp (walk_list (K := K) (a := q) (xs := iv (nats ks))) (fun _ => true) (fun x => match x with | .int z => .int ((ks.idxOf (mtn mt z.toNat) : Nat) : Int) | y => y) (by rw [List.length_map]; unfold nats; rw [List.length_map]; omega) (fun H2 s => SqL.of (s _ _ hq1)) ?_ ?_
      · intro x hx H2 s2 Qy Qn ky kn
        obtain ⟨z, hz, rfl⟩ := List.mem_map.mp hx
        obtain ⟨k0, hk0, rfl⟩ := List.mem_map.mp hz
        obtain ⟨m1, m2⟩ := hk k0 hk0
        refine ⟨rfl, yes_te ?_⟩
        refine ⟨_, rfl, _, rfl, _, rfl, m, _, _, _, rfl, rfl, SqL.of (s2 _ _ hm1), atI_nat (iv_get m1), D, _, rfl, .inl ⟨_, .inl ((mtn mt k0 : Nat) : Int), .inl (s2 _ _ g1), rfl, (ixO_val ks 0 _ m2).symm⟩, ?_⟩
        have := ky rfl H2 (Same.refl _)
        rw [Nat.zero_add]
        exact this
      · intro l H2 hl s2 h2
        refine k l H2 (s1.free hl) (s1.trans s2) ?_
        rw [h2, List.filter_eq_self.mpr (fun _ _ => rfl)]
        unfold iv nats keptF
        rw [List.map_map, List.map_map, List.map_map, List.map_map]
        rfl
end
end W33
set_option Elab.async false
set_option linter.all false
set_option maxRecDepth 100000
set_option maxHeartbeats 1000000
namespace W33
open PySem L2 PySem.Spec PyProof.Rows WR WB WE WS
/-! ### two promises of one def, one without errors; rims of letters and homes -/
def spOr (s1 s2 : Sp) : Sp := fun vs H Q E => s1 vs H Q E ∨ s2 vs H Q E
theorem fn_or {P : Program} {w : World} {K : PySem.W.Frag} {mg : Str → Option Value} {base : Heap} {k : Nat} {f : Addr} {fd : FuncData} {ps : List Str} {s1 s2 : Sp} (F1 : FnOk P w K mg base CX0 k f fd ps s1) (F2 : FnOk P w K mg base (L2.CX P w) k f fd ps s2) : FnOk P w K mg base (L2.CX P w) k f fd ps (spOr s1 s2) := by
  refine ⟨fun vs H Q E h => h.elim (F1.len vs H Q E) (F2.len vs H Q E), fun A outer s H args us vs Q E hr e0 hb r h => ?_⟩
  rcases h with h | h
  · refine codeAny_mono (F1.run A outer s H args us vs Q E hr e0 hb r h) fun r s' q => ?_
    match r, q with
    | .ok (.ret u), q => exact q
    | .error e, q => exact (show False from q).elim
  · exact F2.run A outer s H args us vs Q E hr e0 hb r h
structure MkRX (P : Program) (w : World) (K : PySem.W.Frag) (mg : Str → Option Value) (base : Heap) (C CR CTM : Addr) : Prop where
  ex : ∃ (f : Addr) (fd : FuncData), Mk K CR f ∧ FnOk P w K mg base (L2.CX P w) 5 f fd ["self", "words"] (spOr (spInitR K C CR) (spInitRX K C CR CTM)) ∧ Binds K fd ["self", "words"] []
  g : mg "Rims" = some (.ref CR)
theorem pe_rimsX {X : Cx} {C CR CTM : Addr} {p pos : Pos} {e : Expr} {es : List Expr} {t : TA} {j : Nat} {K : PySem.W.Frag} {E : XK} (hK : X.K = K) (M : MkRX X.prog X.w K X.mg X.base C CR CTM) (hr : Room j X.A) (hkj : 6 ≤ j) (hx : Passes (L2.CX X.prog X.w) X E) (hg : Gl X "Rims") (ha : PA X (e :: es) t)
    (he : starEach (e :: es) X.env = (false, eval e X.env) :: starEach es X.env := by rfl) (hpl : (backTo pos (starEach es X.env)).any (·.1) = false := by rfl) :
    PE X (.Call (.Name "Rims" p) (e :: es) [] pos) (tMake CR (spOr (spInitR K C CR) (spInitRX K C CR CTM)) [] E t) := by
  subst hK
  obtain ⟨f, fd, M1, F, hb⟩ := M.ex
  exact pe_make M1 F (hr.mono hkj) hg M.g hb .nil hx ha (by decide) he hpl
theorem CallR.or {X : Cx} {f : Value} {r1 r2 : List V → Hp → VK → Prop} (h1 : CallR X f r1) (h2 : CallR X f r2) : CallR X f (fun xs H Q => r1 xs H Q ∨ r2 xs H Q) := fun pins s σ H xs us Q I rel h => h.elim (h1 pins s σ H xs us Q I rel) (h2 pins s σ H xs us Q I rel)
theorem rng_add (a b : Nat) : List.range (a + b) = List.range a ++ (List.range b).map fun j => a + j := by
  refine List.ext_getElem (by simp) fun i h1 h2 => ?_
  rw [List.getElem_range]
  by_cases c : i < a
  · rw [List.getElem_append_left (by simpa using c), List.getElem_range]
  · rw [List.getElem_append_right (by simp only [List.length_range]; omega), List.getElem_map, List.getElem_range, List.length_range]
    omega
/-- the letters of one home are the word that stands there -/
theorem blk : ∀ (ws : List (List Int)) (f i : Nat), i < ws.length → ((List.range ws.flatten.length).filter fun j => decide ((hmF f ws).getD j 0 = ((f + i : Nat) : Int))).map (fun j => ws.flatten.getD j 0) = ws.getD i []
  | w :: r, f, i, hi => by
    have fl : (w :: r).flatten = w ++ r.flatten := List.flatten_cons
    have hl : (w :: r).flatten.length = w.length + r.flatten.length := by rw [fl, List.length_append]
    have h0 : hmF f (w :: r) = List.replicate w.length (f : Int) ++ hmF (f + 1) r := rfl
    have lft : ∀ j, j < w.length → (hmF f (w :: r)).getD j 0 = (f : Int) ∧ (w :: r).flatten.getD j 0 = w.getD j 0 := fun j hj => by
      rw [h0, fl]
      refine ⟨?_, ?_⟩
      · rw [List.getD_eq_getElem?_getD, List.getElem?_append_left (by rw [List.length_replicate]; exact hj), List.getElem?_replicate, if_pos hj]
        rfl
      · rw [List.getD_eq_getElem?_getD, List.getD_eq_getElem?_getD, List.getElem?_append_left hj]
    have rgt : ∀ j, (hmF f (w :: r)).getD (w.length + j) 0 = (hmF (f + 1) r).getD j 0 ∧ (w :: r).flatten.getD (w.length + j) 0 = r.flatten.getD j 0 := fun j => by
      rw [h0, fl]
      refine ⟨?_, ?_⟩
      · rw [List.getD_eq_getElem?_getD, List.getD_eq_getElem?_getD, List.getElem?_append_right (by rw [List.length_replicate]; omega), List.length_replicate, show w.length + j - w.length = j by omega]
      · rw [List.getD_eq_getElem?_getD, List.getD_eq_getElem?_getD, List.getElem?_append_right (by omega), show w.length + j - w.length = j by omega]
    rw [hl, rng_add, List.filter_append, List.map_append, List.filter_map, List.map_map]
    have e2 : ((List.range r.flatten.length).filter ((fun j => decide ((hmF f (w :: r)).getD j 0 = ((f + i : Nat) : Int))) ∘ fun j => w.length + j)) = (List.range r.flatten.length).filter fun j => decide ((hmF (f + 1) r).getD j 0 = ((f + i : Nat) : Int)) := by
      refine List.filter_congr fun j _ => ?_
      show decide ((hmF f (w :: r)).getD (w.length + j) 0 = _) = _
      rw [(rgt j).1]
    have e3 : ((List.range r.flatten.length).filter fun j => decide ((hmF (f + 1) r).getD j 0 = ((f + i : Nat) : Int))).map ((fun j => (w :: r).flatten.getD j 0) ∘ fun j => w.length + j) = ((List.range r.flatten.length).filter fun j => decide ((hmF (f + 1) r).getD j 0 = ((f + i : Nat) : Int))).map fun j => r.flatten.getD j 0 := by
      refine List.map_congr_left fun j _ => ?_
      exact (rgt j).2
    rw [e2, e3]
    cases i with
    | zero =>
      have f1 : (List.range w.length).filter (fun j => decide ((hmF f (w :: r)).getD j 0 = ((f + 0 : Nat) : Int))) = List.range w.length := by
        refine List.filter_eq_self.mpr fun j hj => ?_
        rw [(lft j (List.mem_range.mp hj)).1]
        exact decide_eq_true (by omega)
      have f2 : (List.range r.flatten.length).filter (fun j => decide ((hmF (f + 1) r).getD j 0 = ((f + 0 : Nat) : Int))) = [] := by
        refine List.filter_eq_nil_iff.mpr fun j hj => ?_
        have hj2 : j < (hmF (f + 1) r).length := by rw [hmF_len]; exact List.mem_range.mp hj
        rw [getD_lt hj2, decide_eq_true_iff]
        have := (hmF_rng r (f + 1) _ (List.getElem_mem hj2)).1
        omega
      rw [f1, f2]
      show _ ++ [] = w
      rw [List.append_nil]
      refine List.ext_getElem (by simp) fun j h1 h2 => ?_
      rw [List.getElem_map, List.getElem_range, (lft j h2).2, getD_lt h2]
    | succ i =>
      have f1 : (List.range w.length).filter (fun j => decide ((hmF f (w :: r)).getD j 0 = ((f + (i + 1) : Nat) : Int))) = [] := by
        refine List.filter_eq_nil_iff.mpr fun j hj => ?_
        rw [(lft j (List.mem_range.mp hj)).1, decide_eq_true_iff]
        omega
      rw [f1]
      have ih := blk r (f + 1) i (by have : i + 1 < r.length + 1 := hi; omega)
      rw [show f + 1 + i = f + (i + 1) by omega] at ih
      rw [ih]
      rfl
theorem asc_eq : ∀ {a b : List Int}, a.Pairwise (· < ·) → b.Pairwise (· < ·) → (∀ z, z ∈ a ↔ z ∈ b) → a = b
  | [], [], _, _, _ => rfl
  | [], y :: b, _, _, h => absurd ((h y).mpr List.mem_cons_self) (by simp)
  | x :: a, [], _, _, h => absurd ((h x).mp List.mem_cons_self) (by simp)
  | x :: a, y :: b, ha, hb, h => by
    have h1 := List.pairwise_cons.mp ha
    have h2 := List.pairwise_cons.mp hb
    have e : x = y := by
      rcases List.mem_cons.mp ((h x).mp List.mem_cons_self) with e | m
      · exact e
      · rcases List.mem_cons.mp ((h y).mpr List.mem_cons_self) with e | m2
        · exact e.symm
        · have := h2.1 x m
          have := h1.1 y m2
          omega
    subst e
    rw [asc_eq h1.2 h2.2 fun z => ?_]
    constructor
    · intro hz
      rcases List.mem_cons.mp ((h z).mp (List.mem_cons_of_mem _ hz)) with e | m
      · have := h1.1 z hz
        omega
      · exact m
    · intro hz
      rcases List.mem_cons.mp ((h z).mpr (List.mem_cons_of_mem _ hz)) with e | m
      · have := h2.1 z hz
        omega
      · exact m
/-- each word that has letters is the home of one -/
theorem hm_all {ws : List (List Int)} (hne : ∀ w ∈ ws, w ≠ []) (z : Int) : z ∈ hmF 0 ws ↔ ∃ i : Nat, i < ws.length ∧ z = (i : Int) := by
  constructor
  · intro hz
    have := hmF_rng ws 0 z hz
    exact ⟨z.toNat, by omega, by omega⟩
  · rintro ⟨i, hi, rfl⟩
    have b := blk ws 0 i hi
    have hw : ws.getD i [] ≠ [] := by
      rw [List.getD_eq_getElem?_getD, List.getElem?_eq_getElem hi]
      exact hne _ (List.getElem_mem hi)
    rw [← b] at hw
    obtain ⟨j, hj⟩ := List.exists_mem_of_ne_nil _ (mt List.map_eq_nil_iff.mpr hw)
    obtain ⟨h1, h2⟩ := List.mem_filter.mp hj
    have hj2 : j < (hmF 0 ws).length := by rw [hmF_len]; exact List.mem_range.mp h1
    rw [getD_lt hj2, decide_eq_true_iff, Nat.zero_add] at h2
    rw [← h2]
    exact List.getElem_mem hj2
theorem app_mk_lc {K : PySem.W.Frag} {C : Addr} {sq : Sp} {i : Nat} {wi : TI} {g : TG} {tt : TT} {te : TE} {vs : List Nat} {D : Ends} {σ : L2.St} {H : Hp}
    (h : ∃ wv, σ[i]? = some (some wv) ∧ tyV K "list" wv H ∧ wi σ H fun J H1 => tLc (fun _ H R => R J H) g tt te vs σ H1 fun y H2 => ∀ x dx, H2 x = none → H2 dx = none → dx ≠ x →
      sq ([.ref x, y] ++ []) (L2.upd (L2.upd H2 dx (.own x)) x (.ins C dx [])) (fun v H3 => v = .non ∧ rAppend wv [.ref x] H3 fun _ H4 => D.nx σ H4) E0) : tDrop (tBM K "list" rAppend (tVar i) (tCons (tMake C sq [] E0 (tCons (tLc wi g tt te vs) tNil)) tNil)) D σ H := h
def spRF (K : PySem.W.Frag) (C CR CTM : Addr) : Sp := fun vs H Q E => ∃ (lq hq : Addr) (ws : List (List Int)), vs = [.ref lq, .ref hq] ∧ SqE K H lq (iv ws.flatten) ∧ SqE K H hq (iv (hmF 0 ws)) ∧ 1 ≤ ws.length ∧ ws.length ≤ 4 ∧ (∀ w ∈ ws, w ≠ []) ∧ ws.flatten.length ≤ 60 ∧ Lts ws.flatten ∧
  ((RimOk ws ∧ ∀ q H' xs, Same H H' → RimsAt K C CR H' q xs ws → Q (.ref q) H') ∨ (24 < ws.flatten.length ∧ BadM CTM E H (.str "letters") 24))
abbrev sRF : Stmt := top 52
abbrev nRF : List Str := ["letters", "homes", "words", "home", "at", "letter"]
theorem scRF : FnScope nRF ["letters", "homes"] (defScope sRF) := ⟨rfl, rfl, rfl, by decide +kernel, rfl, by decide +kernel, by decide +kernel⟩
section
variable {P : Program} {w : World} {K : PySem.W.Frag} {mg : Str → Option Value} {base : Heap} {C CR CS CTM : Addr}
theorem ok_RF {f : Addr} {fd : FuncData} (F : Fun K "rims_from" "rims_from" sRF f fd) (N : TN mg) (T : TxW K mg C) (TC : TxRC K mg CR) (MW : MkW P w K mg base C) (MR : MkRX P w K mg base C CR CTM)  : FnOk P w K mg base (L2.CX P w) 8 f fd ["letters", "homes"] (spRF K C CR CTM) := by
  refine F.okX scRF (fun vs H Q E h => ?_) (fun cdv A outer s H vs Q E hr h => ?_)
  · obtain ⟨lq, hq, ws, rfl, _⟩ := h
    rfl
  · obtain ⟨lq, hq, ws, rfl, hl, hh, l1, l4, hne, l60, lts, h⟩ := h
    refine ⟨_, pss_cons (ps_set (i := 2) scRF.nd rfl (Or.inl rfl) (pe_lst pa_nil))
      (pss_cons (ps_for (passes_of rfl) rfl (pi_list (pe_callB (cr_sortedSet rfl) (by rfl) N.sorted (by decide +kernel) (pa_cons (pe_callTy (CallR.or (call_setLI rfl) (WST.call_setLI rfl)) (by rfl) N.set (by decide +kernel) (pa_cons (pv 1) pa_nil)) pa_nil))) (pg_name (i := 3) scRF.nd rfl (Or.inr rfl))
      (pss_one (ps_expr (pe_bm PySem.F.plainAttrs_list PySem.F.slot_list_append PySem.F.type_list_append mt_append (pv 2) (pa_cons (pe_word MW T hr (by decide) (by rfl) (pa_cons (pe_lc (own := [("at", 4), ("letter", 5)]) (g := gTup K 2 (gCons (gName 4) (gCons (gName 5) gNil))) rfl scRF.nd (WE.pi_enumA (K := K) rfl (by rfl) N.enumerate (pa_cons (pv 0) pa_nil)) (blkOk_by (N := nRF) (sc := defScope sRF) (by decide +kernel)) (fun _ _ _ _ _ => (pg_tup (n := 2) rfl (pgs_cons (pg_name (i := 4) scRF.nd rfl (Or.inl rfl)) (pgs_cons (pg_name (i := 5) scRF.nd rfl (Or.inl rfl)) pgs_nil)))) (fun _ _ _ _ _ => (pts_one (pt_cmpR op_eq (pe_ix ((ixl (K := K) rfl).or (ixt (K := K) rfl)) (pv 1) (pv 4) (fun _ _ => rfl)) (pv 3) (nomark _)))) (fun _ _ _ _ _ => (pv 5))) pa_nil)) pa_nil)))))
      (pss_one (ps_ret (pe_rimsX rfl MR hr (by decide) (passes_call (takes_of rfl rfl rfl rfl) (fun _ _ _ _ h => h)) (by rfl) (pa_cons (pv 2) pa_nil))))), ?_⟩
    refine ⟨Nat.zero_le _, fun w0 hw0 => ?_⟩
    have s1 := same_upd (o := .lst []) hw0
    have gw1 : L2.upd H w0 (.lst []) w0 = some (.lst []) := upd_same
    obtain ⟨H1, e1⟩ : ∃ H1, H1 = L2.upd H w0 (.lst []) := ⟨_, rfl⟩
    rw [← e1] at s1 gw1 ⊢
    have hl1 := hl.same s1
    have hh1 := hh.same s1
    have lh : (hmF 0 ws).length ≤ 1000 := by rw [hmF_len]; omega
    try dsimp only
    refine at_set ?_
    try dsimp only
    refine ⟨_, rfl, ?_⟩
    refine (fun cont => Or.elim hh1 (fun h => Or.inl ⟨hq, hmF 0 ws, rfl, h, lh, cont⟩) (fun h => Or.inr ⟨hq, hmF 0 ws, rfl, h, lh, cont⟩)) ?_
    intro S L hS ndL memL
    have lL : L.length ≤ 4 := by
      have := L2.nat_nodup_len (L.map Int.toNat) (List.range ws.length) (List.pairwise_map.mpr (ndL.imp_of_mem fun {a b} ha hb ne e => ne (by
        obtain ⟨i, _, rfl⟩ := (hm_all hne a).mp ((memL a).mp ha)
        obtain ⟨j, _, rfl⟩ := (hm_all hne b).mp ((memL b).mp hb)
        omega))) fun y hy => by
        obtain ⟨z, hz, rfl⟩ := List.mem_map.mp hy
        obtain ⟨i, hi, rfl⟩ := (hm_all hne z).mp ((memL z).mp hz)
        exact List.mem_range.mpr (by omega)
      rw [List.length_map, List.length_range] at this
      omega
    have s2 := same_upd (o := SetO w S (fun j => decide (j ∈ hmF 0 ws)) L.length) hS
    refine ⟨S, _, L.length, rfl, upd_same, by omega, fun ks p3 hlt hmem hlen hp3 => ?_⟩
    have eks : ks = (List.range ws.length).map fun (i : Nat) => (i : Int) := by
      refine asc_eq hlt (List.pairwise_map.mpr (List.pairwise_lt_range.imp fun {a b} h => by omega)) fun z => ?_
      rw [hmem, decide_eq_true_iff, hm_all hne, List.mem_map]
      constructor
      · rintro ⟨i, hi, rfl⟩
        exact ⟨i, List.mem_range.mpr hi, rfl⟩
      · rintro ⟨i, hi, rfl⟩
        exact ⟨i, List.mem_range.mp hi, rfl⟩
    subst eks
    have s3 := s2.trans (same_upd (o := .lst (iv ((List.range ws.length).map fun (i : Nat) => (i : Int)))) hp3)
    have gk : L2.upd (L2.upd H1 S (SetO w S (fun j => decide (j ∈ hmF 0 ws)) L.length)) p3 (.lst (iv ((List.range ws.length).map fun (i : Nat) => (i : Int)))) p3 = some (.lst (iv ((List.range ws.length).map fun (i : Nat) => (i : Int)))) := upd_same
    have gw3 := s3 _ _ gw1
    have np3 : p3 ≠ w0 := fun e => by
      have h3 := (s2 _ _ gw1)
      rw [← e] at h3
      cases (h3.symm.trans hp3)
    refine ⟨p3, rfl, ⟨_, SqL.of gk⟩, for_list (K := K) (a := p3) (xs := iv ((List.range ws.length).map fun (i : Nat) => (i : Int))) (fun i σ H' => ∃ (v3 v4 v5 : Option V) (xs : List Addr), σ = [some (.ref lq), some (.ref hq), some (.ref w0), v3, v4, v5] ∧ Same H H' ∧ H' p3 = some (.lst (iv ((List.range ws.length).map fun (i : Nat) => (i : Int)))) ∧ H' w0 = some (.lst (xs.map V.ref)) ∧ Wds K C H' xs (ws.take i)) ⟨none, none, none, [], rfl, s1.trans s3, gk, gw3, .nil⟩ (fun i σ H' _ ⟨_, _, _, _, _, _, g, _⟩ => SqL.of g) ?_ ?_⟩
    · rintro i x σ H4 hi ⟨v3, v4, v5, xs, rfl, s4, g4, gw4, W4⟩
      have hik : i < ws.length := by
        have := (List.getElem?_eq_some_iff.mp hi).1
        simpa using this
      obtain rfl : x = V.int (i : Int) := by
        rw [List.getElem?_map, List.getElem?_map, List.getElem?_range hik] at hi
        exact (Option.some.inj hi).symm
      have hl4 := hl.same s4
      have hh4 := hh.same s4
      have lxs : xs.length = i := by
        have := W4.length
        rw [List.length_take] at this
        omega
      refine at_set ?_
      try dsimp only
      refine app_mk_lc ?_
      refine ⟨_, rfl, .inl ⟨rfl, _, SqL.of gw4⟩, _, rfl, lq, _, rfl, hl4, fun J G wk hG => ?_⟩
      refine lcE wk (fun j => decide ((hmF 0 ws).getD j 0 = (i : Int))) (fun j => V.int (ws.flatten.getD j 0)) (by rw [List.length_map]; omega) hG ?_ ?_
      · intro j x hx H5 s5 T0 hT Qy Qn ky kn
        have hj : j < ws.flatten.length := by
          have := (List.getElem?_eq_some_iff.mp hx).1
          rwa [List.length_map] at this
        have hjh : j < (hmF 0 ws).length := by rw [hmF_len]; exact hj
        obtain rfl : x = V.int (ws.flatten.getD j 0) := by
          rw [List.getElem?_map, List.getElem?_eq_getElem hj] at hx
          rw [getD_lt hj]
          exact (Option.some.inj hx).symm
        have sT := same_upd (o := .tup [.int (j : Nat), .int (ws.flatten.getD j 0)]) hT
        have hh5 := (hh4.same s5).same sT
        have gh : (iv (hmF 0 ws))[j]? = some (V.int ((hmF 0 ws).getD j 0)) := iv_get (by rw [List.getElem?_eq_getElem hjh, getD_lt hjh])
        refine ⟨T0, _, rfl, SqT.of upd_same, rfl, _, _, rfl, _, _, rfl, rfl, rfl, _, rfl, _, rfl, hh5.elim (fun h => .inl ⟨hq, _, _, _, rfl, rfl, h, atI_nat gh, _, rfl, rfl, _, rfl, ?_⟩) (fun h => .inr ⟨hq, _, _, _, rfl, rfl, h, atI_nat gh, _, rfl, rfl, _, rfl, ?_⟩)⟩
        all_goals (
          refine ite2 (fun hb => ?_) (fun hb => ?_)
          · exact ⟨_, rfl, ky (decide_eq_true (by have := of_decide_eq_true hb; injection this)) _ sT⟩
          · exact kn (decide_eq_false fun e => hb (decide_eq_true (by rw [e]))) _ sT)
      · intro D H5 hD s5 h5
        have ew : (((List.range (iv ws.flatten).length).filter fun j => decide ((hmF 0 ws).getD j 0 = (i : Int))).map fun j => V.int (ws.flatten.getD j 0)) = iv (ws.getD i []) := by
          rw [List.length_map]
          have b := blk ws 0 i hik
          rw [Nat.zero_add] at b
          rw [← b]
          unfold iv
          rw [List.map_map]
          rfl
        rw [ew] at h5
        have ewi : ws.getD i [] = ws[i] := by rw [List.getD_eq_getElem?_getD, List.getElem?_eq_getElem hik]; rfl
        rw [ewi] at h5
        have hmem := List.getElem_mem hik
        have lw : ws[i].length ≤ ws.flatten.length := word_le hmem
        intro xw dxw nx ndx _
        refine make_at nx ndx (.inl (SqL.of h5)) (by omega) (lts.word hmem) fun H6 s6 W6 => ?_
        have s46 := s5.trans s6
        refine ⟨w0, _, _, rfl, rfl, s46 _ _ gw4, Evl.sz_lt (by rw [List.length_map]; omega), ?_⟩
        refine ⟨_, _, _, xs ++ [xw], rfl, fun b o e => ?_, ?_, ?_, ?_⟩
        · rw [upd_ne (fun z => by rw [z, hw0] at e; cases e)]
          exact (s4.trans s46) _ _ e
        · rw [upd_ne np3]
          exact s46 _ _ g4
        · rw [upd_same, List.map_append]
          rfl
        · rw [List.take_succ_eq_append_getElem hik]
          have gw6 := s46 _ _ gw4
          exact ((W4.imp fun _ _ h => (h.same s46).keptL gw6 Kept.upd)).app (.cons (W6.keptL gw6 Kept.upd) .nil)
    · rintro σ H4 ⟨v3, v4, v5, xs, rfl, s4, g4, gw4, W4⟩
      rw [List.length_map, List.length_map, List.length_range, List.take_length] at W4
      refine ⟨_, rfl, ?_⟩
      intro q dq nq ndq _
      rcases h with ⟨ok, k⟩ | ⟨l24, k⟩
      · exact .inl (rims_at nq ndq (SqL.of gw4) W4 ok fun H6 s6 R6 => k q H6 xs (s4.trans s6) R6)
      · have s0 : Same H4 (L2.upd (L2.upd H4 dq (.own q)) q (.ins CR dq [])) := fun b o e => by
          rw [upd_ne (ne_of_none e nq), upd_ne (ne_of_none e ndq)]
          exact e
        exact .inr ⟨H4, q, dq, w0, xs, ws, rfl, s0, nq, upd_same, SqL.of gw4, W4, l1, l4, hne, l24, l60, fun H6 s6 => k H6 (s4.trans (s0.trans s6))⟩
end
end W33
set_option Elab.async false
set_option linter.all false
set_option maxRecDepth 100000
set_option maxHeartbeats 1000000
namespace W33
open PySem L2 PySem.Spec PyProof.Rows WR WB WE WS
/-! ### a letter and its contrary put in: letters, homes, mates -/
section
variable {A B : List (List Int)} {u v : List Int} {k : Int}
theorem bal_in (xs ys : List Int) (k : Int) : Fr.bal (xs ++ [k, -k] ++ ys) = Fr.bal (xs ++ ys) := by
  have c : ∀ z : Int, Fr.cnt (xs ++ [k, -k] ++ ys) z = Fr.cnt (xs ++ ys) z := fun z => by
    unfold Fr.cnt
    simp only [List.count_append, List.count_cons, List.count_nil]
    have e1 : (k == z) = (-k == -z) := by
      by_cases h : k = z
      · subst h; simp
      · rw [beq_eq_false_iff_ne.mpr h, beq_eq_false_iff_ne.mpr (by omega)]
    have e2 : (-k == z) = (k == -z) := by
      by_cases h : -k = z
      · subst h; simp
      · rw [beq_eq_false_iff_ne.mpr h, beq_eq_false_iff_ne.mpr (by omega)]
    rw [e1, e2]
    omega
  unfold Fr.bal
  simp only [c]
end
end W33
set_option Elab.async false
set_option linter.all false
set_option maxRecDepth 100000
set_option maxHeartbeats 1000000
set_option Elab.async false
set_option linter.all false
set_option maxRecDepth 100000
set_option maxHeartbeats 1000000
namespace W33
open PySem L2 PySem.Spec PyProof.Rows WR WB WE WS
/-! ### two places taken out -/
/-- ws is ws2 without the places p and q, p's next; e: where the places that are kept stood -/
structure Cut2 (ws2 ws : List (List Int)) (e : Nat → Nat) (p q : Nat) : Prop where
  ins : ∃ t, Cy.Ins ws.flatten.length (nxN ws) (nxN ws2) e p q t
  len : ws2.flatten.length = ws.flatten.length + 2
  asc : ∀ i j, i < j → j < ws.flatten.length → e i < e j
  lets : ∀ i, i < ws.flatten.length → ws2.flatten.getD (e i) 0 = ws.flatten.getD i 0
  homs : ∀ i, i < ws.flatten.length → home ws2 (e i) = home ws i
  cnt : ws.length = ws2.length
  ne : ∀ w ∈ ws, w ≠ []
theorem gd_l {X Y : List Int} {i : Nat} (h : i < X.length) : (X ++ Y).getD i 0 = X.getD i 0 := by
  rw [List.getD_eq_getElem?_getD, List.getD_eq_getElem?_getD, List.getElem?_append_left h]
theorem gd_r {X Y : List Int} {i : Nat} (j : Nat) (h : i = X.length + j) : (X ++ Y).getD i 0 = Y.getD j 0 := by
  rw [List.getD_eq_getElem?_getD, List.getD_eq_getElem?_getD, List.getElem?_append_right (by omega), show i - X.length = j by omega]
theorem cut_in {A B : List (List Int)} {u v : List Int} {x y : Int} (hA : ∀ w ∈ A, w ≠ []) (hB : ∀ w ∈ B, w ≠ []) (huv : u ++ v ≠ []) :
    Cut2 (A ++ [u ++ [x, y] ++ v] ++ B) (A ++ [u ++ v] ++ B) (eIn (A ++ [u ++ v] ++ B).flatten.length (A.flatten.length + u.length)) (A.flatten.length + u.length) (A.flatten.length + u.length + 1) := by
  have hpn : A.flatten.length + u.length ≤ (A ++ [u ++ v] ++ B).flatten.length := by rw [len_in]; omega
  refine ⟨⟨_, ins_mid A B u v x y hA hB huv⟩, by rw [len_in2, len_in], fun i j hij hj => ?_, fun i hi => ?_, fun i hi => home_in hi, by simp only [List.length_append, List.length_cons, List.length_nil], fun w hw => ?_⟩
  · unfold eIn
    repeat' (first | omega | split)
  · have e1 : (A ++ [u ++ v] ++ B).flatten = (A.flatten ++ u) ++ (v ++ B.flatten) := by simp [List.append_assoc]
    have e2 : (A ++ [u ++ [x, y] ++ v] ++ B).flatten = (A.flatten ++ u) ++ ([x, y] ++ (v ++ B.flatten)) := by simp [List.append_assoc]
    have lp : (A.flatten ++ u).length = A.flatten.length + u.length := List.length_append
    by_cases c : i < A.flatten.length + u.length
    · rw [show eIn _ _ i = i from if_pos c, e1, e2, gd_l (X := A.flatten ++ u) (by rw [lp]; exact c), gd_l (X := A.flatten ++ u) (by rw [lp]; exact c)]
    · have e0 : eIn (A ++ [u ++ v] ++ B).flatten.length (A.flatten.length + u.length) i = i + 2 := by
        unfold eIn
        rw [if_neg c, if_pos hi]
      rw [e0, e1, e2, gd_r (X := A.flatten ++ u) (i := i + 2) (2 + (i - (A.flatten.length + u.length))) (by rw [lp]; omega), gd_r (X := [x, y]) (i - (A.flatten.length + u.length)) (by simp only [List.length_cons, List.length_nil]), gd_r (X := A.flatten ++ u) (i := i) (i - (A.flatten.length + u.length)) (by rw [lp]; omega)]
  · rcases List.mem_append.mp hw with hw | hw
    · rcases List.mem_append.mp hw with hw | hw
      · exact hA w hw
      · rw [List.mem_singleton.mp hw]
        exact huv
    · exact hB w hw
theorem cut_wr {A B : List (List Int)} {u : List Int} {x y : Int} (hA : ∀ w ∈ A, w ≠ []) (hB : ∀ w ∈ B, w ≠ []) (hu : u ≠ []) :
    Cut2 (A ++ [[y] ++ u ++ [x]] ++ B) (A ++ [u] ++ B) (eWr (A ++ [u] ++ B).flatten.length A.flatten.length u.length) (A.flatten.length + u.length + 1) A.flatten.length := by
  have len : (A ++ [u] ++ B).flatten.length = A.flatten.length + u.length + B.flatten.length := by
    simp only [List.flatten_append, List.length_append, List.flatten_cons, List.flatten_nil, List.append_nil]
  have lw2 : ([y] ++ u ++ [x]).length = u.length + 2 := by
    rw [List.length_append, List.length_append]
    simp only [List.length_cons, List.length_nil]
    omega
  have len2 : (A ++ [[y] ++ u ++ [x]] ++ B).flatten.length = A.flatten.length + u.length + B.flatten.length + 2 := by
    simp only [List.flatten_append, List.length_append, List.flatten_cons, List.flatten_nil, List.append_nil, List.length_cons, List.length_nil]
    omega
  have e1 : (A ++ [u] ++ B).flatten = A.flatten ++ (u ++ B.flatten) := by simp [List.append_assoc]
  have e2 : (A ++ [[y] ++ u ++ [x]] ++ B).flatten = A.flatten ++ ([y] ++ (u ++ ([x] ++ B.flatten))) := by simp [List.append_assoc]
  refine ⟨⟨_, ins_wrap A B u x y hA hB hu⟩, by rw [len2, len], fun i j hij hj => ?_, fun i hi => ?_, fun i hi => ?_, by simp only [List.length_append, List.length_cons, List.length_nil], fun w hw => ?_⟩
  · unfold eWr
    repeat' (first | omega | split)
  · rw [len] at hi
    by_cases c : i < A.flatten.length
    · rw [show eWr _ _ _ i = i from if_pos c, e1, e2, gd_l (X := A.flatten) c, gd_l (X := A.flatten) c]
    · by_cases c2 : i < A.flatten.length + u.length
      · have e0 : eWr (A ++ [u] ++ B).flatten.length A.flatten.length u.length i = i + 1 := by
          unfold eWr
          rw [if_neg c, if_pos c2]
        rw [e0, e1, e2, gd_r (X := A.flatten) (i := i + 1) (1 + (i - A.flatten.length)) (by omega), gd_r (X := [y]) (i - A.flatten.length) (by simp only [List.length_cons, List.length_nil]), gd_r (X := A.flatten) (i := i) (i - A.flatten.length) (by omega), gd_l (X := u) (by omega), gd_l (X := u) (by omega)]
      · have e0 : eWr (A ++ [u] ++ B).flatten.length A.flatten.length u.length i = i + 2 := by
          unfold eWr
          rw [if_neg c, if_neg c2, if_pos (by rw [len]; exact hi)]
        rw [e0, e1, e2, gd_r (X := A.flatten) (i := i + 2) (1 + (u.length + (1 + (i - A.flatten.length - u.length)))) (by omega), gd_r (X := [y]) (u.length + (1 + (i - A.flatten.length - u.length))) (by simp only [List.length_cons, List.length_nil]), gd_r (X := u) (1 + (i - A.flatten.length - u.length)) rfl, gd_r (X := [x]) (i - A.flatten.length - u.length) (by simp only [List.length_cons, List.length_nil]), gd_r (X := A.flatten) (i := i) (u.length + (i - A.flatten.length - u.length)) (by omega), gd_r (X := u) (i - A.flatten.length - u.length) rfl]
  · rw [len] at hi
    have h1 := hm_mid A B u (j := i) hi
    have h2 := fun {j} (hj : j < A.flatten.length + (u.length + 2) + B.flatten.length) => hm_mid A B ([y] ++ u ++ [x]) (j := j) (by rw [lw2]; exact hj)
    rw [h1]
    by_cases c : i < A.flatten.length
    · rw [show eWr _ _ _ i = i from if_pos c, h2 (by omega), if_pos c, if_pos c]
    · by_cases c2 : i < A.flatten.length + u.length
      · have e0 : eWr (A ++ [u] ++ B).flatten.length A.flatten.length u.length i = i + 1 := by
          unfold eWr
          rw [if_neg c, if_pos c2]
        rw [e0, h2 (by omega), lw2, if_neg c, if_neg (show ¬ i + 1 < A.flatten.length by omega), if_pos c2, if_pos (show i + 1 < A.flatten.length + (u.length + 2) by omega)]
      · have e0 : eWr (A ++ [u] ++ B).flatten.length A.flatten.length u.length i = i + 2 := by
          unfold eWr
          rw [if_neg c, if_neg c2, if_pos (by rw [len]; exact hi)]
        rw [e0, h2 (by omega), lw2, if_neg c, if_neg (show ¬ i + 2 < A.flatten.length by omega), if_neg c2, if_neg (show ¬ i + 2 < A.flatten.length + (u.length + 2) by omega), show i + 2 - A.flatten.length - (u.length + 2) = i - A.flatten.length - u.length by omega]
  · rcases List.mem_append.mp hw with hw | hw
    · rcases List.mem_append.mp hw with hw | hw
      · exact hA w hw
      · rw [List.mem_singleton.mp hw]
        exact hu
    · exact hB w hw
end W33
set_option Elab.async false
set_option linter.all false
set_option maxRecDepth 100000
set_option maxHeartbeats 1000000
namespace W33
open PySem L2 PySem.Spec PyProof.Rows WR WB WE WS
/-! ### mates of what is left -/
theorem asc_eqN : ∀ {a b : List Nat}, a.Pairwise (· < ·) → b.Pairwise (· < ·) → (∀ z, z ∈ a ↔ z ∈ b) → a = b
  | [], [], _, _, _ => rfl
  | [], y :: b, _, _, h => absurd ((h y).mpr List.mem_cons_self) (by simp)
  | x :: a, [], _, _, h => absurd ((h x).mp List.mem_cons_self) (by simp)
  | x :: a, y :: b, ha, hb, h => by
    have h1 := List.pairwise_cons.mp ha
    have h2 := List.pairwise_cons.mp hb
    have e : x = y := by
      rcases List.mem_cons.mp ((h x).mp List.mem_cons_self) with e | m
      · exact e
      · rcases List.mem_cons.mp ((h y).mpr List.mem_cons_self) with e | m2
        · exact e.symm
        · have := h2.1 x m
          have := h1.1 y m2
          omega
    subst e
    rw [asc_eqN h1.2 h2.2 fun z => ?_]
    constructor
    · intro hz
      rcases List.mem_cons.mp ((h z).mp (List.mem_cons_of_mem _ hz)) with e | m
      · have := h1.1 z hz
        omega
      · exact m
    · intro hz
      rcases List.mem_cons.mp ((h z).mpr (List.mem_cons_of_mem _ hz)) with e | m
      · have := h2.1 z hz
        omega
      · exact m
section
variable {ws2 ws : List (List Int)} {e : Nat → Nat} {p q : Nat}
theorem Cut2.bij (C : Cut2 ws2 ws e p q) : Cy.Bij (ws.flatten.length + 2) e ∧ e ws.flatten.length = p ∧ e (ws.flatten.length + 1) = q ∧ nxN ws2 p = q := by
  obtain ⟨t, I⟩ := C.ins
  exact ⟨I.he, I.en, I.en1, I.pq⟩
theorem Cut2.pq (C : Cut2 ws2 ws e p q) : p ≠ q ∧ p < ws2.flatten.length ∧ q < ws2.flatten.length := by
  obtain ⟨b, h1, h2, _⟩ := C.bij
  rw [C.len]
  refine ⟨fun z => ?_, by rw [← h1]; exact b.lt _ (by omega), by rw [← h2]; exact b.lt _ (by omega)⟩
  have := b.inj ws.flatten.length (ws.flatten.length + 1) (by omega) (by omega) (by rw [h1, h2, z])
  omega
theorem Cut2.e_in (C : Cut2 ws2 ws e p q) {i : Nat} (hi : i < ws.flatten.length) : e i < ws2.flatten.length ∧ e i ≠ p ∧ e i ≠ q := by
  obtain ⟨b, h1, h2, _⟩ := C.bij
  rw [C.len]
  refine ⟨b.lt _ (by omega), fun z => ?_, fun z => ?_⟩
  · have := b.inj i ws.flatten.length (by omega) (by omega) (z.trans h1.symm)
    omega
  · have := b.inj i (ws.flatten.length + 1) (by omega) (by omega) (z.trans h2.symm)
    omega
theorem Cut2.of_in (C : Cut2 ws2 ws e p q) {k : Nat} (hk : k < ws2.flatten.length) (np : k ≠ p) (nq : k ≠ q) : ∃ i, i < ws.flatten.length ∧ e i = k := by
  obtain ⟨b, h1, h2, _⟩ := C.bij
  rw [C.len] at hk
  obtain ⟨i, hi, hie⟩ := b.hit hk
  have n1 : i ≠ ws.flatten.length := fun z => np (by rw [← hie, z, h1])
  have n2 : i ≠ ws.flatten.length + 1 := fun z => nq (by rw [← hie, z, h2])
  exact ⟨i, by omega, hie⟩
theorem Cut2.kept (C : Cut2 ws2 ws e p q) : (List.range ws2.flatten.length).filter (fun i => !(decide (i = p) || decide (i = q))) = (List.range ws.flatten.length).map e := by
  refine asc_eqN ((List.pairwise_lt_range).filter _) (List.pairwise_map.mpr (List.pairwise_lt_range.imp_of_mem fun {a b} _ hb h => C.asc a b h (List.mem_range.mp hb))) fun z => ?_
  rw [List.mem_filter, List.mem_range, List.mem_map]
  constructor
  · rintro ⟨h1, h2⟩
    simp only [Bool.not_eq_true', Bool.or_eq_false_iff, decide_eq_false_iff_not] at h2
    obtain ⟨i, hi, he⟩ := C.of_in h1 h2.1 h2.2
    exact ⟨i, List.mem_range.mpr hi, he⟩
  · rintro ⟨i, hi, rfl⟩
    obtain ⟨a1, a2, a3⟩ := C.e_in (List.mem_range.mp hi)
    refine ⟨a1, ?_⟩
    simp only [Bool.not_eq_true', Bool.or_eq_false_iff, decide_eq_false_iff_not]
    exact ⟨a2, a3⟩
/-- where each goes, p and q taken out -/
def m3 (mt : List Int) (p q k : Nat) : Nat := if k = mtn mt q then mtn mt p else if k = mtn mt p then mtn mt q else mtn mt k
def setM (mt : List Int) (p q : Nat) : List Int := (mt.set (mtn mt p) ((mtn mt q : Nat) : Int)).set (mtn mt q) ((mtn mt p : Nat) : Int)
def takM (mt : List Int) (p q : Nat) (ks : List Nat) : List Int := nats (keptF (setM mt p q) ks)
variable {mt : List Int}
theorem setM_at (P : PairOk ws2.flatten.length mt) (hp : p < ws2.flatten.length) (hq : q < ws2.flatten.length) {k : Nat} (hk : k < ws2.flatten.length) : (setM mt p q)[k]? = some ((m3 mt p q k : Nat) : Int) ∧ mtn (setM mt p q) k = m3 mt p q k := by
  have lm : mt.length = ws2.flatten.length := P.1.1
  have a1 := (mtn_at P.1 hp).1
  have b1 := (mtn_at P.1 hq).1
  have key : (setM mt p q)[k]? = some ((m3 mt p q k : Nat) : Int) := by
    unfold setM m3
    rw [List.getElem?_set, List.getElem?_set, List.length_set]
    by_cases c1 : mtn mt q = k
    · rw [if_pos c1, if_pos (by omega), if_pos c1.symm]
    · rw [if_neg c1, if_neg (show ¬ k = mtn mt q from fun z => c1 z.symm)]
      by_cases c2 : mtn mt p = k
      · rw [if_pos c2, if_pos (by omega), if_pos c2.symm]
      · rw [if_neg c2, if_neg (show ¬ k = mtn mt p from fun z => c2 z.symm)]
        exact (mtn_at P.1 hk).2.1
  refine ⟨key, ?_⟩
  show ((setM mt p q).getD k 0).toNat = _
  rw [List.getD_eq_getElem?_getD, key]
  rfl
/-- places that are kept have mates that are kept -/
theorem m3_ok (P : PairOk ws2.flatten.length mt) (hp : p < ws2.flatten.length) (hq : q < ws2.flatten.length) (npq : p ≠ q) {k : Nat} (hk : k < ws2.flatten.length) (kp : k ≠ p) (kq : k ≠ q) : m3 mt p q k < ws2.flatten.length ∧ m3 mt p q k ≠ p ∧ m3 mt p q k ≠ q ∧ m3 mt p q k ≠ k ∧ m3 mt p q (m3 mt p q k) = k := by
  have a1 := (mtn_at P.1 hp).1
  have b1 := (mtn_at P.1 hq).1
  have k1 := (mtn_at P.1 hk).1
  obtain ⟨ip, np⟩ := pair_inv P hp
  obtain ⟨iq, nq⟩ := pair_inv P hq
  obtain ⟨ik, nk⟩ := pair_inv P hk
  have nab : mtn mt p ≠ mtn mt q := fun z => npq (by rw [← ip, z, iq])
  by_cases c1 : k = mtn mt q
  · -- the mate of q
    have e1 : m3 mt p q k = mtn mt p := if_pos c1
    have aq : mtn mt p ≠ q := fun z => kp (by rw [c1, ← z, ip])
    rw [e1]
    refine ⟨a1, np, aq, by rw [c1]; exact nab, ?_⟩
    unfold m3
    rw [if_neg nab, if_pos rfl, c1]
  · by_cases c2 : k = mtn mt p
    · have e1 : m3 mt p q k = mtn mt q := by
        unfold m3
        rw [if_neg c1, if_pos c2]
      have bp : mtn mt q ≠ p := fun z => kq (by rw [c2, ← z, iq])
      rw [e1]
      refine ⟨b1, bp, nq, by rw [c2]; exact nab.symm, ?_⟩
      unfold m3
      rw [if_pos rfl, c2]
    · have e1 : m3 mt p q k = mtn mt k := by
        unfold m3
        rw [if_neg c1, if_neg c2]
      have mp : mtn mt k ≠ p := fun z => c2 (by rw [← z, ik])
      have mq : mtn mt k ≠ q := fun z => c1 (by rw [← z, ik])
      rw [e1]
      refine ⟨k1, mp, mq, nk, ?_⟩
      unfold m3
      rw [if_neg (fun z => kq (by rw [← ik, z, iq])), if_neg (fun z => kp (by rw [← ik, z, ip])), ik]
theorem idx_map {n : Nat} {f : Nat → Nat} (h : ∀ i j, i < j → j < n → f i < f j) {j : Nat} (hj : j < n) : ((List.range n).map f).idxOf (f j) = j := by
  have nd : ((List.range n).map f).Nodup := List.pairwise_map.mpr (List.pairwise_lt_range.imp_of_mem fun {a b} _ hb lt => Nat.ne_of_lt (h a b lt (List.mem_range.mp hb)))
  have hl : j < ((List.range n).map f).length := by simpa using hj
  have e : ((List.range n).map f)[j] = f j := by rw [List.getElem_map, List.getElem_range]
  have := nd.idxOf_getElem j hl
  rw [e] at this
  exact this
/-- what the mates of what is left are -/
theorem takM_at (C : Cut2 ws2 ws e p q) (P : PairOk ws2.flatten.length mt) : (takM mt p q ((List.range ws.flatten.length).map e)).length = ws.flatten.length ∧ ∀ i, i < ws.flatten.length → mtn (takM mt p q ((List.range ws.flatten.length).map e)) i < ws.flatten.length ∧ (takM mt p q ((List.range ws.flatten.length).map e))[i]? = some ((mtn (takM mt p q ((List.range ws.flatten.length).map e)) i : Nat) : Int) ∧ e (mtn (takM mt p q ((List.range ws.flatten.length).map e)) i) = m3 mt p q (e i) := by
  obtain ⟨npq, hp, hq⟩ := C.pq
  have ll : (takM mt p q ((List.range ws.flatten.length).map e)).length = ws.flatten.length := by
    unfold takM nats keptF
    simp only [List.length_map, List.length_range]
  refine ⟨ll, fun i hi => ?_⟩
  obtain ⟨a1, a2, a3⟩ := C.e_in hi
  obtain ⟨b1, b2, b3, _⟩ := m3_ok P hp hq npq a1 a2 a3
  obtain ⟨j, hj, ej⟩ := C.of_in b1 b2 b3
  have g : (takM mt p q ((List.range ws.flatten.length).map e))[i]? = some ((j : Nat) : Int) := by
    unfold takM nats keptF
    rw [List.getElem?_map, List.getElem?_map, List.getElem?_map, List.getElem?_range hi]
    show some (((((List.range ws.flatten.length).map e).idxOf (mtn (setM mt p q) (e i)) : Nat)) : Int) = _
    rw [(setM_at P hp hq a1).2, ← ej, idx_map C.asc hj]
  have gm : mtn (takM mt p q ((List.range ws.flatten.length).map e)) i = j := by
    unfold mtn
    rw [List.getD_eq_getElem?_getD, g]
    rfl
  rw [gm]
  exact ⟨hj, g, ej⟩
theorem take_mat (C : Cut2 ws2 ws e p q) (h : MatOk ws2.flatten mt) (hl : ws2.flatten.getD p 0 = -ws2.flatten.getD q 0) : MatOk ws.flatten (takM mt p q ((List.range ws.flatten.length).map e)) := by
  obtain ⟨npq, hp, hq⟩ := C.pq
  have P := h.1
  obtain ⟨ll, at_⟩ := takM_at C P
  have bj := C.bij.1
  have lm : ∀ k, k < ws2.flatten.length → ws2.flatten.getD (mtn mt k) 0 = -ws2.flatten.getD k 0 := fun k hk => by
    have := h.2 k (by rw [P.1.1]; exact hk)
    show ws2.flatten.getD (mt.getD k 0).toNat 0 = _
    rw [show mt.getD k 0 = mt[k]'(by rw [P.1.1]; exact hk) from getD_lt _]
    exact this
  have l3 : ∀ k, k < ws2.flatten.length → k ≠ p → k ≠ q → ws2.flatten.getD (m3 mt p q k) 0 = -ws2.flatten.getD k 0 := fun k hk _ _ => by
    unfold m3
    by_cases c1 : k = mtn mt q
    · rw [if_pos c1, lm p hp, c1, lm q hq, hl]
    · rw [if_neg c1]
      by_cases c2 : k = mtn mt p
      · rw [if_pos c2, lm q hq, c2, lm p hp, hl]
        omega
      · rw [if_neg c2]
        exact lm k hk
  have nn : ∀ i (hi : i < (takM mt p q ((List.range ws.flatten.length).map e)).length), (takM mt p q ((List.range ws.flatten.length).map e))[i] = ((mtn (takM mt p q ((List.range ws.flatten.length).map e)) i : Nat) : Int) := fun i hi => by
    have := (at_ i (by rw [← ll]; exact hi)).2.1
    rw [List.getElem?_eq_getElem hi] at this
    exact Option.some.inj this
  refine ⟨mates_ok_of ll (mtn (takM mt p q ((List.range ws.flatten.length).map e))) fun i hi => ?_, fun i hi => ?_⟩
  · have hi2 : i < ws.flatten.length := by rw [← ll]; exact hi
    obtain ⟨a1, _, a3⟩ := at_ i hi2
    obtain ⟨b1, b2, b3⟩ := C.e_in hi2
    obtain ⟨c1, c2, c3, c4, c5⟩ := m3_ok P hp hq npq b1 b2 b3
    refine ⟨nn i hi, a1, fun z => c4 (by rw [← a3, z]), ?_⟩
    obtain ⟨d1, _, d3⟩ := at_ _ a1
    rw [a3, c5] at d3
    exact bj.inj _ _ (by omega) (by omega) d3
  · have hi2 : i < ws.flatten.length := by rw [← ll]; exact hi
    obtain ⟨a1, _, a3⟩ := at_ i hi2
    obtain ⟨b1, b2, b3⟩ := C.e_in hi2
    rw [nn i hi, Int.toNat_natCast, ← C.lets _ a1, a3, l3 _ b1 b2 b3, C.lets _ hi2]
/-- the cost stays if they were mates; else it stays or falls by two -/
theorem take_cost (C : Cut2 ws2 ws e p q) (hne2 : ∀ w ∈ ws2, w ≠ []) (h : MatOk ws2.flatten mt) (hl : ws2.flatten.getD p 0 = -ws2.flatten.getD q 0) :
    (mtn mt p = q → costF ws (takM mt p q ((List.range ws.flatten.length).map e)) = costF ws2 mt) ∧
    (mtn mt p ≠ q → costF ws (takM mt p q ((List.range ws.flatten.length).map e)) = costF ws2 mt ∨ costF ws (takM mt p q ((List.range ws.flatten.length).map e)) = costF ws2 mt - 2) := by
  obtain ⟨npq, hp, hq⟩ := C.pq
  have P := h.1
  obtain ⟨ll, at_⟩ := takM_at C P
  obtain ⟨t, I⟩ := C.ins
  have T := take_mat C h hl
  obtain ⟨ip, np⟩ := pair_inv P hp
  obtain ⟨iq, nq⟩ := pair_inv P hq
  refine ⟨fun c => ?_, fun c => ?_⟩
  · refine (ins_cost C.ne hne2 C.len I T.1 P c (by rw [← c, ip]) fun i hi => ?_).symm
    rw [(at_ i hi).2.2]
    obtain ⟨b1, b2, b3⟩ := C.e_in hi
    unfold m3
    rw [if_neg (fun z => b2 (by rw [z, ← c, ip])), if_neg (fun z => b3 (by rw [z, c]))]
  · have b1 := (mtn_at P.1 hq).1
    have npb : p ≠ mtn mt q := fun z => c (by rw [z, iq])
    have nab : mtn mt p ≠ mtn mt q := fun z => npq (by rw [← ip, z, iq])
    have f := free_cost hne2 h hp hq npq I.pq c
    have i1 := ins_cost C.ne hne2 C.len I T.1 (swpF_pair P hp b1) (by
      rw [swpF_mtn (by rw [P.1.1]; exact hp), Cy.swp_l, iq, Cy.swp_o npq.symm nq.symm]) (by
      rw [swpF_mtn (by rw [P.1.1]; exact hq), Cy.swp_o npq.symm nq.symm, Cy.swp_r]) fun i hi => by
      obtain ⟨d1, d2, d3⟩ := C.e_in hi
      rw [(at_ i hi).2.2, swpF_mtn (by rw [P.1.1]; exact d1)]
      unfold m3
      by_cases c1 : e i = mtn mt q
      · rw [if_pos c1, c1, Cy.swp_r, Cy.swp_o np nab]
      · rw [if_neg c1, Cy.swp_o d2 c1]
        by_cases c2 : e i = mtn mt p
        · rw [if_pos c2, c2, ip, Cy.swp_l]
        · rw [if_neg c2, Cy.swp_o]
          · intro z
            exact c2 (by rw [← z, (pair_inv P d1).1])
          · intro z
            exact d3 (by rw [← (pair_inv P d1).1, z, iq])
    rw [← i1]
    exact f
end
end W33
set_option Elab.async false
set_option linter.all false
set_option maxRecDepth 100000
set_option maxHeartbeats 1000000
namespace W33
open PySem L2 PySem.Spec PyProof.Rows WR WB WE WS
/-! ### a place and its next taken out -/
theorem pe_tupBK {X : Cx} {K : PySem.W.Frag} (hK : X.K = K) {es : List Expr} {t : TA} {pos : Pos} {x1} (h : PA X es t) : PE X (.Tuple es x1 pos) (fun σ H Q => t σ H fun xs H1 => xs.length ≤ sizeLine ∧ NewB K H1 Q xs) := hK ▸ pe_tupB h
theorem bal_perm {xs ys : List Int} (h : xs.Perm ys) : Fr.bal xs = Fr.bal ys := by
  have c : ∀ z : Int, Fr.cnt xs z = Fr.cnt ys z := fun z => by
    unfold Fr.cnt
    rw [h.count_eq, h.count_eq]
  unfold Fr.bal
  simp only [c]
theorem Cut2.perm {ws2 ws : List (List Int)} {e : Nat → Nat} {p q : Nat} (C : Cut2 ws2 ws e p q) : ws2.flatten.Perm (ws.flatten ++ [ws2.flatten.getD p 0, ws2.flatten.getD q 0]) := by
  obtain ⟨npq, hp, hq⟩ := C.pq
  have e1 : ws2.flatten = (List.range ws2.flatten.length).map fun i => ws2.flatten.getD i 0 := self_map _
  have e2 : ws.flatten ++ [ws2.flatten.getD p 0, ws2.flatten.getD q 0] = ((List.range ws.flatten.length).map e ++ [p, q]).map fun i => ws2.flatten.getD i 0 := by
    rw [List.map_append, List.map_map]
    congr 1
    conv => lhs; rw [self_map ws.flatten]
    refine List.map_congr_left fun i hi => ?_
    exact (C.lets i (List.mem_range.mp hi)).symm
  rw [e2]
  conv => lhs; rw [e1]
  refine List.Perm.map _ ((List.perm_ext_iff_of_nodup List.nodup_range ?_).mpr fun z => ?_)
  · refine List.nodup_append.mpr ⟨?_, by simp [npq], fun a ha b hb z => ?_⟩
    · exact List.pairwise_map.mpr (List.pairwise_lt_range.imp_of_mem fun {a b} _ hb lt => Nat.ne_of_lt (C.asc a b lt (List.mem_range.mp hb)))
    · obtain ⟨i, hi, rfl⟩ := List.mem_map.mp ha
      obtain ⟨_, n1, n2⟩ := C.e_in (List.mem_range.mp hi)
      simp only [List.mem_cons, List.mem_nil_iff, or_false] at hb
      rcases hb with h | h
      · exact n1 (z.trans h)
      · exact n2 (z.trans h)
  · rw [List.mem_range, List.mem_append, List.mem_map]
    constructor
    · intro hz
      by_cases z1 : z = p
      · exact .inr (by simp [z1])
      · by_cases z2 : z = q
        · exact .inr (by simp [z2])
        · obtain ⟨i, hi, he⟩ := C.of_in hz z1 z2
          exact .inl ⟨i, List.mem_range.mpr hi, he⟩
    · rintro (⟨i, hi, rfl⟩ | h)
      · exact (C.e_in (List.mem_range.mp hi)).1
      · simp only [List.mem_cons, List.mem_nil_iff, or_false] at h
        rcases h with rfl | rfl
        · exact hp
        · exact hq
theorem Cut2.rim {ws2 ws : List (List Int)} {e : Nat → Nat} {p q : Nat} (C : Cut2 ws2 ws e p q) (ok : RimOk ws2) (hl : ws2.flatten.getD p 0 = -ws2.flatten.getD q 0) : RimOk ws := by
  obtain ⟨o1, o2, o3, o4, o5, o6⟩ := ok
  have P := C.perm
  refine ⟨by rw [C.cnt]; exact o1, by rw [C.cnt]; exact o2, C.ne, by have := C.len; omega, fun x hx => o5 x (P.mem_iff.mpr (List.mem_append_left _ hx)), ?_⟩
  have b := bal_perm P
  have e2 : ws.flatten ++ [ws2.flatten.getD p 0, ws2.flatten.getD q 0] = ws.flatten ++ [ws2.flatten.getD p 0, -ws2.flatten.getD p 0] ++ [] := by
    rw [List.append_nil, show ws2.flatten.getD q 0 = -ws2.flatten.getD p 0 by omega]
  rw [e2, bal_in, List.append_nil, o6] at b
  exact b.symm
theorem lcRM {n : Nat} {g : TG} {tt : TT} {te : TE} {vs : List Nat} {σ : L2.St} {H1 : Hp} {Q : VK} (f : Nat → Bool) (R : Hp → V → Nat → Prop) (hst : ∀ H H' v b, R H v b → Same H H' → R H' v b) (hput : ∀ D H ws o v b, H D = some (.lst ws) → R H v b → R (L2.upd H D o) v b) (hz : n < 40000)
    (hs : ∀ i, i < n → ∀ H, Same H1 H → ∀ (Qy : V → Hp → Prop) (Qn : Hp → Prop), (f i = true → ∀ v H', Same H H' → R H' v i → Qy v H') → (f i = false → ∀ H', Same H H' → Qn H') →
      g (.int ((i : Nat) : Int)) (wipe σ vs) H fun σ2 H2 => wipe σ2 vs = wipe σ vs ∧ tt σ2 H2 fun b H3 => if b = true then te σ2 H3 Qy else Qn H3)
    (hd : ∀ (D : Addr) H' ws, H1 D = none → Same H1 H' → H' D = some (.lst ws) → All2 (R H') ws ((List.range n).filter f) → Q (.ref D) H') : tLc (fun _ H R => R (Itr 0 n) H) g tt te vs σ H1 Q := by
  intro D hD
  refine lc_it (walk_range (lo := 0) (n := n)) (fun i H => Same H1 H ∧ ∃ ws, H D = some (.lst ws) ∧ All2 (R H) ws ((List.range i).filter f)) ⟨fun b o e => by rw [upd_ne (ne_of_none e hD)]; exact e, [], upd_same, .nil⟩ (fun i H _ q => trivial) ?_ ?_
  · rintro i x H H' hi ⟨sm, ws, hw, h2⟩ ⟨rfl, ex⟩
    obtain rfl : x = V.int ((i : Nat) : Int) := by
      rw [ex]
      show V.int (0 + ((i : Nat) : Int)) = _
      rw [Int.zero_add]
    refine hs i hi H' sm _ _ (fun hf v H2 s2 r => ⟨_, s2 _ _ hw, ?_, ?_, ?_⟩) (fun hf H2 s2 => ⟨fun b o e => s2 b o (sm b o e), ws, s2 _ _ hw, ?_⟩)
    · refine Evl.sz_lt ?_
      rw [h2.length]
      have := List.length_filter_le f (List.range i)
      rw [List.length_range] at this
      omega
    · intro b o e
      rw [upd_ne (ne_of_none e hD)]
      exact s2 b o (sm b o e)
    · refine ⟨_, upd_same, ?_⟩
      rw [List.range_succ, List.filter_append, List.filter_cons, if_pos hf]
      exact All2.app (h2.imp fun _ _ r => hput _ _ _ _ _ _ (s2 _ _ hw) (hst _ _ _ _ r s2)) (.cons (hput _ _ _ _ _ _ (s2 _ _ hw) r) .nil)
    · rw [List.range_succ, List.filter_append, List.filter_cons, if_neg (by rw [hf]; decide)]
      show All2 (R H2) ws ((List.range i).filter f ++ [])
      rw [List.append_nil]
      exact h2.imp fun _ _ r => hst _ _ _ _ r s2
  · rintro H ⟨sm, ws, hw, h2⟩
    exact hd D H ws hD sm hw h2
theorem all_int : ∀ {vs : List V} {is : List Nat}, All2 (fun v i => v = V.int ((i : Nat) : Int)) vs is → vs = iv (nats is) := by
  intro vs is h
  induction h with
  | nil => rfl
  | cons h1 _ ih => rw [h1, ih]; rfl
theorem hm_map (ws : List (List Int)) : hmF 0 ws = (List.range ws.flatten.length).map fun i => ((home ws i : Nat) : Int) := by
  refine List.ext_getElem (by simp [hmF_len]) fun i h1 h2 => ?_
  have hi : i < ws.flatten.length := by rw [hmF_len] at h1; exact h1
  have := (home_at hi).1
  rw [List.getElem?_eq_getElem h1] at this
  rw [List.getElem_map, List.getElem_range]
  exact Option.some.inj this
theorem nx_at {ws : List (List Int)} (hne : ∀ w ∈ ws, w ≠ []) {k : Nat} (hk : k < ws.flatten.length) : (nxF 0 ws)[k]? = some ((nxN ws k : Nat) : Int) := by
  have hl : k < (nxF 0 ws).length := by rw [nxF_len]; exact hk
  have h0 := (nxF_rng ws 0 hne _ (List.getElem_mem hl)).1
  rw [List.getElem?_eq_getElem hl]
  unfold nxN
  rw [getD_lt hl]
  congr 1
  omega
theorem let_at {ls : List Int} {k : Nat} (hk : k < ls.length) : (iv ls)[k]? = some (V.int (ls.getD k 0)) := iv_get (by rw [List.getElem?_eq_getElem hk, getD_lt hk])
def spWO (K : PySem.W.Frag) (C CR CS CBS CNP CMF : Addr) : Sp := fun vs H Q E => ∃ x pl : V, vs = [x, pl] ∧ ((NotC K CS H x ∧ Bad "part" CBS E H (.str "sewing")) ∨
  ∃ (p rp : Addr) (xs : List Addr) (ws : List (List Int)) (mt : List Int) (t1 : String), x = .ref p ∧ SewAt K C CR CS H p rp xs ws mt ∧ RimOk ws ∧ MatOk ws.flatten mt ∧ Typ H pl t1 ∧
    ((plB pl ws.flatten.length = false ∧ Bad "value" CNP E H pl) ∨ ∃ k : Nat, pl = .int (k : Int) ∧ k < ws.flatten.length ∧
      ((ws.flatten.getD k 0 ≠ -ws.flatten.getD (nxN ws k) 0 ∧ Bad "part" CMF E H (.str "letters")) ∨ (ws.flatten.getD k 0 = -ws.flatten.getD (nxN ws k) 0 ∧ (ws.getD (home ws k) []).length = 2 ∧ Bad "part" CMF E H (.str "empty")) ∨
        ∃ (ws' : List (List Int)) (e : Nat → Nat), ws.flatten.getD k 0 = -ws.flatten.getD (nxN ws k) 0 ∧ (ws.getD (home ws k) []).length ≠ 2 ∧ Cut2 ws ws' e k (nxN ws k) ∧
          ∀ q H' rq xs2, Same H H' → SewAt K C CR CS H' q rq xs2 ws' (takM mt k (nxN ws k) ((List.range ws'.flatten.length).map e)) → Q (.ref q) H')))
abbrev sWO : Stmt := top 61
abbrev nWO : List Str := ["sewing", "place", "rims", "behind", "mates", "kept", "letters", "homes", "one"]
theorem scWO : FnScope nWO ["sewing", "place"] (defScope sWO) := ⟨rfl, rfl, rfl, by decide +kernel, rfl, by decide +kernel, by decide +kernel⟩
section
variable {P : Program} {w : World} {K : PySem.W.Frag} {mg : Str → Option Value} {base : Heap} {C CR CS CBS CNP CMF CTM : Addr}
theorem ok_WO {f : Addr} {fd : FuncData} (F : Fun K "without_pair" "without_pair" sWO f fd) (N : TN mg) (T : TxW K mg C) (TC : TxRC K mg CR) (TS : TxSC K mg CS) (MS : MkS P w K mg base C CR CS) (MF : ErrC P w K mg base CMF "Misfit" ["self", "part"] (spI1 "part" CMF)) (G_need_sewing : CalX P w K mg base "need_sewing" 4 ["value", "part"] (spNeedS K C CR CS CBS)) (G_need_place : CalX P w K mg base "need_place" 4 ["rims", "value"] (spNeedPX K C CR CNP)) (G_rims_from : CalX P w K mg base "rims_from" 8 ["letters", "homes"] (spRF K C CR CTM)) (G_mates_among : Cal P w K mg base "mates_among" 1 ["mates", "places"] (spMam)) : FnOk P w K mg base (L2.CX P w) 10 f fd ["sewing", "place"] (spWO K C CR CS CBS CNP CMF) := by
  refine F.okX scWO (fun vs H Q E h => ?_) (fun cdv A outer s H vs Q E hr h => ?_)
  · obtain ⟨x, pl, rfl, _⟩ := h
    rfl
  · obtain ⟨x, pl, rfl, h⟩ := h
    obtain ⟨fMF, fdMF, iMF, tMF, FMF, bMF⟩ := MF.ini
    refine ⟨_, pss_cons (ps_expr (pe_calX G_need_sewing hr (by decide) (passes_call (takes_of rfl rfl rfl rfl) (fun _ _ _ _ h => h)) (by rfl) (pa_cons (pv 0) (pa_cons pe_str pa_nil))))
      (pss_cons (ps_set (i := 2) scWO.nd rfl (Or.inr rfl) (pe_fld (pv 0) rfl))
      (pss_cons (ps_expr (pe_calX G_need_place hr (by decide) (passes_call (takes_of rfl rfl rfl rfl) (fun _ _ _ _ h => h)) (by rfl) (pa_cons (pv 2) (pa_cons (pv 1) pa_nil))))
      (pss_cons (ps_set (i := 3) scWO.nd rfl (Or.inr rfl) (pe_ix ix_tup (pe_fld (pv 2) rfl) (pv 1) (fun _ _ => rfl)))
      (pss_cons (ps_if (pt_cmpR op_ne (pe_ix ix_tup (pe_fld (pv 2) rfl) (pv 1) (fun _ _ => rfl)) (pe_un un_neg (pe_ix ix_tup (pe_fld (pv 2) rfl) (pv 3) (fun _ _ => rfl))) (nomark _)) (pss_one (ps_raise rfl (takes_of rfl rfl rfl rfl) (pmk_oex (dvs := []) MF.oex iMF tMF FMF (hr.mono (by decide)) bMF .nil pass0 (by rfl) MF.g (pa_cons pe_str pa_nil)))) pss_nil)
      (pss_cons (ps_if (pt_cmpR op_eq (pe_fld (pe_ix ix_tup (pe_fld (pv 2) rfl) (pe_ix ix_tup (pe_fld (pv 2) rfl) (pv 1) (fun _ _ => rfl)) (fun _ _ => rfl)) rfl) pe_int (nomark _)) (pss_one (ps_raise rfl (takes_of rfl rfl rfl rfl) (pmk_oex (dvs := []) MF.oex iMF tMF FMF (hr.mono (by decide)) bMF .nil pass0 (by rfl) MF.g (pa_cons pe_str pa_nil)))) pss_nil)
      (pss_cons (ps_set (i := 4) scWO.nd rfl (Or.inl rfl) (pe_callTy call_list_of (by rfl) N.list (by decide +kernel) (pa_cons (pe_fld (pv 0) rfl) pa_nil)))
      (pss_cons (ps_asg (pe_tup (pa_cons (pe_ix ix_tup (pe_fld (pv 0) rfl) (pv 3) (fun _ _ => rfl)) (pa_cons (pe_ix ix_tup (pe_fld (pv 0) rfl) (pv 1) (fun _ _ => rfl)) pa_nil))) (pg_tup (n := 2) rfl (pgs_cons (pg_sub (pv 4) (pe_ix ix_tup (pe_fld (pv 0) rfl) (pv 1) (fun _ _ => rfl)) set_list) (pgs_cons (pg_sub (pv 4) (pe_ix ix_tup (pe_fld (pv 0) rfl) (pv 3) (fun _ _ => rfl)) set_list) pgs_nil))))
      (pss_cons (ps_setLc (i := 5) (own := [("one", 8)]) (g := gName 8) rfl scWO.nd rfl rfl (sw_true rfl rfl rfl (by decide +kernel)) (pi_range1 (by rfl) N.range (pa_cons (pe_fld (pv 2) rfl) pa_nil)) (blkOk_by (N := nWO) (sc := defScope sWO) (by decide +kernel)) (fun _ _ _ _ _ => (pg_name (i := 8) scWO.nd rfl (Or.inl rfl))) (fun _ _ _ _ _ => (pts_one (pt_cmpR (op_notInK (K := K) rfl) (pv 8) (pe_tupBK (K := K) rfl (pa_cons (pv 1) (pa_cons (pv 3) pa_nil))) (by rfl)))) (fun _ _ _ _ _ => (pv 8)))
      (pss_cons (ps_setLc (i := 6) (own := [("one", 8)]) (g := gName 8) (tt := tYes) rfl scWO.nd rfl rfl (sw_true rfl rfl rfl (by decide +kernel)) (pi_list (pv 5)) (blkOk_by (N := nWO) (sc := defScope sWO) (by decide +kernel)) (fun _ _ _ _ _ => (pg_name (i := 8) scWO.nd rfl (Or.inl rfl))) (fun _ _ _ _ _ => pts_nil) (fun _ _ _ _ _ => (pe_ix (ixt (K := K) rfl) (pe_fldK (K := K) rfl (pv 2) rfl) (pv 8) (fun _ _ => rfl))))
      (pss_cons (ps_setLc (i := 7) (own := [("one", 8)]) (g := gName 8) (tt := tYes) rfl scWO.nd rfl rfl (sw_true rfl rfl rfl (by decide +kernel)) (pi_list (pv 5)) (blkOk_by (N := nWO) (sc := defScope sWO) (by decide +kernel)) (fun _ _ _ _ _ => (pg_name (i := 8) scWO.nd rfl (Or.inl rfl))) (fun _ _ _ _ _ => pts_nil) (fun _ _ _ _ _ => (pe_ix (ixt (K := K) rfl) (pe_fldK (K := K) rfl (pv 2) rfl) (pv 8) (fun _ _ => rfl))))
      (pss_one (ps_ret (pe_sewK rfl MS TS hr (by decide) (by rfl) (pa_cons (pe_calX G_rims_from hr (by decide) (passes_call (takes_of rfl rfl rfl rfl) (fun _ _ _ _ h => h)) (by rfl) (pa_cons (pv 6) (pa_cons (pv 7) pa_nil))) (pa_cons (pe_cal G_mates_among hr (by decide) (by rfl) (pa_cons (pv 4) (pa_cons (pv 5) pa_nil))) pa_nil))))))))))))))), ?_⟩
    rcases h with ⟨hN, kb⟩ | ⟨p, rp, xs, ws, mt, t1, rfl, hS, ok, mok, ht1, h⟩
    · exact ⟨_, rfl, x, _, rfl, .inl ⟨hN, kb⟩⟩
    obtain ⟨dx, tm, tc, tp, h1, R1, h3, h4, h5⟩ := id hS
    obtain ⟨d2, tw, tl, th, tn, r1, r2, r3, r4, r5, r6⟩ := id R1
    refine ⟨_, rfl, .ref p, _, rfl, .inr ⟨⟨p, rp, xs, ws, mt, rfl, hS⟩, ?_⟩⟩
    refine ⟨_, rfl, p, CS, dx, _, _, rfl, h1, TS.cl, TS.n1, sf_rims, ?_⟩
    try dsimp only
    refine at_set ?_
    try dsimp only
    refine ⟨_, rfl, _, rfl, rp, pl, t1, xs, ws, rfl, R1, ht1, ?_, fun hpl => ?_⟩
    · intro hb
      rcases h with ⟨_, kb⟩ | ⟨k, rfl, hk, _⟩
      · exact kb
      · rw [plB_nat hk] at hb
        cases hb
    obtain ⟨k, rfl, hk, h⟩ := h.resolve_left fun z => by rw [hpl] at z; cases z.1
    have hne := ok.2.2.1
    have l24 := ok.2.2.2.1
    have hq := nxN_lt hne hk
    obtain ⟨q, eq_⟩ : ∃ q, q = nxN ws k := ⟨_, rfl⟩
    have gnx := iv_get (nx_at hne hk)
    rw [← eq_] at hq gnx h
    try dsimp only
    refine ⟨_, rfl, rp, CR, d2, _, _, rfl, r1, TC.cl, TC.n7, rf_nexts, _, rfl, tn, _, _, _, rfl, rfl, r6.sq, atI_nat gnx, ?_⟩
    try dsimp only
    refine at_set ?_
    try dsimp only
    -- contrary letters
    refine ⟨_, rfl, rp, CR, d2, _, _, rfl, r1, TC.cl, TC.n2, rf_letters, _, rfl, tl, _, _, _, rfl, rfl, r4.sq, atI_nat (let_at hk), _, rfl, rp, CR, d2, _, _, rfl, r1, TC.cl, TC.n2, rf_letters, _, rfl, tl, _, _, _, rfl, rfl, r4.sq, atI_nat (let_at hq), _, rfl, rfl, _, rfl, ?_⟩
    by_cases hl : ws.flatten.getD k 0 = -ws.flatten.getD q 0
    · refine iteF' (by rw [hl]; simp) ?_
      have h := h.resolve_left fun z => z.1 hl
      -- a word of two letters
      obtain ⟨gh, hh⟩ := home_at hk
      have hhx : home ws k < xs.length := by rw [r3.length]; exact hh
      obtain ⟨ns, hns, Wq⟩ := r3.at (List.getElem?_eq_getElem hhx)
      obtain ⟨dxw, twl, twk, ks0, w1, w2, w3, w4⟩ := Wq
      have gw : (xs.map V.ref)[home ws k]? = some (V.ref xs[home ws k]) := by rw [List.getElem?_map, List.getElem?_eq_getElem hhx]; rfl
      have ens : ws.getD (home ws k) [] = ns := by rw [List.getD_eq_getElem?_getD, hns]; rfl
      rw [ens] at h
      refine ⟨_, rfl, rp, CR, d2, _, _, rfl, r1, TC.cl, TC.n1, rf_words, _, rfl, rp, CR, d2, _, _, rfl, r1, TC.cl, TC.n6, rf_homes, _, rfl, th, _, _, _, rfl, rfl, r5.sq, atI_nat (iv_get gh), tw, _, _, _, rfl, rfl, r2.sq, atI_nat gw, _, C, dxw, _, _, rfl, w1, T.cl, T.nN, wf_length, rfl, _, rfl, ?_⟩
      by_cases h2 : ns.length = 2
      · refine iteT' (decide_eq_true (by rw [h2]; rfl)) ?_
        rcases h with ⟨_, _, kb⟩ | ⟨_, _, _, n2, _⟩
        · exact ⟨by show 1 ≤ 1000; decide, mk1 (Q := fun cls d H' => E cls d H') fun d hd => kb H (Same.refl _) d hd⟩
        · exact absurd h2 n2
      · refine iteF' (decide_eq_false fun e => h2 (by injection e with e; omega)) ?_
        obtain ⟨ws', e, _, _, Cu, kq⟩ := h.resolve_left fun z => h2 z.2.1
        obtain ⟨npq, hp2, hq2⟩ := Cu.pq
        have PP := mok.1
        have lm : mt.length = ws.flatten.length := PP.1.1
        obtain ⟨ka, ga, _⟩ := mtn_at PP.1 hk
        obtain ⟨qb, gb, _⟩ := mtn_at PP.1 hq
        refine ⟨_, rfl, p, CS, dx, _, _, rfl, h1, TS.cl, TS.n2, sf_mates, tm, _, rfl, .inr h3.sq, fun D hD => ?_⟩
        have s1 := same_upd (o := .lst (iv mt)) hD
        have gD1 : L2.upd H D (.lst (iv mt)) D = some (.lst (iv mt)) := upd_same
        obtain ⟨H1, e1⟩ : ∃ H1, H1 = L2.upd H D (.lst (iv mt)) := ⟨_, rfl⟩
        rw [← e1] at s1 gD1 ⊢
        clear e1
        try dsimp only
        refine at_set ?_
        try dsimp only
        have h31 := SqB.same s1 h3
        have h11 := s1 _ _ h1
        -- the mates of both are mates
        refine ⟨_, rfl, p, CS, dx, _, _, rfl, h11, TS.cl, TS.n2, sf_mates, _, rfl, tm, _, _, _, rfl, rfl, h31.sq, atI_nat (iv_get gb), _, rfl, p, CS, dx, _, _, rfl, h11, TS.cl, TS.n2, sf_mates, _, rfl, tm, _, _, _, rfl, rfl, h31.sq, atI_nat (iv_get ga), by show 2 ≤ sizeLine; decide, fun t ht => ?_⟩
        have st := same_upd (o := .tup [.int ((mtn mt q : Nat) : Int), .int ((mtn mt k : Nat) : Int)]) ht
        have gt : L2.upd H1 t (.tup [.int ((mtn mt q : Nat) : Int), .int ((mtn mt k : Nat) : Int)]) t = some (.tup [.int ((mtn mt q : Nat) : Int), .int ((mtn mt k : Nat) : Int)]) := upd_same
        have s2 := s1.trans st
        have gD2 := st _ _ gD1
        have h32 := SqB.same s2 h3
        have h12 := s2 _ _ h1
        generalize L2.upd H1 t (.tup [.int ((mtn mt q : Nat) : Int), .int ((mtn mt k : Nat) : Int)]) = H2 at st gt s2 gD2 h32 h12 ⊢
        refine ⟨t, _, rfl, SqT.of gt, rfl, _, _, rfl, ?_⟩
        have h33 : SqB K (L2.upd H2 D (.lst ((iv mt).set (mtn mt k) (.int ((mtn mt q : Nat) : Int))))) tm (iv mt) := SqB.keptL gD2 Kept.upd h32
        have npD : p ≠ D := fun z => by
          rw [z, gD2] at h12
          cases h12
        have h13 : L2.upd H2 D (.lst ((iv mt).set (mtn mt k) (.int ((mtn mt q : Nat) : Int)))) p = some (.ins CS dx (sf rp tm tc (costF ws mt) tp (handF ws mt))) := by rw [upd_ne npD]; exact h12
        refine ⟨_, rfl, _, rfl, p, CS, dx, _, _, rfl, h12, TS.cl, TS.n2, sf_mates, _, rfl, tm, _, _, _, rfl, rfl, h32.sq, atI_nat (iv_get ga), D, _, _, mtn mt k, rfl, rfl, gD2, Evl.ixN_nat (by rw [List.length_map]; omega), ?_⟩
        refine ⟨_, _, rfl, _, rfl, _, rfl, p, CS, dx, _, _, rfl, h13, TS.cl, TS.n2, sf_mates, _, rfl, tm, _, _, _, rfl, rfl, h33.sq, atI_nat (iv_get gb), D, _, _, mtn mt q, rfl, rfl, upd_same, Evl.ixN_nat (by rw [List.length_set, List.length_map]; omega), rfl, ?_⟩
        have s4 : Same H (L2.upd (L2.upd H2 D (.lst ((iv mt).set (mtn mt k) (.int ((mtn mt q : Nat) : Int))))) D (.lst (((iv mt).set (mtn mt k) (.int ((mtn mt q : Nat) : Int))).set (mtn mt q) (.int ((mtn mt k : Nat) : Int))))) := fun b o e => by
          rw [upd_ne (ne_of_none e hD), upd_ne (ne_of_none e hD)]
          exact s2 _ _ e
        have gD4 : (L2.upd (L2.upd H2 D (.lst ((iv mt).set (mtn mt k) (.int ((mtn mt q : Nat) : Int))))) D (.lst (((iv mt).set (mtn mt k) (.int ((mtn mt q : Nat) : Int))).set (mtn mt q) (.int ((mtn mt k : Nat) : Int))))) D = some (.lst (iv (setM mt k q))) := by
          rw [upd_same]
          unfold setM iv
          rw [List.map_set, List.map_set]
        clear h33 h13 s1 st gt s2 gD1 gD2 h31 h32 h11 h12
        generalize (L2.upd (L2.upd H2 D (.lst ((iv mt).set (mtn mt k) (.int ((mtn mt q : Nat) : Int))))) D (.lst (((iv mt).set (mtn mt k) (.int ((mtn mt q : Nat) : Int))).set (mtn mt q) (.int ((mtn mt k : Nat) : Int))))) = H4 at s4 gD4 ⊢
        try dsimp only
        -- the places that are kept
        refine sq_lcS ?_
        refine ⟨_, rfl, rp, CR, d2, _, _, rfl, s4 _ _ r1, TC.cl, TC.n3, rf_many, _, rfl, by omega, by omega, ?_⟩
        rw [Int.toNat_natCast]
        have in2 : ∀ z : Nat, inV (.int (z : Int)) [.int (k : Int), .int (q : Int)] = (decide (z = k) || decide (z = q)) := fun z => by
          unfold inV
          simp only [List.any_cons, List.any_nil, Bool.or_false]
          have ek : ∀ x : Nat, eqV (.int (x : Int)) (.int (z : Int)) = decide (z = x) := fun x => by
            show decide ((x : Int) = (z : Int)) = decide (z = x)
            by_cases c : z = x
            · rw [decide_eq_true c, decide_eq_true (by omega)]
            · rw [decide_eq_false c, decide_eq_false (by omega)]
          rw [ek, ek]
        refine lcRM (fun i => !(decide (i = k) || decide (i = q))) (fun _ v i => v = V.int ((i : Nat) : Int)) (fun _ _ _ _ h _ => h) (fun _ _ _ _ _ _ _ h => h) (by omega) ?_ ?_
        · intro i hi H5 s5 Qy Qn ky kn
          refine ⟨rfl, _, rfl, _, rfl, _, rfl, by show 2 ≤ sizeLine; decide, fun t5 H6 s6 B6 => ⟨t5, _, rfl, .inr B6.sq, rfl, rfl, _, rfl, ?_⟩⟩
          show if (!inV (.int (i : Int)) [.int (k : Int), .int (q : Int)]) = true then _ else _
          rw [in2]
          cases hc : (decide (i = k) || decide (i = q)) with
          | true => exact iteF (kn (by rw [hc]; rfl) H6 s6)
          | false => exact iteT ⟨_, rfl, ky (by rw [hc]; rfl) _ H6 s6 rfl⟩
        intro E1 H5 vs hE s5 gE hv
        obtain rfl := all_int hv
        rw [Cu.kept] at gE
        have s45 := s4.trans s5
        try dsimp only
        refine at_set ?_
        try dsimp only
        have lks : (iv (nats ((List.range ws'.flatten.length).map e))).length = ws'.flatten.length := by
          unfold iv nats
          simp only [List.length_map, List.length_range]
        have wl := Cu.len
        have kin : ∀ x ∈ iv (nats ((List.range ws'.flatten.length).map e)), ∃ i, i < ws'.flatten.length ∧ x = V.int ((e i : Nat) : Int) ∧ e i < ws.flatten.length := fun x hx => by
          obtain ⟨z, hz, rfl⟩ := List.mem_map.mp hx
          obtain ⟨y, hy, rfl⟩ := List.mem_map.mp hz
          obtain ⟨i, hi, rfl⟩ := List.mem_map.mp hy
          exact ⟨i, List.mem_range.mp hi, rfl, (Cu.e_in (List.mem_range.mp hi)).1⟩
        -- their letters
        refine sq_lcS ?_
        refine ⟨_, rfl, E1, rfl, ⟨_, SqL.of gE⟩, ?_⟩
        refine lcp (walk_list (K := K) (a := E1) (xs := iv (nats ((List.range ws'.flatten.length).map e)))) (fun _ => true) (fun x => match x with | .int z => .int (ws.flatten.getD z.toNat 0) | y => y) (by rw [lks]; omega) (fun H2 s => SqL.of (s _ _ gE)) ?_ ?_
        · intro x hx H6 s6 Qy Qn ky kn
          obtain ⟨i, hi, rfl, hei⟩ := kin x hx
          have kk := ky rfl H6 (Same.refl _)
          exact ⟨rfl, yes_te ⟨_, rfl, rp, CR, d2, _, _, rfl, (s45.trans s6) _ _ r1, TC.cl, TC.n2, rf_letters, _, rfl, tl, _, _, _, rfl, rfl, (SqB.same (s45.trans s6) r4).sq, atI_nat (let_at hei), kk⟩⟩
        intro F1 H6 hF1 s6 h6
        have gF1 : H6 F1 = some (.lst (iv ws'.flatten)) := by
          rw [h6, List.filter_eq_self.mpr (fun _ _ => rfl)]
          conv => rhs; rw [self_map ws'.flatten]
          unfold iv nats
          rw [List.map_map, List.map_map, List.map_map, List.map_map]
          refine congrArg (fun x => some (HO.lst x)) (List.map_congr_left fun i hi => ?_)
          show V.int (ws.flatten.getD (e i) 0) = V.int (ws'.flatten.getD i 0)
          rw [Cu.lets i (List.mem_range.mp hi)]
        have s46 := s45.trans s6
        have gE6 := s6 _ _ gE
        try dsimp only
        refine at_set ?_
        try dsimp only
        -- their words
        refine sq_lcS ?_
        refine ⟨_, rfl, E1, rfl, ⟨_, SqL.of gE6⟩, ?_⟩
        refine lcp (walk_list (K := K) (a := E1) (xs := iv (nats ((List.range ws'.flatten.length).map e)))) (fun _ => true) (fun x => match x with | .int z => .int ((home ws z.toNat : Nat) : Int) | y => y) (by rw [lks]; omega) (fun H2 s => SqL.of (s _ _ gE6)) ?_ ?_
        · intro x hx H7 s7 Qy Qn ky kn
          obtain ⟨i, hi, rfl, hei⟩ := kin x hx
          have kk := ky rfl H7 (Same.refl _)
          exact ⟨rfl, yes_te ⟨_, rfl, rp, CR, d2, _, _, rfl, (s46.trans s7) _ _ r1, TC.cl, TC.n6, rf_homes, _, rfl, th, _, _, _, rfl, rfl, (SqB.same (s46.trans s7) r5).sq, atI_nat (iv_get (home_at hei).1), kk⟩⟩
        intro F2 H7 hF2 s7 h7
        have gF2 : H7 F2 = some (.lst (iv (hmF 0 ws'))) := by
          rw [h7, List.filter_eq_self.mpr (fun _ _ => rfl), hm_map ws']
          unfold iv nats
          rw [List.map_map, List.map_map, List.map_map, List.map_map]
          refine congrArg (fun x => some (HO.lst x)) (List.map_congr_left fun i hi => ?_)
          show V.int ((home ws (e i) : Nat) : Int) = V.int ((home ws' i : Nat) : Int)
          rw [Cu.homs i (List.mem_range.mp hi)]
        have s47 := s46.trans s7
        try dsimp only
        refine at_set ?_
        try dsimp only
        have ok' := Cu.rim ok hl
        obtain ⟨u1, u2, u3, u4, u5, u6⟩ := id ok'
        refine ⟨_, rfl, _, rfl, F1, F2, ws', rfl, .inl (SqL.of (s7 _ _ gF1)), .inl (SqL.of gF2), u1, u2, u3, by omega, u5, .inl ⟨ok', fun rq H8 xs2 s8 R8 => ?_⟩⟩
        have s58 := s5.trans ((s6.trans s7).trans s8)
        have s68 := (s6.trans s7).trans s8
        refine ⟨_, rfl, _, rfl, D, E1, setM mt k q, (List.range ws'.flatten.length).map e, rfl, s58 _ _ gD4, s68 _ _ gE, ?_, by rw [List.length_map, List.length_range]; omega, fun z hz => ?_, fun l H9 hl9 s9 g9 => ?_⟩
        · exact List.pairwise_map.mpr (List.pairwise_lt_range.imp_of_mem fun {a b} _ hb lt => Nat.ne_of_lt (Cu.asc a b lt (List.mem_range.mp hb)))
        · obtain ⟨i, hi, rfl⟩ := List.mem_map.mp hz
          obtain ⟨c1, c2, c3⟩ := Cu.e_in (List.mem_range.mp hi)
          obtain ⟨sa, sb⟩ := setM_at PP hk hq c1
          obtain ⟨m1, m2, m4, _⟩ := m3_ok PP hk hq npq c1 c2 c3
          rw [sb]
          refine ⟨sa, ?_⟩
          obtain ⟨j, hj, ej⟩ := Cu.of_in m1 m2 m4
          exact List.mem_map.mpr ⟨j, List.mem_range.mpr hj, ej⟩
        · intro q0 dq nq ndq _
          exact sew_at nq ndq (R8.same s9) ok' (.inl (SqL.of g9)) (take_mat Cu mok hl) fun Hz sz Sz => kq q0 Hz rq xs2 ((s47.trans s8).trans (s9.trans sz)) Sz
    · refine iteT' (by
        have : ¬ V.int (ws.flatten.getD k 0) = V.int (-ws.flatten.getD q 0) := fun e => hl (by injection e)
        show (!decide (V.int (ws.flatten.getD k 0) = V.int (-ws.flatten.getD q 0))) = true
        rw [decide_eq_false this]
        rfl) ?_
      rcases h with ⟨_, kb⟩ | ⟨e, _⟩ | ⟨_, _, e, _⟩
      · exact ⟨by show 1 ≤ 1000; decide, mk1 (Q := fun cls d H' => E cls d H') fun d hd => kb H (Same.refl _) d hd⟩
      · exact absurd e hl
      · exact absurd e hl
end
end W33
set_option Elab.async false
set_option linter.all false
set_option maxRecDepth 100000
set_option maxHeartbeats 1000000
namespace W33
open PySem L2 PySem.Spec PyProof.Rows WR WB WE WS
/-! ### a ring tightened -/
def pT (w : List Int) : Option Nat := (List.range w.length).find? fun i => decide (w.getD i 0 = -w.getD ((i + 1) % w.length) 0)
def ksT (n i q : Nat) : List Nat := (List.range n).filter fun z => !(decide (z = i) || decide (z = q))
def wT (w : List Int) (i q : Nat) : List Int := (ksT w.length i q).map fun z => w.getD z 0
def mT (mt : List Int) (n i q : Nat) : List Int := takM mt i q (ksT n i q)
theorem nx_ring {w : List Int} {i : Nat} (hi : i < w.length) : nxN [w] i = (i + 1) % w.length := by
  unfold nxN
  have e : nxF 0 [w] = (List.range w.length).map fun (t : Nat) => ((0 : Nat) : Int) + (((t + 1) % w.length : Nat) : Int) := by
    show _ ++ [] = _
    rw [List.append_nil]
  rw [e, List.getD_eq_getElem?_getD, List.getElem?_map, List.getElem?_range hi]
  show (((0 : Nat) : Int) + (((i + 1) % w.length : Nat) : Int)).toNat = _
  omega
theorem flat1 (w : List Int) : [w].flatten = w := by simp
theorem Cut2.one {w : List Int} {ws' : List (List Int)} {e : Nat → Nat} {p q : Nat} (C : Cut2 [w] ws' e p q) : ws' = [wT w p q] ∧ ksT w.length p q = (List.range (wT w p q).length).map e := by
  have l1 := C.cnt
  obtain ⟨w', rfl⟩ : ∃ w', ws' = [w'] := by
    cases ws' with
    | nil => simp at l1
    | cons w' r =>
      cases r with
      | nil => exact ⟨_, rfl⟩
      | cons a b => simp at l1
  have k := C.kept
  rw [flat1, flat1] at k
  have ew : wT w p q = w' := by
    unfold wT ksT
    rw [k, List.map_map]
    conv => rhs; rw [self_map w']
    refine List.map_congr_left fun j hj => ?_
    have := C.lets j (by rw [flat1]; exact List.mem_range.mp hj)
    rw [flat1, flat1] at this
    exact this
  rw [ew]
  exact ⟨rfl, k⟩
/-- a place of a ring and its next taken out: within it, or its end and its begin -/
theorem ring_cut {w : List Int} {i : Nat} (hi : i < w.length) (hl : 2 < w.length) : (∃ e, Cut2 [w] [wT w i ((i + 1) % w.length)] e i ((i + 1) % w.length)) ∧
    ((∃ (u v : List Int) (x y : Int), w = u ++ [x, y] ++ v ∧ i = u.length ∧ (i + 1) % w.length = i + 1 ∧ wT w i ((i + 1) % w.length) = u ++ v) ∨ (∃ (u : List Int) (x y : Int), w = [y] ++ u ++ [x] ∧ i = u.length + 1 ∧ (i + 1) % w.length = 0 ∧ wT w i ((i + 1) % w.length) = u)) := by
  have nil : ∀ z ∈ ([] : List (List Int)), z ≠ [] := fun z hz => nomatch hz
  by_cases c : i + 1 < w.length
  · have em : (i + 1) % w.length = i + 1 := Nat.mod_eq_of_lt c
    have ew2 : w = w.take i ++ [w[i], w[i + 1]] ++ w.drop (i + 2) := by
      conv => lhs; rw [← List.take_append_drop i w, List.drop_eq_getElem_cons hi, List.drop_eq_getElem_cons c]
      simp
    have lt : (w.take i).length = i := by rw [List.length_take]; omega
    have hn : w.take i ++ w.drop (i + 2) ≠ [] := fun z => by
      have := congrArg List.length z
      rw [List.length_append, lt, List.length_drop] at this
      simp at this
      omega
    have K := cut_in (A := []) (B := []) (u := w.take i) (v := w.drop (i + 2)) (x := w[i]) (y := w[i + 1]) nil nil hn
    rw [← ew2, lt, show ([] : List (List Int)).flatten.length + i = i from Nat.zero_add i] at K
    have K : Cut2 [w] [w.take i ++ w.drop (i + 2)] _ i (i + 1) := K
    obtain ⟨h1, h2⟩ := K.one
    rw [em]
    have h3 : w.take i ++ w.drop (i + 2) = wT w i (i + 1) := by injection h1
    rw [h3] at K
    exact ⟨⟨_, K⟩, .inl ⟨_, _, _, _, ew2, lt.symm, rfl, h3.symm⟩⟩
  · have et : i + 1 = w.length := by omega
    have em : (i + 1) % w.length = 0 := by rw [et, Nat.mod_self]
    have ew2 : w = [w[0]'(by omega)] ++ (w.drop 1).take (i - 1) ++ [w[i]] := by
      have h1 : w = w[0]'(by omega) :: w.drop 1 := by
        conv => lhs; rw [← List.drop_zero (l := w), List.drop_eq_getElem_cons (by omega : 0 < w.length)]
      have h2 : w.drop 1 = (w.drop 1).take (i - 1) ++ [w[i]] := by
        conv => lhs; rw [← List.take_append_drop (i - 1) (w.drop 1)]
        rw [List.drop_drop, show 1 + (i - 1) = i by omega, List.drop_eq_getElem_cons hi, List.drop_of_length_le (by omega : w.length ≤ i + 1)]
      conv => lhs; rw [h1, h2]
      rfl
    have lu : ((w.drop 1).take (i - 1)).length = i - 1 := by rw [List.length_take, List.length_drop]; omega
    have hn : (w.drop 1).take (i - 1) ≠ [] := fun z => by
      have := congrArg List.length z
      rw [lu] at this
      simp at this
      omega
    have K := cut_wr (A := []) (B := []) (u := (w.drop 1).take (i - 1)) (x := w[i]) (y := w[0]'(by omega)) nil nil hn
    rw [← ew2, lu, show ([] : List (List Int)).flatten.length + (i - 1) + 1 = i by show 0 + (i - 1) + 1 = i; omega] at K
    have K : Cut2 [w] [(w.drop 1).take (i - 1)] _ i 0 := K
    obtain ⟨h1, h2⟩ := K.one
    rw [em]
    have h3 : (w.drop 1).take (i - 1) = wT w i 0 := by injection h1
    rw [h3] at K
    exact ⟨⟨_, K⟩, .inr ⟨_, _, _, ew2, by rw [lu]; omega, rfl, h3.symm⟩⟩
theorem pT_some {w : List Int} {i : Nat} (h : pT w = some i) : i < w.length ∧ w.getD i 0 = -w.getD ((i + 1) % w.length) 0 ∧ ∀ j, j < i → w.getD j 0 ≠ -w.getD ((j + 1) % w.length) 0 := by
  have h1 := List.mem_of_find?_eq_some h
  have h2 := List.find?_some h
  refine ⟨List.mem_range.mp h1, of_decide_eq_true h2, fun j hj e => ?_⟩
  have h3 := List.find?_eq_some_iff_append.mp h
  obtain ⟨_, as, bs, e1, hn⟩ := h3
  have li : as.length = i := by
    have := congrArg (fun l : List Nat => l[as.length]?) e1
    simp only [List.getElem?_append_right (Nat.le_refl _), Nat.sub_self, List.getElem?_cons_zero] at this
    rw [List.getElem?_eq_some_iff] at this
    obtain ⟨hl, e⟩ := this
    rw [List.getElem_range] at e
    exact e
  have hm : j ∈ as := by
    have : (List.range w.length)[j]? = as[j]? := by
      rw [e1, List.getElem?_append_left (by omega)]
    have h5 := List.mem_range.mp h1
    rw [List.getElem?_range (by omega)] at this
    exact List.mem_of_getElem? this.symm
  have := hn j hm
  rw [decide_eq_true e] at this
  cases this
theorem pT_none {w : List Int} (h : pT w = none) {j : Nat} (hj : j < w.length) : w.getD j 0 ≠ -w.getD ((j + 1) % w.length) 0 := fun e => by
  have := List.find?_eq_none.mp h j (List.mem_range.mpr hj)
  rw [decide_eq_true e] at this
  exact this rfl
theorem rd_of_at : ∀ (w : List Int), (∀ j, j + 1 < w.length → w.getD j 0 ≠ -w.getD (j + 1) 0) → Fr.Rd w
  | [], _ => trivial
  | [_], _ => trivial
  | a :: b :: t, h => ⟨h 0 (by simp), rd_of_at (b :: t) fun j hj => h (j + 1) (by simp at hj ⊢; omega)⟩
theorem cut_two {w : List Int} {i : Nat} (hp : pT w = some i) (hl : w.length = 2) : wT w i ((i + 1) % w.length) = [] := by
  obtain ⟨h1, _, _⟩ := pT_some hp
  have : ksT w.length i ((i + 1) % w.length) = [] := by
    rw [hl] at h1 ⊢
    have : i = 0 ∨ i = 1 := by omega
    rcases this with rfl | rfl <;> rfl
  unfold wT
  rw [this]
  rfl
/-- what is left round stays -/
theorem rnd_none {w : List Int} (nz : Fr.NZ w) (h : pT w = none) : Fr.rnd w = w := by
  refine (Fr.rnd_iff nz).mpr ⟨rd_of_at w fun j hj => ?_, fun a b ha hb e => ?_⟩
  · have := pT_none h (show j < w.length by omega)
    rwa [Nat.mod_eq_of_lt hj] at this
  · cases w with
    | nil => cases ha
    | cons x t =>
      have hl : t.length < (x :: t).length := by simp
      have h1 := pT_none h hl
      rw [show (t.length + 1) % (x :: t).length = 0 by rw [List.length_cons, Nat.mod_self]] at h1
      have h2 : (x :: t).getD t.length 0 = b := by
        rw [List.getLast?_eq_getElem?] at hb
        rw [List.getD_eq_getElem?_getD, show t.length = (x :: t).length - 1 by simp, hb]
        rfl
      rw [h2] at h1
      have h3 : x = a := by injection ha
      refine h1 ?_
      show b = -x
      rw [h3, e]
      omega
theorem rnd_step {w : List Int} {i : Nat} (nz : Fr.NZ w) (hp : pT w = some i) : Fr.rnd w = Fr.rnd (wT w i ((i + 1) % w.length)) := by
  obtain ⟨hi, hc, hmin⟩ := pT_some hp
  by_cases h1 : w.length = 1
  · exfalso
    have : i = 0 := by omega
    subst this
    rw [h1] at hc
    have hm := List.getElem_mem hi
    rw [getD_lt hi] at hc
    have := nz _ hm
    omega
  by_cases h2 : w.length = 2
  · rw [cut_two hp h2]
    match w, h2, hi, hc, hmin with
    | [a, b], _, hi, hc, hmin =>
      have e : b = -a := by
        have : i = 0 ∨ i = 1 := by
          have hi : i < 2 := hi
          omega
        rcases this with rfl | rfl
        · have hc : a = -b := hc
          omega
        · simp at hc
          omega
      subst e
      unfold Fr.rnd
      rw [show [a, -a] = [] ++ a :: -a :: [] from rfl, Fr.shr_out]
      rfl
  obtain ⟨_, hf⟩ := ring_cut hi (by omega)
  rcases hf with ⟨u, v, x, y, ew, ei, em, ev⟩ | ⟨u, x, y, ew, ei, em, ev⟩
  · rw [ev]
    rw [em] at hc
    have e1 : w.getD i 0 = x := by rw [ew, List.append_assoc, gd_r (X := u) 0 (by omega)]; rfl
    have e2 : w.getD (i + 1) 0 = y := by rw [ew, List.append_assoc, gd_r (X := u) 1 (by omega)]; rfl
    rw [e1, e2] at hc
    have : y = -x := by omega
    subst this
    rw [ew]
    unfold Fr.rnd
    rw [show u ++ [x, -x] ++ v = u ++ x :: -x :: v by simp, Fr.shr_out]
  · rw [ev]
    rw [em] at hc
    have e1 : w.getD i 0 = x := by rw [ew, gd_r (X := [y] ++ u) 0 (by rw [List.length_append]; simp; omega)]; rfl
    have e2 : w.getD 0 0 = y := by rw [ew]; rfl
    rw [e1, e2] at hc
    have lw : w.length = u.length + 2 := by rw [ew]; simp
    have rd : Fr.Rd w := rd_of_at w fun j hj => by
      have := hmin j (by omega)
      rwa [Nat.mod_eq_of_lt hj] at this
    have nu : Fr.NZ u := fun z hz => nz z (by rw [ew]; simp [hz])
    have rdu : Fr.Rd u := by
      rw [ew] at rd
      exact (Fr.rd_append.1 (Fr.rd_append.1 rd).1).2.1
    obtain ⟨p, c, eu, cy, z⟩ := Fr.parted u nu rdu
    have r1 : Fr.rnd u = c := by
      refine Fr.rnd_of (u := p) (w := c) (by rw [← eu]; exact Fr.Sm.refl _) (by rw [← eu]; exact rdu) cy z
    have ew3 : w = (y :: p) ++ c ++ Fr.con (y :: p) := by
      rw [ew, eu, Fr.con_cons, hc]
      simp
    rw [r1]
    refine Fr.rnd_of (u := y :: p) (w := c) (by rw [← ew3]; exact Fr.Sm.refl _) (by rw [← ew3]; exact rd) cy fun hz => ?_
    exfalso
    have := z hz
    subst this hz
    rw [eu] at lw
    have : w.length = 2 := by rw [lw]; simp [Fr.con]
    omega
end W33
set_option Elab.async false
set_option linter.all false
set_option maxRecDepth 100000
set_option maxHeartbeats 1000000
namespace W33
open PySem L2 PySem.Spec PyProof.Rows WR WB WE WS
/-! ### a sewing of one ring; the place to tighten -/
def spNRS (K : PySem.W.Frag) (C CR CS CBS CMF : Addr) : Sp := fun vs H Q E => ∃ x part : V, vs = [x, part] ∧ ((NotC K CS H x ∧ Bad "part" CBS E H part) ∨
  ∃ (p rp : Addr) (xs : List Addr) (ws : List (List Int)) (mt : List Int), x = .ref p ∧ SewAt K C CR CS H p rp xs ws mt ∧ (ws.length ≠ 1 → Bad "part" CMF E H (.str "rims")) ∧ (ws.length = 1 → Q .non H))
abbrev sNRS : Stmt := top 55
abbrev nNRS : List Str := ["value", "part"]
theorem scNRS : FnScope nNRS ["value", "part"] (defScope sNRS) := ⟨rfl, rfl, rfl, by decide +kernel, rfl, by decide +kernel, by decide +kernel⟩
def spPTT (K : PySem.W.Frag) (C CR : Addr) : Sp := fun vs H Q _ => ∃ (rp : Addr) (xs : List Addr) (w : List Int), vs = [.ref rp] ∧ RimsAt K C CR H rp xs [w] ∧ w.length ≤ 60 ∧ ∀ H', Same H H' → Q (match pT w with | some i => .int (i : Int) | none => .non) H'
abbrev sPTT : Stmt := top 71
abbrev nPTT : List Str := ["rims", "place", "behind"]
theorem scPTT : FnScope nPTT ["rims"] (defScope sPTT) := ⟨rfl, rfl, rfl, by decide +kernel, rfl, by decide +kernel, by decide +kernel⟩
theorem pT_is {w : List Int} {i : Nat} (hi : i < w.length) (hc : w.getD i 0 = -w.getD ((i + 1) % w.length) 0) (hm : ∀ j, j < i → w.getD j 0 ≠ -w.getD ((j + 1) % w.length) 0) : pT w = some i := by
  unfold pT
  rw [List.find?_range_eq_some]
  refine ⟨decide_eq_true hc, List.mem_range.mpr hi, fun j hj => ?_⟩
  rw [decide_eq_false (hm j hj)]
  rfl
theorem pT_no {w : List Int} (hm : ∀ j, j < w.length → w.getD j 0 ≠ -w.getD ((j + 1) % w.length) 0) : pT w = none := by
  unfold pT
  rw [List.find?_eq_none]
  intro j hj
  rw [decide_eq_false (hm j (List.mem_range.mp hj))]
  exact Bool.false_ne_true
section
variable {P : Program} {w : World} {K : PySem.W.Frag} {mg : Str → Option Value} {base : Heap} {C CR CS CBS CMF : Addr}
theorem ok_NRS {f : Addr} {fd : FuncData} (F : Fun K "need_ring_sewing" "need_ring_sewing" sNRS f fd) (N : TN mg) (T : TxW K mg C) (TC : TxRC K mg CR) (TS : TxSC K mg CS) (MF : ErrC P w K mg base CMF "Misfit" ["self", "part"] (spI1 "part" CMF)) (G_need_sewing : CalX P w K mg base "need_sewing" 4 ["value", "part"] (spNeedS K C CR CS CBS)) : FnOk P w K mg base (L2.CX P w) 5 f fd ["value", "part"] (spNRS K C CR CS CBS CMF) := by
  refine F.okX scNRS (fun vs H Q E h => ?_) (fun cdv A outer s H vs Q E hr h => ?_)
  · obtain ⟨x, part, rfl, _⟩ := h
    rfl
  · obtain ⟨x, part, rfl, h⟩ := h
    obtain ⟨fMF, fdMF, iMF, tMF, FMF, bMF⟩ := MF.ini
    refine ⟨_, pss_cons (ps_expr (pe_calX G_need_sewing hr (by decide) (passes_call (takes_of rfl rfl rfl rfl) (fun _ _ _ _ h => h)) (by rfl) (pa_cons (pv 0) (pa_cons (pv 1) pa_nil))))
      (pss_one (ps_if (pt_cmpR op_ne (pe_callB call_len_seq (by rfl) N.len PySem.boot_len (pa_cons (pe_fld (pe_fld (pv 0) rfl) rfl) pa_nil)) pe_int (nomark _)) (pss_one (ps_raise rfl (takes_of rfl rfl rfl rfl) (pmk_oex (dvs := []) MF.oex iMF tMF FMF (hr.mono (by decide)) bMF .nil pass0 (by rfl) MF.g (pa_cons pe_str pa_nil)))) pss_nil)), ?_⟩
    rcases h with ⟨hN, kb⟩ | ⟨p, rp, xs, ws, mt, rfl, S, k1, k2⟩
    · exact ⟨_, rfl, _, rfl, x, _, rfl, .inl ⟨hN, kb⟩⟩
    refine ⟨_, rfl, _, rfl, .ref p, _, rfl, .inr ⟨⟨p, rp, xs, ws, mt, rfl, S⟩, ?_⟩⟩
    obtain ⟨dx, tm, tc, tp, h1, R1, h3, h4, h5⟩ := id S
    obtain ⟨d2, tw, tl, th, tn, r1, r2, r3, r4, r5, r6⟩ := id R1
    have lx := r3.length
    refine ⟨_, rfl, p, CS, dx, _, _, rfl, h1, TS.cl, TS.n1, sf_rims, rp, CR, d2, _, _, rfl, r1, TC.cl, TC.n1, rf_words, tw, _, rfl, .inr r2.sq, rfl, _, rfl, ?_⟩
    by_cases c : ws.length = 1
    · refine iteF' (by
        have e : (xs.map V.ref).length = 1 := by rw [List.length_map]; omega
        show (!decide (V.int ((xs.map V.ref).length : Int) = V.int 1)) = false
        rw [e]
        rfl) ?_
      exact k2 c
    · refine iteT' (by
        have e : (xs.map V.ref).length ≠ 1 := by rw [List.length_map]; omega
        show (!decide (V.int ((xs.map V.ref).length : Int) = V.int 1)) = true
        rw [decide_eq_false (fun z => e (by injection z with z; omega))]
        rfl) ?_
      exact ⟨by show 1 ≤ 1000; decide, mk1 (Q := fun cls d H' => E cls d H') fun d hd => k1 c H (Same.refl _) d hd⟩
theorem ok_PTT {f : Addr} {fd : FuncData} (F : Fun K "place_to_tighten" "place_to_tighten" sPTT f fd) (N : TN mg) (T : TxW K mg C) (TC : TxRC K mg CR)  : FnOk P w K mg base CX0 1 f fd ["rims"] (spPTT K C CR) := by
  refine F.ok scPTT (fun vs H Q E h => ?_) (fun cdv A outer s H vs Q E hr h => ?_)
  · obtain ⟨rp, xs, w', rfl, _⟩ := h
    rfl
  · obtain ⟨rp, xs, wd, rfl, R, l60, k⟩ := h
    refine ⟨_, pss_cons (ps_for PassesOwn.never rfl (pi_enumA (K := K) rfl (by rfl) N.enumerate (pa_cons (pe_fld (pv 0) rfl) pa_nil)) (pg_tup (n := 2) rfl (pgs_cons (pg_name (i := 1) scPTT.nd rfl (Or.inl rfl)) (pgs_cons (pg_name (i := 2) scPTT.nd rfl (Or.inl rfl)) pgs_nil)))
      (pss_one (ps_if (pt_cmpR op_eq (pe_ix ix_tup (pe_fld (pv 0) rfl) (pv 1) (fun _ _ => rfl)) (pe_un un_neg (pe_ix ix_tup (pe_fld (pv 0) rfl) (pv 2) (fun _ _ => rfl))) (nomark _)) (pss_one (ps_ret (pv 1))) pss_nil)))
      (pss_one (ps_ret pe_non)), ?_⟩
    obtain ⟨d2, tw, tl, th, tn, r1, r2, r3, r4, r5, r6⟩ := id R
    rw [flat1] at r4
    refine ⟨_, rfl, rp, CR, d2, _, _, rfl, r1, TC.cl, TC.n7, rf_nexts, tn, _, rfl, .inr r6.sq, fun J G wk hG => ?_⟩
    have ln : (iv (nxF 0 [wd])).length = wd.length := by rw [List.length_map, nxF_len, flat1]
    refine for_it wk (fun i σ H' => ∃ v1 v2 : Option V, σ = [some (.ref rp), v1, v2] ∧ Same H H' ∧ ∀ j, j < i → wd.getD j 0 ≠ -wd.getD ((j + 1) % wd.length) 0) ⟨none, none, rfl, Same.refl _, fun j hj => nomatch hj⟩ (fun i σ H' _ ⟨_, _, _, s, _⟩ => hG _ s) ?_ ?_
    · rintro i x σ H3 H4 hi ⟨v1, v2, rfl, s3, hj⟩ ⟨T0, xi, yi, rfl, hT0, rfl, hx, hy⟩
      obtain rfl := Option.some.inj hx
      rw [ln] at hi
      have hy : (iv (nxF 0 [wd]))[i]? = some yi := hy
      have hne : ∀ z ∈ [wd], z ≠ [] := fun z hz e => by
        rw [List.mem_singleton.mp hz] at e
        rw [e] at hi
        exact absurd hi (by simp)
      have gn := nx_at (ws := [wd]) hne (k := i) (by rw [flat1]; exact hi)
      rw [nx_ring hi] at gn
      obtain rfl : yi = V.int (((i + 1) % wd.length : Nat) : Int) := by
        have := iv_get gn
        rw [hy] at this
        exact Option.some.inj this
      have hq : (i + 1) % wd.length < wd.length := Nat.mod_lt _ (by omega)
      have s4 := s3.trans (same_upd (o := .tup [.int (i : Int), .int (((i + 1) % wd.length : Nat) : Int)]) hT0)
      have gT : L2.upd H3 T0 (.tup [.int (i : Int), .int (((i + 1) % wd.length : Nat) : Int)]) T0 = some (.tup [.int (i : Int), .int (((i + 1) % wd.length : Nat) : Int)]) := upd_same
      generalize L2.upd H3 T0 (.tup [.int (i : Int), .int (((i + 1) % wd.length : Nat) : Int)]) = H4 at s4 gT ⊢
      refine ⟨T0, _, rfl, SqT.of gT, rfl, _, _, rfl, _, _, rfl, rfl, ?_⟩
      refine ⟨_, rfl, rp, CR, d2, _, _, rfl, s4 _ _ r1, TC.cl, TC.n2, rf_letters, _, rfl, tl, _, _, _, rfl, rfl, (SqB.same s4 r4).sq, atI_nat (let_at hi), _, rfl, rp, CR, d2, _, _, rfl, s4 _ _ r1, TC.cl, TC.n2, rf_letters, _, rfl, tl, _, _, _, rfl, rfl, (SqB.same s4 r4).sq, atI_nat (let_at hq), _, rfl, rfl, _, rfl, ?_⟩
      by_cases c : wd.getD i 0 = -wd.getD ((i + 1) % wd.length) 0
      · refine iteT' (decide_eq_true (by rw [c])) ?_
        have := k H4 s4
        rw [pT_is hi c hj] at this
        exact ⟨_, rfl, this⟩
      · refine iteF' (decide_eq_false (fun z => c (by injection z))) ?_
        refine ⟨_, _, rfl, s4, fun j hj2 => ?_⟩
        by_cases e : j = i
        · rw [e]
          exact c
        · exact hj j (by omega)
    · rintro σ H3 ⟨v1, v2, rfl, s3, hj⟩
      rw [ln] at hj
      have := k H3 s3
      rw [pT_no hj] at this
      exact this
end
end W33
set_option Elab.async false
set_option linter.all false
set_option maxRecDepth 100000
set_option maxHeartbeats 1000000
namespace W33
open PySem L2 PySem.Spec PyProof.Rows WR WB WE WS
/-! ### tightened -/
def tgF : Nat → List Int → List Int → List Int × List Int
  | 0, w, mt => (w, mt)
  | f + 1, w, mt => match pT w with
    | none => (w, mt)
    | some i => tgF f (wT w i ((i + 1) % w.length)) (mT mt w.length i ((i + 1) % w.length))
theorem tgF_none {w mt : List Int} (h : pT w = none) : ∀ f, tgF f w mt = (w, mt)
  | 0 => rfl
  | f + 1 => by
    unfold tgF
    rw [h]
theorem tgF_some {w mt : List Int} {i : Nat} (h : pT w = some i) (f : Nat) : tgF (f + 1) w mt = tgF f (wT w i ((i + 1) % w.length)) (mT mt w.length i ((i + 1) % w.length)) := by
  conv => lhs; unfold tgF
  rw [h]
theorem pT_nil : pT [] = none := rfl
theorem tgF_nil (mt : List Int) (f : Nat) : tgF f [] mt = ([], mt) := tgF_none pT_nil f
theorem home_ring {w : List Int} {i : Nat} (hi : i < w.length) : home [w] i = 0 := by
  have := (home_at (ws := [w]) (i := i) (by rw [flat1]; exact hi)).2
  simp at this
  exact this
/-- one step -/
theorem tg_step {w mt : List Int} {i : Nat} (ok : RimOk [w]) (h : MatOk w mt) (hp : pT w = some i) (hl : w.length ≠ 2) : ∃ e, Cut2 [w] [wT w i ((i + 1) % w.length)] e i ((i + 1) % w.length) ∧ RimOk [wT w i ((i + 1) % w.length)] ∧ MatOk (wT w i ((i + 1) % w.length)) (mT mt w.length i ((i + 1) % w.length)) ∧
    (costF [wT w i ((i + 1) % w.length)] (mT mt w.length i ((i + 1) % w.length)) = costF [w] mt ∨ costF [wT w i ((i + 1) % w.length)] (mT mt w.length i ((i + 1) % w.length)) = costF [w] mt - 2) ∧ (wT w i ((i + 1) % w.length)).length + 2 = w.length ∧
    takM mt i ((i + 1) % w.length) ((List.range [wT w i ((i + 1) % w.length)].flatten.length).map e) = mT mt w.length i ((i + 1) % w.length) := by
  obtain ⟨hi, hc, hmin⟩ := pT_some hp
  have lts := ok.2.2.2.2.1
  rw [flat1] at lts
  have h1 : w.length ≠ 1 := fun z => by
    have : i = 0 := by omega
    subst this
    rw [z] at hc
    have hm := List.getElem_mem hi
    have hc : w.getD 0 0 = -w.getD 0 0 := hc
    rw [getD_lt hi] at hc
    have := lts _ hm
    omega
  obtain ⟨⟨e, C⟩, _⟩ := ring_cut hi (by omega)
  have hl : [w].flatten.getD i 0 = -[w].flatten.getD ((i + 1) % w.length) 0 := by rw [flat1]; exact hc
  have hM : MatOk [w].flatten mt := by rw [flat1]; exact h
  have k2 := C.one.2
  have eM : takM mt i ((i + 1) % w.length) ((List.range [wT w i ((i + 1) % w.length)].flatten.length).map e) = mT mt w.length i ((i + 1) % w.length) := by
    unfold mT
    rw [k2, flat1]
  have tm := take_mat C hM hl
  have tc := take_cost C ok.2.2.1 hM hl
  rw [eM] at tm tc
  rw [flat1] at tm
  have ln := C.len
  rw [flat1, flat1] at ln
  refine ⟨e, C, C.rim ok hl, tm, ?_, ln.symm, eM⟩
  by_cases c : mtn mt i = (i + 1) % w.length
  · exact .inl (tc.1 c)
  · exact tc.2 c
/-- what tightening comes to -/
theorem tg_all : ∀ (f : Nat) (w mt : List Int), w.length ≤ f → RimOk [w] → MatOk w mt → ∃ w' mt', tgF f w mt = (w', mt') ∧ pT w' = none ∧ Fr.rnd w = w' ∧ (w' = [] ∨ (RimOk [w'] ∧ MatOk w' mt' ∧ costF [w'] mt' ≤ costF [w] mt ∧ (costF [w] mt - costF [w'] mt') % 2 = 0))
  | 0, w, mt, hf, ok, h => by
    have : w = [] := List.length_eq_zero_iff.mp (by omega)
    exact absurd this (ok.2.2.1 w List.mem_cons_self)
  | f + 1, w, mt, hf, ok, h => by
    have lts := ok.2.2.2.2.1
    rw [flat1] at lts
    cases hp : pT w with
    | none => exact ⟨w, mt, tgF_none hp _, hp, rnd_none lts.nz hp, .inr ⟨ok, h, Int.le_refl _, by rw [Int.sub_self]; rfl⟩⟩
    | some i =>
      rw [tgF_some hp]
      have er := rnd_step lts.nz hp
      by_cases h2 : w.length = 2
      · rw [cut_two hp h2] at er ⊢
        rw [tgF_nil]
        exact ⟨[], _, rfl, rfl, er, .inl rfl⟩
      · obtain ⟨e, C, rok, mok, cst, ln, _⟩ := tg_step ok h hp h2
        obtain ⟨w', mt', e1, e2, e3, e4⟩ := tg_all f _ _ (by omega) rok mok
        refine ⟨w', mt', e1, e2, er.trans e3, e4.imp id fun ⟨a1, a2, a3, a4⟩ => ⟨a1, a2, ?_, ?_⟩⟩
        · rcases cst with z | z <;> omega
        · rcases cst with z | z <;> omega
def spTgt (K : PySem.W.Frag) (C CR CS CBS CMF : Addr) : Sp := fun vs H Q E => ∃ x : V, vs = [x] ∧ ((NotC K CS H x ∧ Bad "part" CBS E H (.str "sewing")) ∨
  ∃ (p rp : Addr) (xs : List Addr) (ws : List (List Int)) (mt : List Int), x = .ref p ∧ SewAt K C CR CS H p rp xs ws mt ∧ ((ws.length ≠ 1 ∧ Bad "part" CMF E H (.str "rims")) ∨
    ∃ (w w' mt' : List Int), ws = [w] ∧ RimOk [w] ∧ MatOk w mt ∧ tgF w.length w mt = (w', mt') ∧ (w' = [] → ∀ H', Same H H' → Q .non H') ∧ (w' ≠ [] → ∀ q H' rq xs2, Same H H' → SewAt K C CR CS H' q rq xs2 [w'] mt' → Q (.ref q) H')))
abbrev sTgt : Stmt := top 72
abbrev nTgt : List Str := ["sewing", "place"]
theorem scTgt : FnScope nTgt ["sewing"] (defScope sTgt) := ⟨rfl, rfl, rfl, by decide +kernel, rfl, by decide +kernel, by decide +kernel⟩
section
variable {P : Program} {w : World} {K : PySem.W.Frag} {mg : Str → Option Value} {base : Heap} {C CR CS CBS CMF CNP : Addr}
theorem ok_Tgt {f : Addr} {fd : FuncData} (F : Fun K "tightened" "tightened" sTgt f fd) (N : TN mg) (T : TxW K mg C) (TC : TxRC K mg CR) (TS : TxSC K mg CS) (G_need_ring_sewing : CalX P w K mg base "need_ring_sewing" 5 ["value", "part"] (spNRS K C CR CS CBS CMF)) (G_place_to_tighten : Cal P w K mg base "place_to_tighten" 1 ["rims"] (spPTT K C CR)) (G_without_pair : CalX P w K mg base "without_pair" 10 ["sewing", "place"] (spWO K C CR CS CBS CNP CMF)) : FnOk P w K mg base (L2.CX P w) 11 f fd ["sewing"] (spTgt K C CR CS CBS CMF) := by
  refine F.okX scTgt (fun vs H Q E h => ?_) (fun cdv A outer s H vs Q E hr h => ?_)
  · obtain ⟨x, rfl, _⟩ := h
    rfl
  · obtain ⟨x, rfl, h⟩ := h
    refine ⟨_, pss_cons (ps_expr (pe_calX G_need_ring_sewing hr (by decide) (passes_call (takes_of rfl rfl rfl rfl) (fun _ _ _ _ h => h)) (by rfl) (pa_cons (pv 0) (pa_cons pe_str pa_nil))))
      (pss_cons (ps_set (i := 1) scTgt.nd rfl (Or.inl rfl) (pe_cal G_place_to_tighten hr (by decide) (by rfl) (pa_cons (pe_fld (pv 0) rfl) pa_nil)))
      (pss_cons (ps_while (passes_of rfl) (pt_cmpR op_notN (pv 1) pe_non (nomark _))
      (pss_cons (ps_if (pt_cmpR op_eq (pe_fld (pe_fld (pv 0) rfl) rfl) pe_int (nomark _)) (pss_one (ps_ret pe_non)) pss_nil)
      (pss_cons (ps_set (i := 0) scTgt.nd rfl (Or.inl rfl) (pe_calX G_without_pair hr (by decide) (passes_call (takes_of rfl rfl rfl rfl) (fun _ _ _ _ h => h)) (by rfl) (pa_cons (pv 0) (pa_cons (pv 1) pa_nil))))
      (pss_one (ps_set (i := 1) scTgt.nd rfl (Or.inl rfl) (pe_cal G_place_to_tighten hr (by decide) (by rfl) (pa_cons (pe_fld (pv 0) rfl) pa_nil)))))))
      (pss_one (ps_ret (pv 0))))), ?_⟩
    rcases h with ⟨hN, kb⟩ | ⟨p, rp, xs, ws, mt, rfl, S, h⟩
    · exact ⟨_, rfl, x, _, rfl, .inl ⟨hN, kb⟩⟩
    rcases h with ⟨h1, kb⟩ | ⟨w, w', mt', rfl, ok, mok, et, kn, ks⟩
    · exact ⟨_, rfl, .ref p, _, rfl, .inr ⟨p, rp, xs, ws, mt, rfl, S, fun _ => kb, fun z => absurd z h1⟩⟩
    refine ⟨_, rfl, .ref p, _, rfl, .inr ⟨p, rp, xs, _, mt, rfl, S, fun z => absurd rfl z, fun _ => ?_⟩⟩
    obtain ⟨dx, tm, tc, tp, h1, R1, h3, h4, h5⟩ := id S
    have l24 := ok.2.2.2.1
    rw [flat1] at l24
    refine ⟨_, rfl, p, CS, dx, _, _, rfl, h1, TS.cl, TS.n1, sf_rims, rp, xs, w, rfl, R1, by omega, fun H1 s1 => ?_⟩
    try dsimp only
    refine at_set ?_
    try dsimp only
    refine ⟨fun n σ H' => ∃ (p rp : Addr) (xs : List Addr) (w mt : List Int), σ = [some (.ref p), some (match pT w with | some i => V.int (i : Int) | none => V.non)] ∧ Same H H' ∧ SewAt K C CR CS H' p rp xs [w] mt ∧ RimOk [w] ∧ MatOk w mt ∧ tgF n w mt = (w', mt') ∧ w.length ≤ n, ⟨w.length, p, rp, xs, w, mt, rfl, s1, S.same s1, ok, mok, et, Nat.le_refl _⟩, ?_⟩
    rintro n σ H2 ⟨p, rp, xs, w, mt, rfl, s2, S2, ok2, mok2, et2, hn⟩
    have l24 := ok2.2.2.2.1
    rw [flat1] at l24
    have wne : w ≠ [] := ok2.2.2.1 w List.mem_cons_self
    have lpos := List.length_pos_iff.mpr wne
    obtain ⟨dx, tm, tc, tp, h1, R1, h3, h4, h5⟩ := id S2
    obtain ⟨d2, tw, tl, th, tn, r1, r2, r3, r4, r5, r6⟩ := id R1
    cases hp : pT w with
    | none =>
      refine ⟨_, rfl, rfl, _, rfl, ?_⟩
      refine iteF' (by rfl) ?_
      rw [tgF_none hp] at et2
      obtain ⟨rfl, rfl⟩ : w = w' ∧ mt = mt' := by
        injection et2 with a b
        exact ⟨a, b⟩
      exact ⟨_, rfl, ks wne p H2 rp xs s2 S2⟩
    | some i =>
      refine ⟨_, rfl, rfl, _, rfl, ?_⟩
      refine iteT' (by
        show (!decide (V.int (i : Int) = V.non)) = true
        rw [decide_eq_false (fun z => by cases z)]
        rfl) ?_
      refine ⟨fun σ' H' => ∃ m, m < n ∧ ∃ (p rp : Addr) (xs : List Addr) (w mt : List Int), σ' = [some (.ref p), some (match pT w with | some i => V.int (i : Int) | none => V.non)] ∧ Same H H' ∧ SewAt K C CR CS H' p rp xs [w] mt ∧ RimOk [w] ∧ MatOk w mt ∧ tgF m w mt = (w', mt') ∧ w.length ≤ m, fun _ _ z => z, ?_⟩
      obtain ⟨f, rfl⟩ : ∃ f, n = f + 1 := ⟨n - 1, by omega⟩
      rw [tgF_some hp] at et2
      refine ⟨_, rfl, p, CS, dx, _, _, rfl, h1, TS.cl, TS.n1, sf_rims, rp, CR, d2, _, _, rfl, r1, TC.cl, TC.n3, rf_many, rfl, _, rfl, ?_⟩
      by_cases c2 : w.length = 2
      · refine iteT' (decide_eq_true (by rw [flat1, c2]; rfl)) ?_
        rw [cut_two hp c2, tgF_nil] at et2
        injection et2 with a b
        exact kn a.symm H2 s2
      · refine iteF' (decide_eq_false (fun z => c2 (by rw [flat1] at z; injection z with z; omega))) ?_
        obtain ⟨hi, hc, _⟩ := pT_some hp
        obtain ⟨e, Cu, rok, mok3, _, ln, eM⟩ := tg_step ok2 mok2 hp c2
        have nr := nx_ring hi
        rw [← nr] at hc Cu rok mok3 ln eM et2
        refine ⟨_, rfl, _, rfl, _, _, rfl, .inr ⟨p, rp, xs, [w], mt, "int", rfl, S2, ok2, by rw [flat1]; exact mok2, .int _, .inr ⟨i, rfl, by rw [flat1]; exact hi, .inr (.inr ⟨_, e, by rw [flat1]; exact hc, by rw [home_ring hi]; exact c2, Cu, fun q H3 rq xs3 s3 S3 => ?_⟩)⟩⟩⟩
        rw [eM] at S3
        have s03 := s2.trans s3
        try dsimp only
        refine at_set ?_
        try dsimp only
        obtain ⟨dy, um, uc, up, g1, R3, g3, g4, g5⟩ := id S3
        refine ⟨_, rfl, q, CS, dy, _, _, rfl, g1, TS.cl, TS.n1, sf_rims, rq, xs3, _, rfl, R3, by omega, fun H4 s4 => ?_⟩
        exact ⟨f, by omega, q, rq, xs3, _, _, rfl, s03.trans s4, S3.same s4, rok, mok3, et2, by omega⟩
end
end W33
set_option Elab.async false
set_option linter.all false
set_option maxRecDepth 100000
set_option maxHeartbeats 1000000
namespace W33
open PySem L2 PySem.Spec PyProof.Rows WR WB WE WS
/-! ### pairs of words; a comprehension of two walks that makes new things -/
def off (D : Addr) (H : Hp) : Hp := fun b => if b = D then none else H b
theorem off_same {D : Addr} {H : Hp} : Same (off D H) H := fun b o e => by
  unfold off at e
  by_cases c : b = D
  · rw [if_pos c] at e
    cases e
  · rw [if_neg c] at e
    exact e
theorem off_D {D : Addr} {H : Hp} : off D H D = none := if_pos rfl
theorem off_to {D : Addr} {H H' : Hp} (s : Same (off D H) H') : Same (off D H) (off D H') := fun b o e => by
  have nb : b ≠ D := fun z => by rw [z, off_D] at e; cases e
  show (if b = D then none else H' b) = some o
  rw [if_neg nb]
  exact s b o e
theorem off_of {D : Addr} {H1 H : Hp} (hD : H1 D = none) (s : Same H1 H) : Same H1 (off D H) := fun b o e => by
  have nb : b ≠ D := fun z => by rw [z, hD] at e; cases e
  show (if b = D then none else H b) = some o
  rw [if_neg nb]
  exact s b o e
theorem off_all {D : Addr} {H H' : Hp} (s : Same H H') : Same (off D H) (off D H') := off_to (fun b o e => s b o (off_same b o e))
theorem lc2R {β : Type} {J : It} {n : Nat} {G : Hp → Prop} {Y : Nat → Hp → V → Hp → Prop} (w : Walk J n G Y) {g : TG} {tt : TT} {wi1 : TI} {g1 : TG} {tt1 : TT} {te : TE} {vs vs1 : List Nat} {σ : L2.St} {H1 : Hp} {Q : VK} (out : Nat → List β) (R : Hp → V → β → Prop) (hG : ∀ H, Same H1 H → G H)
    (hs : ∀ i x D H H' acc, i < n → Y i H x H' → H1 D = none → Same H1 H → H D = some (.lst acc) → All2 (R (off D H)) acc (((List.range i).map out).flatten) → ∀ Nx : Hp → Prop, (∀ H' acc2, Same H1 H' → H' D = some (.lst acc2) → All2 (R (off D H')) acc2 (((List.range i).map out).flatten ++ out i) → Nx H') →
      g x (wipe σ vs) H' fun σ2 H2 => wipe σ2 vs = wipe σ vs ∧ tt σ2 H2 fun b H3 => if b = true then wi1 σ2 H3 fun J1 H4 => ∃ W1 : Nat → Nat → Hp → Prop, (∃ m, W1 0 m H4) ∧ ∀ j k H, W1 j k H →
      (J1.stop j H ∧ Nx H) ∨ (J1.go j H ∧ ∃ Nx1 : Hp → Prop, (∀ H', Nx1 H' → ∃ k', k' < k ∧ W1 (j + 1) k' H') ∧ ∀ x H', J1.yld j H x H' → g1 x (wipe σ2 vs1) H' fun σ3 H5 => wipe σ3 vs1 = wipe σ2 vs1 ∧ tt1 σ3 H5 fun b H6 =>
        if b = true then te σ3 H6 fun y H7 => ∃ acc, H7 D = some (.lst acc) ∧ acc.length < sizeLine ∧ Nx1 (L2.upd H7 D (.lst (acc ++ [y]))) else Nx1 H6) else Nx H3)
    (hd : ∀ D H acc, H1 D = none → Same H1 H → H D = some (.lst acc) → All2 (R (off D H)) acc (((List.range n).map out).flatten) → Q (.ref D) H) : tLc2 (fun _ H R => R J H) g tt wi1 g1 tt1 te vs vs1 σ H1 Q := by
  intro D hD
  refine ⟨fun i m H => m = n - i ∧ i ≤ n ∧ Same H1 H ∧ ∃ acc, H D = some (.lst acc) ∧ All2 (R (off D H)) acc (((List.range i).map out).flatten), ⟨_, rfl, Nat.zero_le _, fun b o e => by rw [upd_ne (ne_of_none e hD)]; exact e, [], upd_same, .nil⟩, ?_⟩
  rintro i m H ⟨rfl, hi, sm, acc, hDD, ha⟩
  by_cases hlt : i < n
  · right
    refine ⟨w.goes i H hlt (hG H sm), fun H' => Same H1 H' ∧ ∃ acc, H' D = some (.lst acc) ∧ All2 (R (off D H')) acc (((List.range (i + 1)).map out).flatten), fun H' q => ⟨n - (i + 1), by omega, rfl, hlt, q.1, q.2⟩, fun x H' hy => ?_⟩
    refine hs i x D H H' acc hlt (w.yields i H x H' hlt (hG H sm) hy) hD sm hDD ha _ fun H2 acc2 s2 h2 r2 => ⟨s2, acc2, h2, ?_⟩
    rw [List.range_succ, List.map_append, List.flatten_append]
    simpa using r2
  · left
    have e : i = n := by omega
    subst e
    exact ⟨w.stops H (hG H sm), hd D H acc hD sm hDD ha⟩
/-- a pair of words -/
def PrW (K : PySem.W.Frag) (C : Addr) (H : Hp) (v : V) (pr : List Int × List Int) : Prop := ∃ t x y : Addr, v = .ref t ∧ SqT K H t [.ref x, .ref y] ∧ WordAt K C H x pr.1 ∧ WordAt K C H y pr.2
theorem PrW.same {K : PySem.W.Frag} {C : Addr} {H H' : Hp} {v : V} {pr : List Int × List Int} (h : PrW K C H v pr) (s : Same H H') : PrW K C H' v pr := by
  obtain ⟨t, x, y, e, q, wx, wy⟩ := h
  exact ⟨t, x, y, e, WR.Same.seqT s q, wx.same s, wy.same s⟩
def WdA (K : PySem.W.Frag) (C : Addr) (H : Hp) (v : V) (ns : List Int) : Prop := ∃ p : Addr, v = .ref p ∧ WordAt K C H p ns
theorem WdA.same {K : PySem.W.Frag} {C : Addr} {H H' : Hp} {v : V} {ns : List Int} (h : WdA K C H v ns) (s : Same H H') : WdA K C H' v ns := by
  obtain ⟨p, e, w⟩ := h
  exact ⟨p, e, w.same s⟩
def spIWP (K : PySem.W.Frag) (C : Addr) : Sp := fun vs H Q _ => ∃ (v : V) (pr : List Int × List Int), vs = [v] ∧ PrW K C H v pr ∧ ∀ H', Same H H' → Q (.bl true) H'
abbrev sIWP : Stmt := top 64
abbrev nIWP : List Str := ["value", "part"]
theorem scIWP : FnScope nIWP ["value"] (defScope sIWP) := ⟨rfl, rfl, rfl, by decide +kernel, rfl, by decide +kernel, by decide +kernel⟩
def spAWP (K : PySem.W.Frag) (C : Addr) : Sp := fun vs H Q _ => ∃ (a : Addr) (ts : List V) (prs : List (List Int × List Int)), vs = [.ref a] ∧ H a = some (.lst ts) ∧ All2 (PrW K C H) ts prs ∧ prs.length ≤ 12 ∧ ∀ H', Same H H' → Q (.bl true) H'
abbrev sAWP : Stmt := top 65
abbrev nAWP : List Str := ["value", "pair"]
theorem scAWP : FnScope nAWP ["value"] (defScope sAWP) := ⟨rfl, rfl, rfl, by decide +kernel, rfl, by decide +kernel, by decide +kernel⟩
def spNWP (K : PySem.W.Frag) (C : Addr) : Sp := fun vs H Q _ => ∃ (a : Addr) (v : V) (ts : List V) (prs : List (List Int × List Int)), vs = [.ref a, v] ∧ H a = some (.lst ts) ∧ All2 (PrW K C H) ts prs ∧ prs.length ≤ 12 ∧ ∀ H', Same H H' → Q .non H'
abbrev sNWP : Stmt := top 66
abbrev nNWP : List Str := ["value", "part"]
theorem scNWP : FnScope nNWP ["value", "part"] (defScope sNWP) := ⟨rfl, rfl, rfl, by decide +kernel, rfl, by decide +kernel, by decide +kernel⟩
theorem all_true {β : Type} : ∀ {vs : List V} {bs : List β}, All2 (fun v _ => v = V.bl true) vs bs → vs = (List.replicate bs.length true).map V.bl := by
  intro vs bs h
  induction h with
  | nil => rfl
  | cons h1 _ ih => rw [h1, ih, List.length_cons, List.replicate_succ]; rfl
section
variable {P : Program} {w : World} {K : PySem.W.Frag} {mg : Str → Option Value} {base : Heap} {C CR CS CBS CMF CNP : Addr}
theorem ok_IWP {f : Addr} {fd : FuncData} (F : Fun K "is_word_pair" "is_word_pair" sIWP f fd) (N : TN mg) (T : TxW K mg C) (GL : Cal P w K mg base "is_listed" 1 ["value"] (spListE K)) : FnOk P w K mg base CX0 2 f fd ["value"] (spIWP K C) := by
  refine F.ok scIWP (fun vs H Q E h => ?_) (fun cdv A outer s H vs Q E hr h => ?_)
  · obtain ⟨v, pr, rfl, _⟩ := h
    rfl
  · obtain ⟨v, pr, rfl, ⟨t, x, y, rfl, hq, wx, wy⟩, k⟩ := h
    refine ⟨_, pss_one (ps_ret (pe_and (pe_cal GL hr (by decide) (by rfl) (pa_cons (pv 0) pa_nil)) (pe_and (pe_cmpR op_eq (pe_callB call_len_seq (by rfl) N.len PySem.boot_len (pa_cons (pv 0) pa_nil)) pe_int (nomark _)) (pe_one (pe_callB (cr_all rfl) (by rfl) T.all (by decide +kernel) (pa_cons (pe_lc (own := [("part", 1)]) (g := gName 1) (tt := tYes) rfl scIWP.nd (pi_tup (pv 0)) (blkOk_by (N := nIWP) (sc := defScope sIWP) (by decide +kernel)) (fun _ _ _ _ _ => pg_name (i := 1) scIWP.nd rfl (Or.inl rfl)) (fun _ _ _ _ _ => pts_nil) (fun _ _ _ _ _ => pe_callB (r := rIsi K) (id := "isinstance") call_isi (by rfl) T.isin (by decide +kernel) (pa_cons (pv 1) (pa_cons (pe_glob (v := .ref C) (by rfl) T.mgW rfl) pa_nil)))) pa_nil)))))), ?_⟩
    refine ⟨_, rfl, t, _, rfl, .inr hq, fun H1 s1 => ⟨_, rfl, iteT ?_⟩⟩
    have hq1 := WR.Same.seqT s1 hq
    refine ⟨_, rfl, t, _, rfl, .inr hq1, rfl, _, rfl, iteT' (by rfl) ?_⟩
    refine cb_lc ?_
    refine ⟨_, rfl, t, rfl, ⟨_, hq1⟩, ?_⟩
    refine lcp (walk_tup (K := K) (a := t) (xs := [.ref x, .ref y])) (fun _ => true) (fun _ => .bl true) (by show 2 < 40000; decide) (fun H2 s2 => WR.Same.seqT s2 hq1) ?_ ?_
    · intro z hz H2 s2 Qy Qn ky kn
      have tz : TyX K H2 z (.ref C) := by
        simp only [List.mem_cons, List.mem_nil_iff, or_false] at hz
        rcases hz with rfl | rfl
        · exact ((wx.same s1).same s2).tyx T
        · exact ((wy.same s1).same s2).tyx T
      exact ⟨rfl, yes_te ⟨_, rfl, _, _, _, _, _, rfl, .own C, tz, kit_self C, ky rfl H2 (Same.refl _)⟩⟩
    · intro D H2 hD s2 h2
      exact ⟨D, [true, true], rfl, SqL.of h2, k H2 (s1.trans s2)⟩
theorem ok_AWP {f : Addr} {fd : FuncData} (F : Fun K "are_word_pairs" "are_word_pairs" sAWP f fd) (N : TN mg) (T : TxW K mg C) (mM' : ∃ t, mg "MOST_PAIRS" = some (.int 12 t)) (GL : Cal P w K mg base "is_listed" 1 ["value"] (spListE K)) (G_is_word_pair : Cal P w K mg base "is_word_pair" 2 ["value"] (spIWP K C)) : FnOk P w K mg base CX0 3 f fd ["value"] (spAWP K C) := by
  refine F.ok scAWP (fun vs H Q E h => ?_) (fun cdv A outer s H vs Q E hr h => ?_)
  · obtain ⟨a, ts, prs, rfl, _⟩ := h
    rfl
  · obtain ⟨a, ts, prs, rfl, ha, h2, l12, k⟩ := h
    obtain ⟨tm, mM⟩ := mM'
    refine ⟨_, pss_one (ps_ret (pe_and (pe_cal GL hr (by decide) (by rfl) (pa_cons (pv 0) pa_nil)) (pe_and (pe_cmpR op_le (pe_callB call_len_seq (by rfl) N.len PySem.boot_len (pa_cons (pv 0) pa_nil)) (pe_glob (v := .int 12) (by rfl) mM ⟨_, rfl⟩) (nomark _)) (pe_one (pe_callB (cr_all rfl) (by rfl) T.all (by decide +kernel) (pa_cons (pe_lc (own := [("pair", 1)]) (g := gName 1) (tt := tYes) rfl scAWP.nd (pi_list (pv 0)) (blkOk_by (N := nAWP) (sc := defScope sAWP) (by decide +kernel)) (fun _ _ _ _ _ => pg_name (i := 1) scAWP.nd rfl (Or.inl rfl)) (fun _ _ _ _ _ => pts_nil) (fun _ _ _ _ _ => pe_cal G_is_word_pair hr (by decide) (by rfl) (pa_cons (pv 1) pa_nil))) pa_nil)))))), ?_⟩
    refine ⟨_, rfl, a, _, rfl, .inl (SqL.of ha), fun H1 s1 => ⟨_, rfl, iteT ?_⟩⟩
    have ha1 := s1 _ _ ha
    have lt := h2.length
    refine ⟨_, rfl, a, _, rfl, .inl (SqL.of ha1), _, _, rfl, rfl, _, rfl, iteT' (decide_eq_true (by omega)) ?_⟩
    refine cb_lc ?_
    refine ⟨_, rfl, a, rfl, ⟨_, SqL.of ha1⟩, ?_⟩
    refine lcM (walk_list (K := K) (a := a) (xs := ts)) prs (fun _ _ v _ => v = V.bl true) (fun _ _ _ _ _ h _ => h) (fun _ _ _ _ _ _ _ h => h) (by omega) lt (fun H s => SqL.of (s _ _ ha1)) ?_ (fun x σ1 H A B k h => gName_mono k h) ?_
    · intro i v pr hv hpr D H2 hD _ s2 Qy ky
      obtain ⟨pr', hp', r⟩ := h2.at hv
      obtain rfl : pr' = pr := Option.some.inj (hp'.symm.trans hpr)
      exact ⟨rfl, _, rfl, v, pr', rfl, (r.same s1).same s2, fun H3 s3 => ky _ H3 s3 rfl⟩
    · intro D H2 vs hD s2 gD hv
      rw [all_true hv] at gD
      refine ⟨D, List.replicate prs.length true, rfl, SqL.of gD, ?_⟩
      rw [show (List.replicate prs.length true).all id = true by simp]
      exact k H2 (s1.trans s2)
theorem ok_NWP {f : Addr} {fd : FuncData} (F : Fun K "need_word_pairs" "need_word_pairs" sNWP f fd) (N : TN mg)  (G_are_word_pairs : Cal P w K mg base "are_word_pairs" 3 ["value"] (spAWP K C)) : FnOk P w K mg base CX0 4 f fd ["value", "part"] (spNWP K C) := by
  refine F.ok scNWP (fun vs H Q E h => ?_) (fun cdv A outer s H vs Q E hr h => ?_)
  · obtain ⟨a, v, ts, prs, rfl, _⟩ := h
    rfl
  · obtain ⟨a, v, ts, prs, rfl, ha, h2, l12, k⟩ := h
    refine ⟨_, pss_one (ps_if (pt_not (pt_val (pe_cal G_are_word_pairs hr (by decide) (by rfl) (pa_cons (pv 0) pa_nil)))) (pss_one ps_never) pss_nil), ?_⟩
    exact ⟨_, rfl, a, ts, prs, rfl, ha, h2, l12, fun H' s => ⟨_, rfl, iteF (k H' s)⟩⟩
end
end W33
set_option Elab.async false
set_option linter.all false
set_option maxRecDepth 100000
set_option maxHeartbeats 1000000
namespace W33
open PySem L2 PySem.Spec PyProof.Rows WR WB WE WS
/-! ### words of exchanges and their mates -/
theorem pe_w0K {X : Cx} {K : PySem.W.Frag} {C : Addr} {o : Expr} {ta : TE} {m : Str} {ps : List Str} {sp : Sp} {apos pos : Pos} {j : Nat} {pl : Sem Bool} (hK : X.K = K) (M : MethW X.prog X.w K X.mg X.base C m ps sp) (c : Cls K C) (hr : Room j X.A) (hj : 6 ≤ j) (he : PE X o ta)
    (ht : eval (.Call (.Attribute o m apos) [] [] pos) X.env = (do
      let ov ← eval o X.env
      standAt apos.atName
      let (f, first) ← holding [ov] (getMethod ov m pl)
      callWith pos f first (backTo pos (starEach [] X.env)) (backToKw pos (keywordEach [] X.env))) := by rfl) :
    PE X (.Call (.Attribute o m apos) [] [] pos) (tMeth C m sp [] E0 ta tNil) := by
  subst hK
  exact pe_w0 M c hr hj he ht
theorem ret_lc2 {wi : TI} {g : TG} {tt : TT} {wi1 : TI} {g1 : TG} {tt1 : TT} {te : TE} {vs vs1 : List Nat} {D : Ends} {σ : L2.St} {H : Hp} (h : wi σ H fun J H1 => tLc2 (fun _ H R => R J H) g tt wi1 g1 tt1 te vs vs1 σ H1 D.rt) : tRet (tLc2 wi g tt wi1 g1 tt1 te vs vs1) D σ H := h
theorem ext_lc {K : PySem.W.Frag} {i : Nat} {wi : TI} {g : TG} {tt : TT} {te : TE} {vs : List Nat} {D : Ends} {σ : L2.St} {H : Hp}
    (h : ∃ wv, σ[i]? = some (some wv) ∧ tyV K "list" wv H ∧ wi σ H fun J H1 => tLc (fun _ H R => R J H) g tt te vs σ H1 fun y H2 => rExtend wv [y] H2 fun _ H4 => D.nx σ H4) : tDrop (tBM K "list" rExtend (tVar i) (tCons (tLc wi g tt te vs) tNil)) D σ H := h
def ringWs (prs : List (List Int × List Int)) : List (List Int) := (prs.map fun p => [p.1, p.2, Fr.con p.1, Fr.con p.2]).flatten
def spWOE (K : PySem.W.Frag) (C : Addr) : Sp := fun vs H Q _ => ∃ (a : Addr) (ts : List V) (prs : List (List Int × List Int)), vs = [.ref a] ∧ H a = some (.lst ts) ∧ All2 (PrW K C H) ts prs ∧ prs.length ≤ 12 ∧ (∀ p ∈ prs, p.1.length ≤ 500 ∧ p.2.length ≤ 500 ∧ Lts p.1 ∧ Lts p.2) ∧ ∀ l H' vs, H l = none → Same H H' → H' l = some (.lst vs) → All2 (WdA K C H') vs (ringWs prs) → Q (.ref l) H'
abbrev sWOE : Stmt := top 68
abbrev nWOE : List Str := ["pairs", "x", "y", "word"]
theorem scWOE : FnScope nWOE ["pairs"] (defScope sWOE) := ⟨rfl, rfl, rfl, by decide +kernel, rfl, by decide +kernel, by decide +kernel⟩
def sX (ws : List (List Int)) (j : Nat) : Int := ((ws.take j).flatten.length : Int)
def bhX (a : Nat) : Nat := if a % 4 < 2 then a + 2 else a - 2
def rwX (ws : List (List Int)) (a : Nat) : List Int := (List.range (ws.getD a []).length).map fun t => sX ws (bhX a + 1) - 1 - ((t : Nat) : Int)
def mtX (ws : List (List Int)) : List Int := ((List.range ws.length).map (rwX ws)).flatten
def spMOE (K : PySem.W.Frag) (C : Addr) : Sp := fun vs H Q _ => ∃ (a : Addr) (us : List V) (ws : List (List Int)), vs = [.ref a] ∧ H a = some (.lst us) ∧ All2 (WdA K C H) us ws ∧ ws.length % 4 = 0 ∧ ws.length ≤ 48 ∧ ws.flatten.length ≤ 60 ∧ ∀ l H', H l = none → Same H H' → H' l = some (.lst (iv (mtX ws))) → Q (.ref l) H'
abbrev sMOE : Stmt := top 69
abbrev nMOE : List Str := ["words", "starts", "word", "mates", "at", "behind", "place"]
theorem scMOE : FnScope nMOE ["words"] (defScope sMOE) := ⟨rfl, rfl, rfl, by decide +kernel, rfl, by decide +kernel, by decide +kernel⟩
theorem kept_off {D : Addr} {H : Hp} : Kept D H (off D H) := fun b o n e => by
  show (if b = D then none else H b) = some o
  rw [if_neg n]
  exact e
def outW (prs : List (List Int × List Int)) (i : Nat) : List (List Int) := match prs[i]? with | some p => [p.1, p.2, Fr.con p.1, Fr.con p.2] | none => []
theorem outW_len (prs : List (List Int × List Int)) : ∀ i, (((List.range i).map (outW prs)).flatten).length ≤ 4 * i
  | 0 => Nat.le_refl _
  | i + 1 => by
    have ih := outW_len prs i
    rw [List.range_succ, List.map_append, List.flatten_append, List.length_append]
    have : ([i].map (outW prs)).flatten.length ≤ 4 := by
      show ([outW prs i].flatten).length ≤ 4
      unfold outW
      cases prs[i]? <;> simp
    omega
theorem outW_all (prs : List (List Int × List Int)) : ((List.range prs.length).map (outW prs)).flatten = ringWs prs := by
  unfold ringWs
  congr 1
  refine List.ext_getElem (by simp) fun i h1 h2 => ?_
  have hi : i < prs.length := by simpa using h1
  rw [List.getElem_map, List.getElem_map, List.getElem_range]
  unfold outW
  rw [List.getElem?_eq_getElem hi]
theorem atI_end {xs : List V} {v : V} : atI (xs ++ [v]) (-1) = some v := atI_last _ _
theorem sX_succ {ws : List (List Int)} {i : Nat} {w : List Int} (h : ws[i]? = some w) : sX ws (i + 1) = sX ws i + (w.length : Int) := by
  obtain ⟨hi, e⟩ := List.getElem?_eq_some_iff.mp h
  unfold sX
  rw [List.take_succ_eq_append_getElem hi, e, List.flatten_append, List.length_append]
  simp
theorem mt_len {ws : List (List Int)} : ∀ i, i ≤ ws.length → (((List.range i).map (rwX ws)).flatten).length = (ws.take i).flatten.length
  | 0, _ => rfl
  | i + 1, h => by
    have ih := mt_len (ws := ws) i (by omega)
    rw [List.range_succ, List.map_append, List.flatten_append, List.length_append, ih, List.take_succ_eq_append_getElem (by omega), List.flatten_append, List.length_append]
    congr 1
    show ([rwX ws i].flatten).length = _
    unfold rwX
    rw [List.getD_eq_getElem?_getD, List.getElem?_eq_getElem (by omega)]
    simp
theorem if_behind {σ : L2.St} {H : Hp} {Q : VK} {i : Nat} (h4 : σ[4]? = some (some (.int (i : Int)))) (k : Q (.int ((bhX i : Nat) : Int)) H) :
    tIf (tTest (tOp (rI0 fun i j => V.bl (decide (i < j))) (tOp (rI (fun x j => 0 < j) fun i j => V.int (i % j)) (tVar 4) (tC (V.int 4))) (tC (V.int 2)))) (tOp (rI0 fun i j => V.int (i + j)) (tVar 4) (tC (V.int 2))) (tOp (rI0 fun i j => V.int (i - j)) (tVar 4) (tC (V.int 2))) σ H Q := by
  refine ⟨_, h4, _, _, rfl, rfl, (by show (0 : Int) < 4; decide), _, _, rfl, rfl, _, rfl, ?_⟩
  by_cases c : i % 4 < 2
  · refine iteT' (decide_eq_true (by omega)) ⟨_, h4, _, _, rfl, rfl, ?_⟩
    have e : bhX i = i + 2 := if_pos c
    rw [e] at k
    exact k
  · refine iteF' (decide_eq_false (by omega)) ⟨_, h4, _, _, rfl, rfl, ?_⟩
    have e : bhX i = i - 2 := if_neg c
    rw [e, show (((i - 2 : Nat) : Nat) : Int) = (i : Int) - 2 by omega] at k
    exact k
theorem seq_asg {te : TE} {g : TG} {b : TS} {D : Ends} {σ : L2.St} {H : Hp} (h : te σ H fun v H1 => g v σ H1 (b D)) : tSeq (tAsg te g) b D σ H := h
section
variable {P : Program} {w : World} {K : PySem.W.Frag} {mg : Str → Option Value} {base : Heap} {C CR CS CBS CMF CNP : Addr}
theorem ok_WOE {f : Addr} {fd : FuncData} (F : Fun K "words_of_exchanges" "words_of_exchanges" sWOE f fd) (N : TN mg) (T : TxW K mg C) (MC : MethW P w K mg base C "contrary" ["self"] (spOne K C Fr.con))  : FnOk P w K mg base CX0 7 f fd ["pairs"] (spWOE K C) := by
  refine F.ok scWOE (fun vs H Q E h => ?_) (fun cdv A outer s H vs Q E hr h => ?_)
  · obtain ⟨a, ts, prs, rfl, _⟩ := h
    rfl
  · obtain ⟨a, ts, prs, rfl, ha, h2, l12, hpr, k⟩ := h
    refine ⟨_, pss_one (ps_ret (pe_lc2 (own := [("x", 1), ("y", 2), ("word", 3)]) (vs1 := [3]) (g := gTup K 2 (gCons (gName 1) (gCons (gName 2) gNil))) (tt := tYes) (g1 := gName 3) (tt1 := tYes) rfl scWOE.nd (pi_list (pv 0)) (blkOk_by (N := nWOE) (sc := defScope sWOE) (by decide +kernel)) (by decide) (fun _ _ _ _ _ => pg_tup (n := 2) rfl (pgs_cons (pg_name (i := 1) scWOE.nd rfl (Or.inl rfl)) (pgs_cons (pg_name (i := 2) scWOE.nd rfl (Or.inl rfl)) pgs_nil))) (fun _ _ _ _ _ => pts_nil) (fun _ _ _ _ _ => pi_tupK (K := K) rfl (pe_tupBK (K := K) rfl (pa_cons (pv 1) (pa_cons (pv 2) (pa_cons (pe_w0K (K := K) rfl MC T.cl hr (by decide) (pv 1)) (pa_cons (pe_w0K (K := K) rfl MC T.cl hr (by decide) (pv 2)) pa_nil)))))) (fun _ _ _ _ _ => pg_name (i := 3) scWOE.nd rfl (Or.inl rfl)) (fun _ _ _ _ _ => pts_nil) (fun _ _ _ _ _ => pv 3))), ?_⟩
    refine ret_lc2 ?_
    refine ⟨_, rfl, a, rfl, ⟨_, SqL.of ha⟩, ?_⟩
    have lt := h2.length
    refine lc2R (walk_list (K := K) (a := a) (xs := ts)) (outW prs) (WdA K C) (fun H s => SqL.of (s _ _ ha)) ?_ ?_
    · rintro i x D H2 H3 acc hi ⟨rfl, hx⟩ hD s2 gD hacc Nx kN
      obtain ⟨pr, hpr', r⟩ := h2.at hx
      obtain ⟨t, xa, ya, rfl, hq, wx, wy⟩ := r.same s2
      obtain ⟨b1, b2, b3, b4⟩ := hpr pr (List.mem_of_getElem? hpr')
      refine ⟨t, _, rfl, hq, rfl, _, _, rfl, _, _, rfl, rfl, rfl, yes_te ?_⟩
      obtain ⟨d1, f1, e1, e2⟩ := wx.at nm1.1 nm1.2.1 nm1.2.2.1 nm1.2.2.2.1 nm1.2.2.2.2
      refine ⟨_, rfl, _, rfl, _, rfl, xa, d1, f1, rfl, e1, e2, xa, pr.1, rfl, wx, b1, b3, fun cx H4 s4 wcx => ?_⟩
      have wy4 := wy.same s4
      obtain ⟨d2, f2, e3, e4⟩ := wy4.at nm1.1 nm1.2.1 nm1.2.2.1 nm1.2.2.2.1 nm1.2.2.2.2
      refine ⟨_, rfl, ya, d2, f2, rfl, e3, e4, ya, pr.2, rfl, wy4, b2, b4, fun cy H5 s5 wcy => ?_⟩
      refine ⟨by show 4 ≤ sizeLine; decide, fun t6 H6 s6 B6 => ⟨t6, rfl, ⟨_, B6.sq⟩, ?_⟩⟩
      have s36 := (s4.trans s5).trans s6
      have gD6 := s36 _ _ gD
      have w1 := WordAt.keptL gD6 kept_off (wx.same s36)
      have w2 := WordAt.keptL gD6 kept_off (wy4.same (s5.trans s6))
      have w3 := WordAt.keptL gD6 kept_off (wcx.same (s5.trans s6))
      have w4 := WordAt.keptL gD6 kept_off (wcy.same s6)
      have B6o := SqB.keptL gD6 kept_off B6
      have la := hacc.length
      have lo := outW_len prs i
      refine lc2_in (walk_tup (K := K) (a := t6) (xs := [.ref xa, .ref ya, .ref cx, .ref cy])) (fun y => y) off_D off_same gD6 (by show acc.length + 4 < 40000; omega) (fun H s => (SqB.same s B6o).sq) ?_ ?_
      · intro y hy H7 s7 Qy ky Qn
        exact ⟨rfl, yes_te ⟨_, rfl, ky H7 (fun _ _ e => e)⟩⟩
      · intro H7 s7 g7
        have so : Same (off D H6) (off D H7) := off_to s7
        refine kN H7 _ (fun b o e => s7 _ _ (off_of hD (s2.trans s36) b o e)) g7 ?_
        have eo : outW prs i = [pr.1, pr.2, Fr.con pr.1, Fr.con pr.2] := by
          unfold outW
          rw [hpr']
        rw [eo]
        exact All2.app (hacc.imp fun _ _ r => (r.same (off_all s36)).same so) (.cons ⟨xa, rfl, w1.same so⟩ (.cons ⟨ya, rfl, w2.same so⟩ (.cons ⟨cx, rfl, w3.same so⟩ (.cons ⟨cy, rfl, w4.same so⟩ .nil))))
    · intro D H2 acc hD s2 gD hacc
      rw [lt, outW_all] at hacc
      exact k D H2 acc hD s2 gD (hacc.imp fun _ _ r => r.same off_same)
theorem ok_MOE {f : Addr} {fd : FuncData} (F : Fun K "mates_of_exchanges" "mates_of_exchanges" sMOE f fd) (N : TN mg) (T : TxW K mg C)  : FnOk P w K mg base CX0 1 f fd ["words"] (spMOE K C) := by
  refine F.ok scMOE (fun vs H Q E h => ?_) (fun cdv A outer s H vs Q E hr h => ?_)
  · obtain ⟨a, us, ws, rfl, _⟩ := h
    rfl
  · obtain ⟨a, us, ws, rfl, ha, h2, l4, l48, l60, k⟩ := h
    refine ⟨_, pss_cons (ps_set (i := 1) scMOE.nd rfl (Or.inr rfl) (pe_lst (pa_cons pe_int pa_nil)))
      (pss_cons (ps_for PassesOwn.never rfl (pi_list (pv 0)) (pg_name (i := 2) scMOE.nd rfl (Or.inl rfl))
      (pss_one (ps_expr (pe_bm PySem.F.plainAttrs_list PySem.F.slot_list_append PySem.F.type_list_append mt_append (pv 1) (pa_cons (pe_op op_add (pe_ix ix_list (pv 1) (pe_un un_neg pe_int) (fun _ _ => rfl)) (pe_fld (pv 2) rfl)) pa_nil)))))
      (pss_cons (ps_set (i := 3) scMOE.nd rfl (Or.inl rfl) (pe_lst pa_nil))
      (pss_cons (ps_for PassesOwn.never rfl (pi_enum (by rfl) N.enumerate (pa_cons (pv 0) pa_nil)) (pg_tup (n := 2) rfl (pgs_cons (pg_name (i := 4) scMOE.nd rfl (Or.inl rfl)) (pgs_cons (pg_name (i := 2) scMOE.nd rfl (Or.inl rfl)) pgs_nil)))
      (pss_cons (ps_set (i := 5) scMOE.nd rfl (Or.inr rfl) (pe_ifExp (pt_cmpR op_lt (pe_op op_mod (pv 4) pe_int) pe_int (nomark _)) (pe_op op_add (pv 4) pe_int) (pe_op op_sub (pv 4) pe_int)))
      (pss_one (ps_expr (pe_bm PySem.F.plainAttrs_list PySem.F.slot_list_extend PySem.F.type_list_extend mt_extend (pv 3) (pa_cons (pe_lc (own := [("place", 6)]) (g := gName 6) (tt := tYes) rfl scMOE.nd (pi_range1 (by rfl) N.range (pa_cons (pe_fld (pv 2) rfl) pa_nil)) (blkOk_by (N := nMOE) (sc := defScope sMOE) (by decide +kernel)) (fun _ _ _ _ _ => (pg_name (i := 6) scMOE.nd rfl (Or.inl rfl))) (fun _ _ _ _ _ => pts_nil) (fun _ _ _ _ _ => (pe_op op_sub (pe_op op_sub (pe_ix (ixl (K := K) rfl) (pv 1) (pe_op op_add (pv 5) pe_int) (fun _ _ => rfl)) pe_int) (pv 6)))) pa_nil))))))
      (pss_one (ps_ret (pv 3)))))), ?_⟩
    have lu := h2.length
    refine ⟨by show 1 ≤ sizeLine; decide, fun st hst => ?_⟩
    have s1 := same_upd (o := .lst [.int 0]) hst
    have g1 : L2.upd H st (.lst [.int 0]) st = some (.lst (iv ((List.range 1).map (sX ws)))) := upd_same
    obtain ⟨H1, e1⟩ : ∃ H1, H1 = L2.upd H st (.lst [.int 0]) := ⟨_, rfl⟩
    rw [← e1] at s1 g1 ⊢
    try dsimp only
    refine at_set ?_
    try dsimp only
    have nas : a ≠ st := fun z => by rw [z, hst] at ha; cases ha
    refine ⟨_, rfl, a, rfl, ⟨_, SqL.of (s1 _ _ ha)⟩, ?_⟩
    refine for_list (K := K) (a := a) (xs := us) (fun i σ H' => ∃ v2 : Option V, σ = [some (.ref a), some (.ref st), v2, none, none, none, none] ∧ Same H H' ∧ H' st = some (.lst (iv ((List.range (i + 1)).map (sX ws))))) ⟨none, rfl, s1, g1⟩ (fun i σ H' _ ⟨_, _, s, _⟩ => SqL.of (s _ _ ha)) ?_ ?_
    · rintro i x σ H3 hi ⟨v2, rfl, s3, g3⟩
      obtain ⟨wd, hwd, p, rfl, Wp⟩ := h2.at hi
      obtain ⟨dx, tl, tk, ks, w1, w2, w3, w4⟩ := Wp.same s3
      have hil : i < ws.length := (List.getElem?_eq_some_iff.mp hwd).1
      have e3 : iv ((List.range (i + 1)).map (sX ws)) = iv ((List.range i).map (sX ws)) ++ [.int (sX ws i)] := by
        unfold iv
        rw [List.range_succ, List.map_append, List.map_append]
        rfl
      rw [e3] at g3
      have len : (iv ((List.range i).map (sX ws)) ++ [V.int (sX ws i)]).length = i + 1 := by simp [iv]
      try dsimp only
      refine ⟨_, rfl, .inl ⟨rfl, _, SqL.of g3⟩, _, rfl, _, rfl, st, _, _, _, rfl, rfl, SqL.of g3, atI_end, _, rfl, p, C, dx, _, _, rfl, w1, T.cl, T.nN, wf_length, _, _, rfl, rfl, st, _, _, rfl, rfl, g3, Evl.sz_lt (by rw [len]; omega), ?_⟩
      refine ⟨_, rfl, fun b o e => ?_, ?_⟩
      · rw [upd_ne (ne_of_none e hst)]
        exact s3 _ _ e
      · rw [upd_same]
        have e5 : iv ((List.range (i + 1 + 1)).map (sX ws)) = iv ((List.range i).map (sX ws)) ++ [.int (sX ws i)] ++ [.int (sX ws (i + 1))] := by
          rw [← e3]
          unfold iv
          rw [List.range_succ (n := i + 1), List.map_append, List.map_append]
          rfl
        rw [e5, sX_succ hwd]
    rintro σ H3 ⟨v2, rfl, s3, g3⟩
    rw [lu] at g3
    try dsimp only
    refine ⟨Nat.zero_le _, fun m hm => ?_⟩
    have sm := same_upd (o := .lst []) hm
    have gm4 : L2.upd H3 m (.lst []) m = some (.lst []) := upd_same
    have s4 := s3.trans sm
    have g4 := sm _ _ g3
    have mH : H m = none := s3.free hm
    have nms : st ≠ m := fun z => by rw [z, hm] at g3; cases g3
    obtain ⟨H4, e4⟩ : ∃ H4, H4 = L2.upd H3 m (.lst []) := ⟨_, rfl⟩
    rw [← e4] at gm4 s4 g4 ⊢
    try dsimp only
    refine at_set ?_
    try dsimp only
    refine ⟨_, rfl, a, us, rfl, SqL.of (s4 _ _ ha), ?_⟩
    refine for_it (walk_enum (K := K) (a := a) (xs := us)) (fun i σ H' => ∃ v2 v4 v5 : Option V, σ = [some (.ref a), some (.ref st), v2, some (.ref m), v4, v5, none] ∧ Same H H' ∧ H' st = some (.lst (iv ((List.range (ws.length + 1)).map (sX ws)))) ∧ H' m = some (.lst (iv (((List.range i).map (rwX ws)).flatten))))
      ⟨_, none, none, rfl, s4, g4, gm4⟩ (fun i σ H' _ ⟨_, _, _, _, s, _⟩ => SqL.of (s _ _ ha)) ?_ ?_
    · rintro i x σ H5 H6 hi ⟨v2', v4, v5, rfl, s5, g5, gm5⟩ ⟨T0, xi, yi, rfl, hT0, rfl, hx, hy⟩
      obtain rfl := Option.some.inj hx
      have hy : us[i]? = some yi := hy
      obtain ⟨wd, hwd, p, rfl, Wp⟩ := h2.at hy
      have hil : i < ws.length := (List.getElem?_eq_some_iff.mp hwd).1
      have sT := same_upd (o := .tup [.int (i : Int), .ref p]) hT0
      have gT : L2.upd H5 T0 (.tup [.int (i : Int), .ref p]) T0 = some (.tup [.int (i : Int), .ref p]) := upd_same
      have s6 := s5.trans sT
      have g6 := sT _ _ g5
      have gm6 := sT _ _ gm5
      generalize L2.upd H5 T0 (.tup [.int (i : Int), .ref p]) = H6 at sT gT s6 g6 gm6 ⊢
      refine ⟨T0, _, rfl, SqT.of gT, rfl, _, _, rfl, _, _, rfl, rfl, ?_⟩
      try dsimp only
      refine seq_asg ?_
      refine if_behind rfl ?_
      try dsimp only
      refine at_set ?_
      try dsimp only
      obtain ⟨dx, tl, tk, ks, w1, w2, w3, w4⟩ := Wp.same s6
      have bh : bhX i + 1 < ws.length + 1 := by
        unfold bhX
        split <;> omega
      have lwd : wd.length ≤ 60 := Nat.le_trans (word_le (List.mem_of_getElem? hwd)) l60
      refine ext_lc ?_
      refine ⟨_, rfl, .inl ⟨rfl, _, SqL.of gm6⟩, _, rfl, p, C, dx, _, _, rfl, w1, T.cl, T.nN, wf_length, _, rfl, by omega, by omega, ?_⟩
      rw [Int.toNat_natCast]
      have gat : (iv ((List.range (ws.length + 1)).map (sX ws)))[bhX i + 1]? = some (.int (sX ws (bhX i + 1))) := by
        unfold iv
        rw [List.getElem?_map, List.getElem?_map, List.getElem?_range bh]
        rfl
      refine lcRM (fun _ => true) (fun _ v t => v = V.int (sX ws (bhX i + 1) - 1 - ((t : Nat) : Int))) (fun _ _ _ _ h _ => h) (fun _ _ _ _ _ _ _ h => h) (by omega) ?_ ?_
      · intro t ht H7 s7 Qy Qn ky kn
        refine ⟨rfl, yes_te ?_⟩
        exact ⟨_, rfl, _, rfl, _, _, rfl, rfl, st, _, _, _, rfl, rfl, SqL.of (s7 _ _ g6), atI_nat (j := bhX i + 1) gat, _, _, rfl, rfl, _, rfl, _, _, rfl, rfl, ky rfl _ H7 (Same.refl _) rfl⟩
      · intro D H7 vs hD s7 gD hv
        rw [List.filter_eq_self.mpr (fun _ _ => rfl)] at hv
        have ev : vs = iv (rwX ws i) := by
          unfold rwX iv
          rw [List.getD_eq_getElem?_getD, hwd]
          show vs = ((List.range wd.length).map _).map _
          rw [List.map_map]
          have : ∀ {vs : List V} {qs : List Nat}, All2 (fun v t => v = V.int (sX ws (bhX i + 1) - 1 - ((t : Nat) : Int))) vs qs → vs = qs.map (V.int ∘ fun t => sX ws (bhX i + 1) - 1 - ((t : Nat) : Int)) := by
            intro vs qs h
            induction h with
            | nil => rfl
            | cons h1 _ ih => rw [h1, ih]; rfl
          exact this hv
        subst ev
        have gm7 := s7 _ _ gm6
        have l1 := mt_len (ws := ws) i (by omega)
        have l2 := mt_len (ws := ws) (i + 1) (by omega)
        have l3 : (ws.take (i + 1)).flatten.length ≤ 60 := by
          refine Nat.le_trans ?_ l60
          have := congrArg (fun z : List (List Int) => z.flatten.length) (List.take_append_drop (i + 1) ws)
          rw [List.flatten_append, List.length_append] at this
          omega
        have efl : ((List.range (i + 1)).map (rwX ws)).flatten = ((List.range i).map (rwX ws)).flatten ++ rwX ws i := by
          rw [List.range_succ, List.map_append, List.flatten_append]
          simp
        refine ⟨m, D, _, _, rfl, rfl, gm7, gD, Evl.sz_of (by
          unfold iv
          rw [← List.length_append, ← List.map_append, ← efl, List.length_map]
          omega), ?_⟩
        refine ⟨_, _, _, rfl, fun b o e => ?_, ?_, ?_⟩
        · rw [upd_ne (ne_of_none e mH)]
          exact s7 _ _ (s6 _ _ e)
        · rw [upd_ne nms]
          exact s7 _ _ g6
        · rw [upd_same, efl]
          unfold iv
          rw [List.map_append]
    · rintro σ H5 ⟨v2', v4, v5, rfl, s5, g5, gm5⟩
      rw [lu] at gm5
      exact ⟨_, rfl, k m H5 mH s5 gm5⟩
end
end W33
set_option Elab.async false
set_option linter.all false
set_option maxRecDepth 100000
set_option maxHeartbeats 1000000
namespace W33
open PySem L2 PySem.Spec PyProof.Rows WR WB WE WS
/-! ### the sewing of pairs of words -/
theorem or_all_lc2 {r : List V → Hp → VK → Prop} {wi wi1 : TI} {g g1 : TG} {tt tt1 : TT} {te : TE} {vs vs1 : List Nat} {σ : L2.St} {H : Hp} {Q : Bool → Hp → Prop}
    (h : wi σ H fun J H1 => tLc2 (fun _ H R => R J H) g tt wi1 g1 tt1 te vs vs1 σ H1 fun y H2 => r [y] H2 fun z H3 => ∃ c, z = .bl c ∧ Q (!c) H3) : tNot (tB (tCB r (tCons (tLc2 wi g tt wi1 g1 tt1 te vs vs1) tNil))) σ H Q := h
theorem nx_drop_lc2 {sp : Sp} {r : List V → Hp → VK → Prop} {wi wi1 : TI} {g g1 : TG} {tt tt1 : TT} {te : TE} {vs vs1 : List Nat} {B : TS} {D : Ends} {σ : L2.St} {H : Hp} {rt : VK} {b1 b2 : L2.St → Hp → Prop}
    (h : wi σ H fun J H1 => tLc2 (fun _ H R => R J H) g tt wi1 g1 tt1 te vs vs1 σ H1 fun y H2 => r [y] H2 fun z H3 => sp ([z] ++ []) H3 (fun _ H4 => B D σ H4) E0) : tNext { nx := tSeq (tDrop (tCall sp [] E0 (tCons (tCB r (tCons (tLc2 wi g tt wi1 g1 tt1 te vs vs1) tNil)) tNil))) B D, rt := rt, bk := b1, ct := b2 } σ H := h
theorem seq_lc2 {wi wi1 : TI} {g g1 gg : TG} {tt tt1 : TT} {te : TE} {vs vs1 : List Nat} {B : TS} {D : Ends} {σ : L2.St} {H : Hp}
    (h : wi σ H fun J H1 => tLc2 (fun _ H R => R J H) g tt wi1 g1 tt1 te vs vs1 σ H1 fun z H4 => gg z σ H4 (B D)) : tSeq (tAsg (tLc2 wi g tt wi1 g1 tt1 te vs vs1) gg) B D σ H := h
/-- Rims([Word(letters)]) -/
theorem mk_ring {K : PySem.W.Frag} {C CR : Addr} {te : TE} {σ : L2.St} {H : Hp} {Q : VK} {l : Addr} {w : List Int} (ht : ∀ Q' : VK, Q' (.ref l) H → te σ H Q') (hl : SqL K H l (iv w)) (ok : RimOk [w]) (k : ∀ rp H' xs, Same H H' → RimsAt K C CR H' rp xs [w] → Q (.ref rp) H') :
    tMake CR (spInitR K C CR) [] E0 (tCons (tLst (tCons (tMake C (spInit K C) [] E0 (tCons te tNil)) tNil)) tNil) σ H Q := by
  have o4 := ok.2.2.2.1
  have o5 := ok.2.2.2.2.1
  rw [flat1] at o4 o5
  refine ht _ ?_
  intro x dx nx ndx _
  refine make_at nx ndx (.inl hl) (by omega) o5 fun H1 s1 W1 => ?_
  refine ⟨by show 1 ≤ sizeLine; decide, fun O hO => ?_⟩
  have s2 := same_upd (o := .lst [.ref x]) hO
  intro px dpx npx ndpx _
  exact rims_at npx ndpx (SqL.of (show L2.upd H1 O (.lst [.ref x]) O = some (.lst ([x].map V.ref)) from upd_same)) (.cons (W1.same s2) .nil) ok fun H6 s6 R6 => k px H6 [x] ((s1.trans s2).trans s6) R6
theorem mk_args {C' : Addr} {sp : Sp} {E : XK} {te : TE} {tr : TA} {σ : L2.St} {H : Hp} {Q : VK} (h : te σ H fun x H1 => tr σ H1 fun xs H2 => ∀ y dy : Addr, H2 y = none → H2 dy = none → dy ≠ y → sp (.ref y :: (x :: xs ++ [])) (L2.upd (L2.upd H2 dy (.own y)) y (.ins C' dy [])) (fun v H3 => v = .non ∧ Q (.ref y) H3) E) : tMake C' sp [] E (tCons te tr) σ H Q := h
theorem WordAt.len_eq {K : PySem.W.Frag} {C : Addr} {H : Hp} {p : Addr} {a b : List Int} (h1 : WordAt K C H p a) (h2 : WordAt K C H p b) : a.length = b.length := by
  obtain ⟨dx, tl, tk, ks, w1, _⟩ := h1
  obtain ⟨dy, ul, uk, js, v1, _⟩ := h2
  have e := w1.symm.trans v1
  injection e with e
  injection e with _ _ e
  unfold wf at e
  simp at e
  omega
theorem const_fl {v : V} : ∀ n, ((List.range n).map fun _ => [v, v]).flatten = List.replicate (2 * n) v
  | 0 => rfl
  | n + 1 => by
    rw [List.range_succ, List.map_append, List.flatten_append, const_fl n, show 2 * (n + 1) = 2 * n + 2 by omega, ← List.replicate_append_replicate]
    rfl
def sumL (prs : List (List Int × List Int)) : List Int := (prs.map fun p => [2 * (p.1.length : Int), 2 * (p.2.length : Int)]).flatten
def outS (prs : List (List Int × List Int)) (i : Nat) : List V := match prs[i]? with | some p => [.int (2 * (p.1.length : Int)), .int (2 * (p.2.length : Int))] | none => []
theorem outS_all (prs : List (List Int × List Int)) : ((List.range prs.length).map (outS prs)).flatten = iv (sumL prs) := by
  unfold sumL iv
  rw [List.map_flatten, List.map_map]
  congr 1
  refine List.ext_getElem (by simp) fun i h1 h2 => ?_
  have hi : i < prs.length := by simpa using h1
  rw [List.getElem_map, List.getElem_map, List.getElem_range]
  unfold outS
  rw [List.getElem?_eq_getElem hi]
  rfl
theorem outS_len (prs : List (List Int × List Int)) : ∀ i, (((List.range i).map (outS prs)).flatten).length ≤ 2 * i
  | 0 => Nat.le_refl _
  | i + 1 => by
    have ih := outS_len prs i
    rw [List.range_succ, List.map_append, List.flatten_append, List.length_append]
    have : ([i].map (outS prs)).flatten.length ≤ 2 := by
      show ([outS prs i].flatten).length ≤ 2
      unfold outS
      cases prs[i]? <;> simp
    omega
theorem sum_ring : ∀ prs : List (List Int × List Int), (sumL prs).sum = ((ringWs prs).flatten.length : Int)
  | [] => rfl
  | p :: r => by
    have ih := sum_ring r
    have e1 : sumL (p :: r) = [2 * (p.1.length : Int), 2 * (p.2.length : Int)] ++ sumL r := by unfold sumL; simp
    have e2 : ringWs (p :: r) = [p.1, p.2, Fr.con p.1, Fr.con p.2] ++ ringWs r := by unfold ringWs; simp
    rw [e1, e2, List.sum_append, ih, List.flatten_append, List.length_append]
    simp [Fr.con_length]
    omega
theorem ring_mem {prs : List (List Int × List Int)} {p : List Int × List Int} (hp : p ∈ prs) : p.1.length ≤ (ringWs prs).flatten.length ∧ p.2.length ≤ (ringWs prs).flatten.length := by
  have h1 : p.1 ∈ ringWs prs := List.mem_flatten.mpr ⟨[p.1, p.2, Fr.con p.1, Fr.con p.2], List.mem_map.mpr ⟨p, hp, rfl⟩, by simp⟩
  have h2 : p.2 ∈ ringWs prs := List.mem_flatten.mpr ⟨[p.1, p.2, Fr.con p.1, Fr.con p.2], List.mem_map.mpr ⟨p, hp, rfl⟩, by simp⟩
  exact ⟨word_le h1, word_le h2⟩
theorem ring_len4 : ∀ prs : List (List Int × List Int), (ringWs prs).length = 4 * prs.length
  | [] => rfl
  | p :: r => by
    have ih := ring_len4 r
    have e2 : ringWs (p :: r) = [p.1, p.2, Fr.con p.1, Fr.con p.2] ++ ringWs r := by unfold ringWs; simp
    have l1 : (p :: r).length = r.length + 1 := rfl
    rw [e2, List.length_append, ih, l1]
    show 4 + 4 * r.length = 4 * (r.length + 1)
    omega
def ringW (prs : List (List Int × List Int)) : List Int := (ringWs prs).flatten
def ringM (prs : List (List Int × List Int)) : List Int := mtX (ringWs prs)
def spSO (K : PySem.W.Frag) (C CR CS : Addr) : Sp := fun vs H Q _ => ∃ (a : Addr) (ts : List V) (prs : List (List Int × List Int)), vs = [.ref a] ∧ H a = some (.lst ts) ∧ All2 (PrW K C H) ts prs ∧ 1 ≤ prs.length ∧ prs.length ≤ 12 ∧ (∀ p ∈ prs, p.1 ≠ [] ∧ p.2 ≠ [] ∧ Lts p.1 ∧ Lts p.2) ∧ RimOk [ringW prs] ∧ MatOk (ringW prs) (ringM prs) ∧ ∀ q H' rq xs, Same H H' → SewAt K C CR CS H' q rq xs [ringW prs] (ringM prs) → Q (.ref q) H'
abbrev sSO : Stmt := top 70
abbrev nSO : List Str := ["pairs", "words", "letters", "pair", "word", "letter"]
theorem scSO : FnScope nSO ["pairs"] (defScope sSO) := ⟨rfl, rfl, rfl, by decide +kernel, rfl, by decide +kernel, by decide +kernel⟩
section
variable {P : Program} {w : World} {K : PySem.W.Frag} {mg : Str → Option Value} {base : Heap} {C CR CS CBS CMF CNP : Addr}
theorem ok_SO {f : Addr} {fd : FuncData} (F : Fun K "sewing_of" "sewing_of" sSO f fd) (N : TN mg) (T : TxW K mg C) (TC : TxRC K mg CR) (TS : TxSC K mg CS) (MW : MkW P w K mg base C) (MR : MkR P w K mg base C CR) (MS : MkS P w K mg base C CR CS) (hsum : mg "sum" = none) (GF : Cal P w K mg base "is_filled" 1 ["value"] (spFilled K C)) (G_need_word_pairs : Cal P w K mg base "need_word_pairs" 4 ["value", "part"] (spNWP K C)) (G_need_few_places : Cal P w K mg base "need_few_places" 1 ["many"] (spFewP)) (G_words_of_exchanges : Cal P w K mg base "words_of_exchanges" 7 ["pairs"] (spWOE K C)) (G_mates_of_exchanges : Cal P w K mg base "mates_of_exchanges" 1 ["words"] (spMOE K C)) (GF : Cal P w K mg base "is_filled" 1 ["value"] (spFilled K C)) : FnOk P w K mg base CX0 8 f fd ["pairs"] (spSO K C CR CS) := by
  refine F.ok scSO (fun vs H Q E h => ?_) (fun cdv A outer s H vs Q E hr h => ?_)
  · obtain ⟨a, ts, prs, rfl, _⟩ := h
    rfl
  · obtain ⟨a, ts, prs, rfl, ha, h2, l1, l12, hpr, ok, mok, k⟩ := h
    refine ⟨_, pss_cons (ps_expr (pe_cal G_need_word_pairs hr (by decide) (by rfl) (pa_cons (pv 0) (pa_cons pe_str pa_nil))))
      (pss_cons (ps_if (PW.pt (pw_or (pt_not (pt_truth (pv 0) (by intro _; rfl))) (pw_or1 (pt_not (pt_val (pe_callB (cr_all rfl) (by rfl) T.all (by decide +kernel) (pa_cons (pe_lc2 (own := [("pair", 3), ("word", 4)]) (vs1 := [4]) (g := gName 3) (tt := tYes) (g1 := gName 4) (tt1 := tYes) rfl scSO.nd (pi_list (pv 0)) (blkOk_by (N := nSO) (sc := defScope sSO) (by decide +kernel)) (by decide) (fun _ _ _ _ _ => pg_name (i := 3) scSO.nd rfl (Or.inl rfl)) (fun _ _ _ _ _ => pts_nil) (fun _ _ _ _ _ => pi_tupK (K := K) rfl (pv 3)) (fun _ _ _ _ _ => pg_name (i := 4) scSO.nd rfl (Or.inl rfl)) (fun _ _ _ _ _ => pts_nil) (fun _ _ _ _ _ => pe_cal GF hr (by decide) (by rfl) (pa_cons (pv 4) pa_nil))) pa_nil))))))) (pss_one ps_never) pss_nil)
      (pss_cons (ps_expr (pe_cal G_need_few_places hr (by decide) (by rfl) (pa_cons (pe_callB (cr_sum rfl) (by rfl) hsum (by decide +kernel) (pa_cons (pe_lc2 (own := [("pair", 3), ("word", 4)]) (vs1 := [4]) (g := gName 3) (tt := tYes) (g1 := gName 4) (tt1 := tYes) rfl scSO.nd (pi_list (pv 0)) (blkOk_by (N := nSO) (sc := defScope sSO) (by decide +kernel)) (by decide) (fun _ _ _ _ _ => pg_name (i := 3) scSO.nd rfl (Or.inl rfl)) (fun _ _ _ _ _ => pts_nil) (fun _ _ _ _ _ => pi_tupK (K := K) rfl (pv 3)) (fun _ _ _ _ _ => pg_name (i := 4) scSO.nd rfl (Or.inl rfl)) (fun _ _ _ _ _ => pts_nil) (fun _ _ _ _ _ => pe_op op_mul pe_int (pe_fldK (K := K) rfl (pv 4) rfl))) pa_nil)) pa_nil)))
      (pss_cons (ps_set (i := 1) scSO.nd rfl (Or.inl rfl) (pe_cal G_words_of_exchanges hr (by decide) (by rfl) (pa_cons (pv 0) pa_nil)))
      (pss_cons (ps_setLc2 (i := 2) (own := [("word", 4), ("letter", 5)]) (vs1 := [5]) (g := gName 4) (tt := tYes) (g1 := gName 5) (tt1 := tYes) rfl scSO.nd rfl rfl (sw_true rfl rfl rfl (by decide +kernel)) (pi_list (pv 1)) (blkOk_by (N := nSO) (sc := defScope sSO) (by decide +kernel)) (by decide) (fun _ _ _ _ _ => pg_name (i := 4) scSO.nd rfl (Or.inl rfl)) (fun _ _ _ _ _ => pts_nil) (fun _ _ _ _ _ => pi_tupK (K := K) rfl (pe_fldK (K := K) rfl (pv 4) rfl)) (fun _ _ _ _ _ => pg_name (i := 5) scSO.nd rfl (Or.inl rfl)) (fun _ _ _ _ _ => pts_nil) (fun _ _ _ _ _ => pv 5))
      (pss_one (ps_ret (pe_sewK rfl MS TS hr (by decide) (by rfl) (pa_cons (pe_rims (mg := mg) MR TC hr (by decide) (by rfl) (pa_cons (pe_lst (pa_cons (pe_word MW T hr (by decide) (by rfl) (pa_cons (pv 2) pa_nil)) pa_nil)) pa_nil)) (pa_cons (pe_cal G_mates_of_exchanges hr (by decide) (by rfl) (pa_cons (pv 1) pa_nil)) pa_nil))))))))), ?_⟩
    have lt := h2.length
    have lw : (ringWs prs).flatten.length ≤ 24 := by
      have := ok.2.2.2.1
      rw [flat1] at this
      exact this
    have hpr2 : ∀ p ∈ prs, p.1.length ≤ 500 ∧ p.2.length ≤ 500 ∧ Lts p.1 ∧ Lts p.2 := fun p hp => by
      obtain ⟨m1, m2⟩ := ring_mem hp
      exact ⟨by omega, by omega, (hpr p hp).2.2.1, (hpr p hp).2.2.2⟩
    refine ⟨_, rfl, a, _, ts, prs, rfl, ha, h2, l12, fun H1 s1 => ?_⟩
    have ha1 := s1 _ _ ha
    refine ⟨_, rfl, true, ?_, ?_⟩
    · refine .inl ⟨ts, SqL.of ha1, ?_⟩
      cases ts with
      | nil => simp at lt; omega
      | cons x r => rfl
    refine iteF ?_
    refine or_all_lc2 ?_
    refine ⟨_, rfl, a, rfl, ⟨_, SqL.of ha1⟩, ?_⟩
    refine lc2_out (walk_list (K := K) (a := a) (xs := ts)) (fun _ => [.bl true, .bl true]) (fun H s => SqL.of (s _ _ ha1)) ?_ ?_
    · rintro i x D H2 H3 hi ⟨rfl, hx⟩ hD s2 gD Nx kN
      obtain ⟨pr, hpr', r⟩ := h2.at hx
      obtain ⟨t, xa, ya, rfl, hq, wx, wy⟩ := r.same s1
      obtain ⟨b1, b2, _, _⟩ := hpr pr (List.mem_of_getElem? hpr')
      refine ⟨rfl, yes_te ?_⟩
      refine ⟨_, rfl, t, rfl, ⟨_, WR.Same.seqT s2 hq⟩, ?_⟩
      refine lc2_in (walk_tup (K := K) (a := t) (xs := [.ref xa, .ref ya])) (fun _ => .bl true) hD s2 gD ?_ (fun H s => WR.Same.seqT s hq) ?_ ?_
      · rw [const_fl, List.length_replicate]
        show 2 * i + 2 < 40000
        omega
      · intro y hy H4 s4 Qy ky Qn
        have kk := ky H4 (Same.refl _)
        simp only [List.mem_cons, List.mem_nil_iff, or_false] at hy
        rcases hy with rfl | rfl
        · refine ⟨rfl, yes_te ⟨_, rfl, xa, pr.1, rfl, wx.same s4, ?_⟩⟩
          rw [decide_eq_true (by have := List.length_pos_iff.mpr b1; omega)]
          exact kk
        · refine ⟨rfl, yes_te ⟨_, rfl, ya, pr.2, rfl, wy.same s4, ?_⟩⟩
          rw [decide_eq_true (by have := List.length_pos_iff.mpr b2; omega)]
          exact kk
      · intro H4 s4 g4
        exact kN H4 s4 g4
    intro D H2 hD s2 gD
    rw [const_fl] at gD
    refine ⟨D, List.replicate (2 * ts.length) true, rfl, SqL.of (by rw [gD, List.map_replicate]), ?_⟩
    rw [show (List.replicate (2 * ts.length) true).all id = true by simp]
    refine ⟨_, rfl, iteF' (by rfl) ?_⟩
    -- few places
    have s02 := s1.trans s2
    have ha2 := s02 _ _ ha
    try dsimp only
    refine nx_drop_lc2 ?_
    refine ⟨_, rfl, a, rfl, ⟨_, SqL.of ha2⟩, ?_⟩
    refine lc2_out (walk_list (K := K) (a := a) (xs := ts)) (outS prs) (fun H s => SqL.of (s _ _ ha2)) ?_ ?_
    · rintro i x D H3 H4 hi ⟨rfl, hx⟩ hD s3 gD Nx kN
      obtain ⟨pr, hpr', r⟩ := h2.at hx
      obtain ⟨t, xa, ya, rfl, hq, wx, wy⟩ := r.same s02
      refine ⟨rfl, yes_te ?_⟩
      refine ⟨_, rfl, t, rfl, ⟨_, WR.Same.seqT s3 hq⟩, ?_⟩
      refine lc2_in (walk_tup (K := K) (a := t) (xs := [.ref xa, .ref ya])) (fun y => if y = .ref xa then .int (2 * (pr.1.length : Int)) else .int (2 * (pr.2.length : Int))) hD s3 gD ?_ (fun H s => WR.Same.seqT s hq) ?_ ?_
      · have := outS_len prs i
        show _ + 2 < 40000
        omega
      · intro y hy H5 s5 Qy ky Qn
        have kk := ky H5 (Same.refl _)
        by_cases c : y = .ref xa
        · rw [if_pos c] at kk
          subst c
          obtain ⟨dx, tl, tk, ks, w1, _⟩ := wx.same s5
          exact ⟨rfl, yes_te ⟨_, rfl, xa, C, dx, _, _, rfl, w1, T.cl, T.nN, wf_length, _, _, rfl, rfl, .inl ⟨by decide, by decide⟩, kk⟩⟩
        · rw [if_neg c] at kk
          simp only [List.mem_cons, List.mem_nil_iff, or_false] at hy
          obtain rfl := hy.resolve_left c
          obtain ⟨dx, tl, tk, ks, w1, _⟩ := wy.same s5
          exact ⟨rfl, yes_te ⟨_, rfl, ya, C, dx, _, _, rfl, w1, T.cl, T.nN, wf_length, _, _, rfl, rfl, .inl ⟨by decide, by decide⟩, kk⟩⟩
      · intro H5 s5 g5
        refine kN H5 s5 ?_
        have eo : outS prs i = [.int (2 * (pr.1.length : Int)), .int (2 * (pr.2.length : Int))] := by
          unfold outS
          rw [hpr']
        rw [g5, eo]
        congr 3
        show [(if V.ref xa = .ref xa then V.int (2 * (pr.1.length : Int)) else .int (2 * (pr.2.length : Int))), (if V.ref ya = .ref xa then V.int (2 * (pr.1.length : Int)) else .int (2 * (pr.2.length : Int)))] = _
        rw [if_pos rfl]
        by_cases c : (V.ref ya) = .ref xa
        · rw [if_pos c]
          injection c with c
          subst c
          rw [wx.len_eq wy]
        · rw [if_neg c]
    intro D2 H3 hD2 s3 g3
    rw [lt, outS_all] at g3
    refine ⟨D2, sumL prs, rfl, SqL.of g3, ?_⟩
    rw [sum_ring]
    refine ⟨_, rfl, by omega, ?_⟩
    have s03 := s02.trans s3
    -- their words
    refine ⟨_, rfl, a, ts, prs, rfl, s03 _ _ ha, h2.imp fun _ _ r => r.same s03, l12, hpr2, fun l H4 vs hl s4 g4 hvs => ?_⟩
    have s04 := s03.trans s4
    have lv := hvs.length
    try dsimp only
    refine at_set ?_
    try dsimp only
    refine seq_lc2 ?_
    refine ⟨_, rfl, l, rfl, ⟨_, SqL.of g4⟩, ?_⟩
    refine lc2_out (walk_list (K := K) (a := l) (xs := vs)) (fun i => iv ((ringWs prs).getD i [])) (fun H s => SqL.of (s _ _ g4)) ?_ ?_
    · rintro i x D H5 H6 hi ⟨rfl, hx⟩ hD s5 gD Nx kN
      obtain ⟨u, hu, p, rfl, Wp⟩ := hvs.at hx
      have eu : (ringWs prs).getD i [] = u := by rw [List.getD_eq_getElem?_getD, hu]; rfl
      obtain ⟨dx1, tl, tk, ks, w1, w2, _⟩ := Wp
      refine ⟨rfl, yes_te ?_⟩
      refine ⟨_, rfl, p, C, dx1, _, _, rfl, s5 _ _ w1, T.cl, T.nL, wf_letters, tl, rfl, ⟨_, (SqB.same s5 w2).sq⟩, ?_⟩
      have hft := flat_take hu
      refine lc2_in (walk_tup (K := K) (a := tl) (xs := iv u)) (fun y => y) hD s5 gD ?_ (fun H s => (SqB.same s w2).sq) ?_ ?_
      · rw [flat_to (by have := (List.getElem?_eq_some_iff.mp hu).1; omega)]
        rw [List.length_map, List.length_map]
        omega
      · intro y hy H7 s7 Qy ky Qn
        exact ⟨rfl, yes_te ⟨_, rfl, ky H7 (fun _ _ e => e)⟩⟩
      · intro H7 s7 h7
        refine kN H7 s7 ?_
        rw [h7, List.map_id', eu]
    intro D3 H5 hD3 s5 g5
    have eD : ((List.range vs.length).map fun i => iv ((ringWs prs).getD i [])).flatten = iv (ringW prs) := by
      rw [lv, flat_to (Nat.le_refl _), List.take_length]
      rfl
    rw [eD] at g5
    try dsimp only
    refine at_set ?_
    try dsimp only
    refine mk_args ?_
    refine mk_ring (l := D3) (w := ringW prs) (fun Q' q => ⟨_, rfl, q⟩) (SqL.of g5) ok fun rp H6 xs s6 R6 => ?_
    have l4 := ring_len4 prs
    refine ⟨_, rfl, l, vs, ringWs prs, rfl, (s5.trans s6) _ _ g4, hvs.imp fun _ _ r => r.same (s5.trans s6), by omega, by omega, by omega, fun m H7 hm s7 g7 => ?_⟩
    intro q dq nq ndq _
    exact sew_at nq ndq (R6.same s7) ok (.inl (SqL.of g7)) (by rw [flat1]; exact mok) fun H8 s8 S8 => k q H8 rp xs (((s04.trans s5).trans (s6.trans s7)).trans s8) S8
end
end W33
set_option Elab.async false
set_option linter.all false
set_option maxRecDepth 100000
set_option maxHeartbeats 4000000
namespace W33
open PySem L2 PySem.Spec PyProof.Rows WR WB WE WS
/-! ### the law's own: plain words and pairs -/
abbrev Pr : Type := List Int × List Int
abbrev sShL : Stmt := top 77
def spShL : Sp := fun vs H Q _ => ∃ (p : Addr) (ns : List Int), vs = [.ref p] ∧ H p = some (.lst (iv ns)) ∧ ns.length ≤ 1000 ∧ NewL H Q (Fr.shr ns)
def PPr (H : Hp) (v : V) (p : Pr) : Prop := ∃ q x y : Addr, v = .ref q ∧ H q = some (.tup [.ref x, .ref y]) ∧ H x = some (.lst (iv p.1)) ∧ H y = some (.lst (iv p.2))
def PRows (H : Hp) (a : Addr) (prs : List Pr) : Prop := ∃ vs, H a = some (.lst vs) ∧ All2 (PPr H) vs prs
theorem PPr.same {H H' : Hp} {v : V} {p : Pr} (h : PPr H v p) (s : Same H H') : PPr H' v p := by
  obtain ⟨q, x, y, e, h1, h2, h3⟩ := h
  exact ⟨q, x, y, e, s _ _ h1, s _ _ h2, s _ _ h3⟩
theorem PRows.same {H H' : Hp} {a : Addr} {prs : List Pr} (h : PRows H a prs) (s : Same H H') : PRows H' a prs := by
  obtain ⟨vs, h1, h2⟩ := h
  exact ⟨vs, s _ _ h1, h2.imp fun _ _ r => r.same s⟩
abbrev sWordL : Stmt := top 78
abbrev sPairsL : Stmt := top 79
abbrev sMade : Stmt := top 80
theorem small {x : Int} (h : x.natAbs ≤ 1000) : x.natAbs < 2 ^ 200 := Nat.lt_of_le_of_lt h (by decide)
theorem HandAt.iv_ne {H : Hp} {a c x : Addr} {n : Nat} {ns : List Int} (h : HandAt H a c n) (e : H x = some (.lst (iv ns))) : x ≠ a := by
  rintro rfl
  obtain ⟨cs, i, r, hA, _⟩ := h
  rw [hA] at e
  have e2 := Option.some.inj e
  injection e2 with e3
  cases ns with
  | nil => cases e3
  | cons y t =>
    have : V.ref c = V.int y := by
      have e4 : V.ref c :: _ = V.int y :: _ := e3
      injection e4
    cases this
theorem HandAt.tup_ne {H : Hp} {a c x : Addr} {n : Nat} {xs : List V} (h : HandAt H a c n) (e : H x = some (.tup xs)) : x ≠ a := by
  rintro rfl
  obtain ⟨cs, i, r, hA, _⟩ := h
  rw [hA] at e
  cases e
def PPrN (D : Addr) (H : Hp) (v : V) (p : Pr) : Prop := ∃ q x y : Addr, (q ≠ D ∧ x ≠ D ∧ y ≠ D) ∧ v = .ref q ∧ H q = some (.tup [.ref x, .ref y]) ∧ H x = some (.lst (iv p.1)) ∧ H y = some (.lst (iv p.2))
theorem PPrN.to {D : Addr} {H : Hp} {v : V} {p : Pr} (h : PPrN D H v p) : PPr H v p := by
  obtain ⟨q, x, y, _, e, h1, h2, h3⟩ := h
  exact ⟨q, x, y, e, h1, h2, h3⟩
theorem PPrN.drew {D a c : Addr} {m n : Nat} {H H' : Hp} {v : V} {p : Pr} (h : PPrN D H v p) (hH : HandAt H a c m) (d : Drew a c n H H') : PPrN D H' v p := by
  obtain ⟨q, x, y, e0, e, h1, h2, h3⟩ := h
  exact ⟨q, x, y, e0, e, d.2 _ _ (hH.tup_ne h1) h1, d.2 _ _ (hH.iv_ne h2) h2, d.2 _ _ (hH.iv_ne h3) h3⟩
theorem PPrN.put {D : Addr} {H : Hp} {v : V} {p : Pr} {o : HO} (h : PPrN D H v p) : PPrN D (L2.upd H D o) v p := by
  obtain ⟨q, x, y, ⟨n1, n2, n3⟩, e, h1, h2, h3⟩ := h
  exact ⟨q, x, y, ⟨n1, n2, n3⟩, e, by rw [upd_ne n1]; exact h1, by rw [upd_ne n2]; exact h2, by rw [upd_ne n3]; exact h3⟩
theorem PPrN.same {D : Addr} {H H' : Hp} {v : V} {p : Pr} (h : PPrN D H v p) (s : Same H H') : PPrN D H' v p := by
  obtain ⟨q, x, y, e0, e, h1, h2, h3⟩ := h
  exact ⟨q, x, y, e0, e, s _ _ h1, s _ _ h2, s _ _ h3⟩
def spWordL : Sp := fun vs H Q _ => ∃ (a c : Addr) (m k n : Nat), vs = [.ref a, .int (m : Int), .int (k : Int)] ∧ HandAt H a c n ∧ m ≤ 9 ∧ n ≤ 8000 ∧ 1 ≤ k ∧ k ≤ 26 ∧
  ∀ p H' ls, H p = none → Drew a c (n + 19) H H' → H' p = some (.lst (iv ls)) → ls.length ≤ m → (∀ x ∈ ls, 1 ≤ x.natAbs ∧ x.natAbs ≤ k) → Q (.ref p) H'
def okK (m k : Nat) (p : Pr) : Prop := p.1.length ≤ m ∧ p.2.length ≤ m ∧ (∀ x ∈ p.1, 1 ≤ x.natAbs ∧ x.natAbs ≤ k) ∧ (∀ x ∈ p.2, 1 ≤ x.natAbs ∧ x.natAbs ≤ k)
def okPr (p : Pr) : Prop := p.1.length ≤ 9 ∧ p.2.length ≤ 9 ∧ Lts p.1 ∧ Lts p.2
def spPairsL : Sp := fun vs H Q _ => ∃ (a c : Addr) (j m k n : Nat), vs = [.ref a, .int (j : Int), .int (m : Int), .int (k : Int)] ∧ HandAt H a c n ∧ j ≤ 12 ∧ m ≤ 9 ∧ n ≤ 7000 ∧ 1 ≤ k ∧ k ≤ 26 ∧
  ∀ p H' prs, H p = none → Drew a c (n + 500) H H' → PRows H' p prs → prs.length = j → (∀ q ∈ prs, okK m k q) → Q (.ref p) H'
def MPr (K : PySem.W.Frag) (C : Addr) (H : Hp) (v : V) (p : Pr) : Prop := ∃ q x y : Addr, v = .ref q ∧ H q = some (.tup [.ref x, .ref y]) ∧ WordAt K C H x p.1 ∧ WordAt K C H y p.2
theorem MPr.same {K : PySem.W.Frag} {C : Addr} {H H' : Hp} {v : V} {p : Pr} (h : MPr K C H v p) (s : Same H H') : MPr K C H' v p := by
  obtain ⟨q, x, y, e, h1, h2, h3⟩ := h
  exact ⟨q, x, y, e, s _ _ h1, h2.same s, h3.same s⟩
theorem MPr.put {K : PySem.W.Frag} {C D : Addr} {H : Hp} {ws : List V} {o : HO} {v : V} {p : Pr} (hD : H D = some (.lst ws)) (h : MPr K C H v p) : MPr K C (L2.upd H D o) v p := by
  obtain ⟨q, x, y, e, h1, h2, h3⟩ := h
  exact ⟨q, x, y, e, by rw [upd_ne (fun z => by rw [z, hD] at h1; cases h1)]; exact h1, h2.keptL hD Kept.upd, h3.keptL hD Kept.upd⟩
def spMade (K : PySem.W.Frag) (C : Addr) : Sp := fun vs H Q _ => ∃ (a : Addr) (prs : List Pr), vs = [.ref a] ∧ PRows H a prs ∧ prs.length ≤ 12 ∧ (∀ q ∈ prs, okPr q) ∧
  ∀ p H' ws, H p = none → Same H H' → H' p = some (.lst ws) → All2 (MPr K C H') ws prs → Q (.ref p) H'
theorem eq_nil (ns : List Int) : PyData.eqv (.list (ns.map .int)) (.list []) = decide (ns = []) := by cases ns <;> rfl
section
variable {P : Program} {w : World} {K : PySem.W.Frag} {mg : Str → Option Value} {base : Heap}
abbrev nShL : List Str := ["_law_word_here", "_law_found", "_law_letter"]
theorem scShL : FnScope nShL ["_law_word_here"] (defScope sShL) := ⟨rfl, rfl, rfl, by decide +kernel, rfl, by decide +kernel, by decide +kernel⟩
theorem ok_shL {f : Addr} {fd : FuncData} (F : Fun K "_law_short" "_law_short" sShL f fd) : FnOk P w K mg base CX0 1 f fd ["_law_word_here"] spShL := by
  refine F.ok scShL (fun vs H Q E h => ?_) (fun cdv A outer s H vs Q E hr h => ?_)
  · obtain ⟨a, ns, rfl, _⟩ := h
    rfl
  · obtain ⟨a, ns, rfl, hS, hlen, k⟩ := h
    refine ⟨_, pss_cons (ps_set (i := 1) scShL.nd rfl (Or.inl rfl) (pe_lst pa_nil))
      (pss_cons (ps_for PassesOwn.never rfl (pi_list (pv 0)) (pg_name (i := 2) scShL.nd rfl (Or.inl rfl))
        (pss_one (ps_if (PW.pt (pw_and (pt_cmpR (op_neD hr.units) (pv 1) (pe_lst pa_nil) (nomark _)) (pw_and1 (pt_cmpR op_eq (pe_ix ix_list (pv 1) (pe_un un_neg pe_int) (fun _ _ => rfl)) (pe_un un_neg (pv 2)) (nomark _)))))
          (pss_one (ps_expr (pe_bm0 PySem.F.plainAttrs_list PySem.F.slot_list_pop PySem.F.type_list_pop mt_pop (pv 1))))
          (pss_one (ps_expr (pe_bm PySem.F.plainAttrs_list PySem.F.slot_list_append PySem.F.type_list_append mt_append (pv 1) (pa_cons (pv 2) pa_nil)))))))
      (pss_one (ps_ret (pv 1)))), ?_⟩
    refine ⟨Nat.zero_le _, fun l hl => ?_⟩
    refine ⟨_, rfl, a, rfl, ⟨_, SqL.of ((same_upd (o := HO.lst []) hl) _ _ hS)⟩, for_list (K := K) (a := a) (xs := iv ns) (fun i σ H1 => ∃ v : Option V, σ = [some (.ref a), some (.ref l), v] ∧ Same H H1 ∧ H1 l = some (.lst (iv (Fr.act [] (ns.take i)).reverse)))
      ⟨none, rfl, same_upd hl, by rw [upd_same]; rfl⟩ (fun i σ H1 _ ⟨_, _, s, _⟩ => SqL.of (s _ _ hS)) ?_ ?_⟩
    · rintro i y σ H1 hi ⟨v, rfl, sm, hL⟩
      obtain ⟨x, hx, rfl⟩ : ∃ x, ns[i]? = some x ∧ y = V.int x := by
        rw [List.getElem?_map] at hi
        cases e : ns[i]? with
        | none => rw [e] at hi; cases hi
        | some x => rw [e] at hi; exact ⟨x, rfl, (Option.some.inj hi).symm⟩
      have hi2 : i < ns.length := (List.getElem?_eq_some_iff.mp hx).1
      have nx := act_take hx
      have hsz : (Fr.act [] (ns.take i)).length ≤ 1000 := by
        have := act_len (ns.take i) []
        rw [List.length_take] at this
        simp at this
        omega
      -- the empty list that it is held against
      refine ⟨_, rfl, Nat.zero_le _, fun p hp => ?_⟩
      have s1 := same_upd (o := HO.lst []) hp
      have hL1 := s1 _ _ hL
      have sm1 := sm.trans s1
      have put : ∀ xs, Same H (L2.upd (L2.upd H1 p (.lst [])) l (.lst xs)) := fun xs b o e => by
        rw [upd_ne (ne_of_none e hl)]
        exact sm1 b o e
      refine ⟨.list ((Fr.act [] (ns.take i)).reverse.map PyData.int), .list [], .lst (SqL.of hL1) (dpInts _), .lst (SqL.of upd_same) .nil, PySem.W.ke_shaped_ints _, rfl, _, rfl, ?_⟩
      rw [eq_nil]
      obtain ⟨H2, e2⟩ : ∃ H2, H2 = L2.upd H1 p (.lst []) := ⟨_, rfl⟩
      rw [← e2] at hL1 put ⊢
      cases est : Fr.act [] (ns.take i) with
      | nil =>
        rw [est] at hL1 nx
        refine iteF' (by rfl) ?_
        refine iteF ?_
        refine ⟨_, rfl, .inl ⟨rfl, _, SqL.of hL1⟩, _, rfl, l, _, _, rfl, rfl, hL1, Evl.sz_lt (by simp), ?_⟩
        refine ⟨_, rfl, put _, ?_⟩
        rw [upd_same, nx]
        rfl
      | cons b t =>
        rw [est] at hL1 nx hsz
        have eL : iv (b :: t).reverse = iv t.reverse ++ [V.int b] := by simp [iv]
        refine iteT' (by simp) ?_
        refine ⟨_, rfl, _, rfl, l, _, _, _, rfl, rfl, SqL.of hL1, (by rw [eL]; exact atI_last _ _), _, rfl, x, rfl, rfl, _, rfl, ?_⟩
        refine ite2 (fun hb => ?_) (fun hb => ?_)
        · have eb : b = -x := by
            have := of_decide_eq_true hb
            injection this
          refine ⟨_, rfl, .inl ⟨rfl, _, SqL.of hL1⟩, l, _, V.int b, rfl, rfl, hL1, (by rw [eL]; simp), ?_⟩
          refine ⟨_, rfl, put _, ?_⟩
          rw [upd_same, nx]
          have : Fr.push (b :: t) x = t := by simp [Fr.push, eb]
          rw [this, eL, List.dropLast_concat]
        · have eb : ¬ b = -x := fun e => hb (decide_eq_true (by rw [e]))
          refine ⟨_, rfl, .inl ⟨rfl, _, SqL.of hL1⟩, _, rfl, l, _, _, rfl, rfl, hL1, Evl.sz_lt (by simp [iv] at hsz ⊢; omega), ?_⟩
          refine ⟨_, rfl, put _, ?_⟩
          rw [upd_same, nx]
          have : Fr.push (b :: t) x = x :: b :: t := by simp [Fr.push, eb]
          rw [this]
          simp [iv]
    · rintro σ H1 ⟨v, rfl, sm, hL⟩
      rw [List.take_of_length_le (by simp)] at hL
      exact ⟨_, rfl, k l H1 hl sm hL⟩
abbrev nWordL : List Str := ["_law_pen_here", "_law_most", "_law_kinds", "_law_letter"]
theorem scWordL : FnScope nWordL ["_law_pen_here", "_law_most", "_law_kinds"] (defScope sWordL) := ⟨rfl, rfl, rfl, by decide +kernel, rfl, by decide +kernel, by decide +kernel⟩
theorem ok_wordL {f : Addr} {fd : FuncData} (F : Fun K "_law_word" "_law_word" sWordL f fd) (GD : Cal P w K mg base "_law_draw" 1 ["_law_pen_here", "_law_many"] spTake) (TN : TxN mg) : FnOk P w K mg base CX0 2 f fd ["_law_pen_here", "_law_most", "_law_kinds"] spWordL := by
  refine F.ok scWordL (fun vs H Q E h => ?_) (fun cdv A outer s H vs Q E hr h => ?_)
  · obtain ⟨a, c, m, k, n, rfl, _⟩ := h
    rfl
  · obtain ⟨a, c, m, k, n, rfl, hH, hm, hn, k1, k26, kq⟩ := h
    refine ⟨_, pss_one (ps_ret (pe_lc (own := [("_law_letter", 3)]) (g := gName 3) (tt := tYes) rfl scWordL.nd (pi_range1 (by rfl) TN.range (pa_cons (pe_cal GD hr (by decide) (by rfl) (pa_cons (pv 0) (pa_cons (pe_op op_add (pv 1) pe_int) pa_nil))) pa_nil))
      (blkOk_by (N := nWordL) (sc := defScope sWordL) (by decide +kernel)) (fun _ _ _ _ _ => pg_name (i := 3) scWordL.nd rfl (Or.inl rfl)) (fun _ _ _ _ _ => pts_nil)
      (fun _ _ _ _ _ => pe_op op_mul (pe_op op_add pe_int (pe_cal GD hr (by decide) (by rfl) (pa_cons (pv 0) (pa_cons (pv 2) pa_nil)))) (pe_op op_sub pe_int (pe_op op_mul pe_int (pe_cal GD hr (by decide) (by rfl) (pa_cons (pv 0) (pa_cons pe_int pa_nil)))))))), ?_⟩
    refine ret_e (lc_in ?_)
    refine ⟨_, rfl, _, rfl, _, _, rfl, rfl, a, c, (m : Int) + 1, n, rfl, hH, by omega, by omega, small (by omega), fun H1 q q0 q1 hH1 hK1 => ?_⟩
    obtain ⟨j, rfl⟩ : ∃ j : Nat, q = (j : Int) := ⟨q.toNat, by omega⟩
    refine ⟨(j : Int), rfl, by omega, by omega, ?_⟩
    rw [Int.toNat_natCast]
    have d0 : Drew a c (n + 1) H H1 := ⟨hH1, hK1⟩
    intro D hD
    have hD0 : H D = none := d0.back hD
    have hDa := hH.ne hD0
    have hDc := hH.neC hD0
    refine lc_range (lo := 0) (n := j) (fun i H' => ∃ ls : List Int, ls.length = i ∧ (∀ x ∈ ls, 1 ≤ x.natAbs ∧ x.natAbs ≤ k) ∧ H' D = some (.lst (iv ls)) ∧ Drew a c (n + 1 + 2 * i) H H') ⟨[], rfl, (fun _ h => nomatch h), upd_same, d0.new hD⟩ ?_ ?_
    · rintro i H2 hi ⟨ls, hl, hk, hD2, d2⟩
      refine ⟨rfl, yes_te ?_⟩
      refine ⟨_, rfl, _, rfl, a, c, (k : Int), _, rfl, d2.1, by omega, by omega, small (by omega), fun H3 z z0 z1 hH3 hK3 => ⟨_, _, rfl, rfl, ?_⟩⟩
      refine ⟨_, rfl, a, c, 2, _, rfl, hH3, by omega, by decide, by decide, fun H4 y y0 y1 hH4 hK4 => ⟨_, _, rfl, rfl, .inl ⟨by omega, by omega⟩, _, _, rfl, rfl, _, _, rfl, rfl, .inl ⟨by omega, by omega⟩, ?_⟩⟩
      have d4 : Drew a c (n + 1 + 2 * i + 1 + 1) H H4 := ⟨hH4, d2.2.trans (hK3.trans hK4)⟩
      have hD4 := hK4 _ _ hDa (hK3 _ _ hDa hD2)
      refine ⟨_, hD4, Evl.sz_lt (by simp; omega), ls ++ [(1 + z) * (1 - 2 * y)], by simp [hl], fun x hx => ?_, by rw [upd_same]; simp [iv], d4.put hD0 hDa hDc⟩
      rcases List.mem_append.mp hx with h | h
      · exact hk x h
      · rw [List.mem_singleton.mp h]
        rcases (by omega : y = 0 ∨ y = 1) with rfl | rfl <;> omega
    · rintro H2 ⟨ls, hl, hk, hD2, d2⟩
      exact kq D H2 ls hD0 (d2.mono (by omega)) hD2 (by omega) hk
abbrev nPairsL : List Str := ["_law_pen_here", "_law_many", "_law_most", "_law_kinds", "_law_turn"]
theorem scPairsL : FnScope nPairsL ["_law_pen_here", "_law_many", "_law_most", "_law_kinds"] (defScope sPairsL) := ⟨rfl, rfl, rfl, by decide +kernel, rfl, by decide +kernel, by decide +kernel⟩
theorem ok_pairsL {f : Addr} {fd : FuncData} (F : Fun K "_law_pairs" "_law_pairs" sPairsL f fd) (GW : Cal P w K mg base "_law_word" 2 ["_law_pen_here", "_law_most", "_law_kinds"] spWordL) (TN : TxN mg) : FnOk P w K mg base CX0 3 f fd ["_law_pen_here", "_law_many", "_law_most", "_law_kinds"] spPairsL := by
  refine F.ok scPairsL (fun vs H Q E h => ?_) (fun cdv A outer s H vs Q E hr h => ?_)
  · obtain ⟨a, c, j, m, k, n, rfl, _⟩ := h
    rfl
  · obtain ⟨a, c, j, m, k, n, rfl, hH, hj, hm, hn, k1, k26, kq⟩ := h
    refine ⟨_, pss_one (ps_ret (pe_lc (own := [("_law_turn", 4)]) (g := gName 4) (tt := tYes) rfl scPairsL.nd (pi_range1 (by rfl) TN.range (pa_cons (pv 1) pa_nil))
      (blkOk_by (N := nPairsL) (sc := defScope sPairsL) (by decide +kernel)) (fun _ _ _ _ _ => pg_name (i := 4) scPairsL.nd rfl (Or.inl rfl)) (fun _ _ _ _ _ => pts_nil)
      (fun _ _ _ _ _ => pe_tup (pa_cons (pe_cal GW hr (by decide) (by rfl) (pa_cons (pv 0) (pa_cons (pv 2) (pa_cons (pv 3) pa_nil)))) (pa_cons (pe_cal GW hr (by decide) (by rfl) (pa_cons (pv 0) (pa_cons (pv 2) (pa_cons (pv 3) pa_nil)))) pa_nil))))), ?_⟩
    refine ret_e (lc_in ?_)
    refine ⟨_, rfl, (j : Int), rfl, by omega, by omega, ?_⟩
    rw [Int.toNat_natCast]
    intro D hD
    have hDa := hH.ne hD
    have hDc := hH.neC hD
    refine lc_range (lo := 0) (n := j) (fun i H' => ∃ (ws : List V) (prs : List Pr), prs.length = i ∧ (∀ q ∈ prs, okK m k q) ∧ H' D = some (.lst ws) ∧ All2 (PPrN D H') ws prs ∧ Drew a c (n + 38 * i) H H') ⟨[], [], rfl, (fun _ h => nomatch h), upd_same, .nil, (Drew.refl hH).new hD⟩ ?_ ?_
    · rintro i H2 hi ⟨ws, prs, hl, hk, hD2, h2, d2⟩
      refine ⟨rfl, yes_te ?_⟩
      refine ⟨_, rfl, _, rfl, _, rfl, a, c, m, k, _, rfl, d2.1, hm, by omega, k1, k26, fun x H3 us hx d3 hx3 ul uk => ?_⟩
      have hD3 := d3.2 _ _ hDa hD2
      have nx : x ≠ D := fun z => by rw [z, hD2] at hx; cases hx
      refine ⟨_, rfl, _, rfl, _, rfl, a, c, m, k, _, rfl, d3.1, hm, by omega, k1, k26, fun y H4 vs hy d4 hy4 vl vk => ?_⟩
      have hD4 := d4.2 _ _ hDa hD3
      have ny : y ≠ D := fun z => by rw [z, hD3] at hy; cases hy
      have hx4 := d4.2 _ _ (d3.1.iv_ne hx3) hx3
      refine ⟨(by show 2 ≤ sizeLine; decide), fun T hT => ?_⟩
      have s5 := same_upd (o := .tup [.ref x, .ref y]) hT
      have nT : T ≠ D := fun z => by rw [z, hD4] at hT; cases hT
      have hlen := h2.length
      refine ⟨ws, s5 _ _ hD4, Evl.sz_lt (by omega), ws ++ [.ref T], prs ++ [(us, vs)], by simp [hl], fun q hq => ?_, upd_same, ?_, ?_⟩
      · rcases List.mem_append.mp hq with h | h
        · exact hk q h
        · rw [List.mem_singleton.mp h]
          exact ⟨ul, vl, uk, vk⟩
      · refine All2.app (h2.imp fun v p r => (((r.drew d2.1 d3).drew d3.1 d4).same s5).put) (.cons (PPrN.put ⟨T, x, y, ⟨nT, nx, ny⟩, rfl, upd_same, s5 _ _ hx4, s5 _ _ hy4⟩) .nil)
      · exact (((d2.trans (d3.trans d4)).mono (by omega)).new hT).put hD hDa hDc
    · rintro H2 ⟨ws, prs, hl, hk, hD2, h2, d2⟩
      exact kq D H2 prs hD (d2.mono (by omega)) ⟨ws, hD2, h2.imp fun _ _ r => r.to⟩ hl hk
abbrev nMade : List Str := ["_law_pairs_here", "_law_one", "_law_other"]
theorem scMade : FnScope nMade ["_law_pairs_here"] (defScope sMade) := ⟨rfl, rfl, rfl, by decide +kernel, rfl, by decide +kernel, by decide +kernel⟩
theorem ok_made {C f : Addr} {fd : FuncData} (F : Fun K "_law_made" "_law_made" sMade f fd) (T : TxW K mg C) (M : MkW P w K mg base C) : FnOk P w K mg base CX0 6 f fd ["_law_pairs_here"] (spMade K C) := by
  refine F.ok scMade (fun vs H Q E h => ?_) (fun cdv A outer s H vs Q E hr h => ?_)
  · obtain ⟨a, prs, rfl, _⟩ := h
    rfl
  · obtain ⟨a, prs, rfl, ⟨ws, hS, h2⟩, hlen, hok, k⟩ := h
    refine ⟨_, pss_one (ps_ret (pe_lc (own := [("_law_one", 1), ("_law_other", 2)]) (g := gTup K 2 (gCons (gName 1) (gCons (gName 2) gNil))) (tt := tYes) rfl scMade.nd (pi_list (pv 0))
      (blkOk_by (N := nMade) (sc := defScope sMade) (by decide +kernel)) (fun _ _ _ _ _ => pg_tup (n := 2) rfl (pgs_cons (pg_name (i := 1) scMade.nd rfl (Or.inl rfl)) (pgs_cons (pg_name (i := 2) scMade.nd rfl (Or.inl rfl)) pgs_nil))) (fun _ _ _ _ _ => pts_nil)
      (fun _ _ _ _ _ => pe_tup (pa_cons (pe_wordK (K := K) rfl M T hr (by decide) (by rfl) (pa_cons (pv 1) pa_nil)) (pa_cons (pe_wordK (K := K) rfl M T hr (by decide) (by rfl) (pa_cons (pv 2) pa_nil)) pa_nil))))), ?_⟩
    refine ret_e (lc_in ?_)
    refine ⟨_, rfl, a, rfl, ⟨_, SqL.of hS⟩, ?_⟩
    have hl := h2.length
    refine lcM (walk_list (xs := ws)) prs (fun _ => MPr K C) (fun _ _ _ _ _ h s => h.same s) (fun _ _ _ _ _ _ hD h => h.put hD) (by omega) hl (fun H2 s2 => SqL.of (s2 _ _ hS)) ?_ (fun x σ1 H A B k h => gTup_mono k h) (fun D H' vs hD s h1 h2 => k D H' vs hD s h1 h2)
    intro i x b hx hb D H2 hD _ s2 Qy ky
    obtain ⟨p, hp, q, u, v, rfl, h3, h4, h5⟩ := h2.at hx
    rw [hp] at hb
    obtain rfl := Option.some.inj hb
    obtain ⟨l1, l2, t1, t2⟩ := hok p (List.mem_of_getElem? hp)
    refine ⟨q, _, rfl, SqT.of (s2 _ _ h3), rfl, _, _, rfl, _, _, rfl, rfl, ?_⟩
    refine ⟨rfl, ?_⟩
    refine ⟨_, rfl, fun x1 dx1 nx1 ndx1 _ => make_at nx1 ndx1 (.inl (SqL.of (s2 _ _ h4))) (by omega) t1 fun H3 s3 W3 => ?_⟩
    refine ⟨_, rfl, fun x2 dx2 nx2 ndx2 _ => make_at nx2 ndx2 (.inl (SqL.of (s3 _ _ (s2 _ _ h5)))) (by omega) t2 fun H4 s4 W4 => ?_⟩
    refine ⟨(by show 2 ≤ sizeLine; decide), fun T0 hT0 => ?_⟩
    have s5 := same_upd (o := .tup [.ref x1, .ref x2]) hT0
    exact ky (.ref T0) _ ((s3.trans s4).trans s5) ⟨T0, x1, x2, rfl, upd_same, (W3.same s4).same s5, W4.same s5⟩
end
end W33
set_option Elab.async false
set_option linter.all false
set_option maxRecDepth 100000
set_option maxHeartbeats 1000000
namespace W33
open PySem L2 PySem.Spec PyProof.Rows WR WB WE WS
/-! ### the law's own: shortened round; a sewing of one ring -/
def spRdL : Sp := fun vs H Q _ => ∃ (p : Addr) (ns : List Int), vs = [.ref p] ∧ H p = some (.lst (iv ns)) ∧ ns.length ≤ 1000 ∧ NewL H Q (Fr.rnd ns)
abbrev sRdL : Stmt := top 81
abbrev nRdL : List Str := ["_law_word_here", "_law_found"]
theorem scRdL : FnScope nRdL ["_law_word_here"] (defScope sRdL) := ⟨rfl, rfl, rfl, by decide +kernel, rfl, by decide +kernel, by decide +kernel⟩
def spSwL (K : PySem.W.Frag) (C CR CS : Addr) : Sp := fun vs H Q _ => ∃ (l m : Addr) (wd mt : List Int), vs = [.ref l, .ref m] ∧ H l = some (.lst (iv wd)) ∧ H m = some (.lst (iv mt)) ∧ RimOk [wd] ∧ MatOk wd mt ∧ ∀ q H' rq xs, Same H H' → SewAt K C CR CS H' q rq xs [wd] mt → Q (.ref q) H'
abbrev sSwL : Stmt := top 84
abbrev nSwL : List Str := ["_law_letters", "_law_mates"]
theorem scSwL : FnScope nSwL ["_law_letters", "_law_mates"] (defScope sSwL) := ⟨rfl, rfl, rfl, by decide +kernel, rfl, by decide +kernel, by decide +kernel⟩
theorem cut_inn {xs : List Int} (h : 1 < xs.length) : cutV (iv xs) (some 1) (some (-1)) = iv xs.tail.dropLast := by
  unfold cutV
  have e1 : HT.sIx (iv xs).length 0 (some 1) = 1 := by
    have := HT.sIx_nat (iv xs).length 0 1
    rw [List.length_map] at this ⊢
    rw [show ((1 : Nat) : Int) = 1 from rfl] at this
    rw [this]
    omega
  have e2 : HT.sIx (iv xs).length (iv xs).length (some (-1)) = xs.length - 1 := by
    show (if (-1 : Int) < 0 then ((-1 : Int) + ((iv xs).length : Int)).toNat else min (-1 : Int).toNat (iv xs).length) = xs.length - 1
    rw [if_pos (by decide), List.length_map]
    omega
  rw [e1, e2]
  unfold iv
  rw [← List.map_drop, ← List.map_take, List.drop_one, List.dropLast_eq_take, List.length_tail]
theorem ends_stop {n : Nat} {xs : List Int} (h : ¬ (1 < xs.length ∧ xs.head? = xs.getLast?.map (fun a => -a))) : Fr.endsN n xs = xs := by
  cases n with
  | zero => rfl
  | succ n =>
    unfold Fr.endsN
    rw [if_neg h]
theorem ends_go {n : Nat} {xs : List Int} (h : 1 < xs.length ∧ xs.head? = xs.getLast?.map (fun a => -a)) : Fr.endsN (n + 1) xs = Fr.endsN n xs.tail.dropLast := by
  conv => lhs; unfold Fr.endsN
  rw [if_pos h]
section
variable {P : Program} {w : World} {K : PySem.W.Frag} {mg : Str → Option Value} {base : Heap} {C CR CS : Addr}
theorem ok_RdL {f : Addr} {fd : FuncData} (F : Fun K "_law_round" "_law_round" sRdL f fd) (N : TN mg)  (G_short : Cal P w K mg base "_law_short" 1 ["_law_word_here"] (spShL)) : FnOk P w K mg base CX0 2 f fd ["_law_word_here"] (spRdL) := by
  refine F.ok scRdL (fun vs H Q E h => ?_) (fun cdv A outer s H vs Q E hr h => ?_)
  · obtain ⟨p, ns, rfl, _⟩ := h
    rfl
  · obtain ⟨p, ns, rfl, hp, l1000, k⟩ := h
    refine ⟨_, pss_cons (ps_set (i := 1) scRdL.nd rfl (Or.inl rfl) (pe_cal G_short hr (by decide) (by rfl) (pa_cons (pv 0) pa_nil)))
      (pss_cons (ps_while PassesOwn.never (PW.pt (pw_and (pt_cmpR op_gt (pe_callB call_len_seq (by rfl) N.len PySem.boot_len (pa_cons (pv 1) pa_nil)) pe_int (nomark _)) (pw_and1 (pt_cmpR op_eq (pe_ix ix_list (pv 1) pe_int (fun _ _ => rfl)) (pe_un un_neg (pe_ix ix_list (pv 1) (pe_un un_neg pe_int) (fun _ _ => rfl))) (nomark _)))))
      (pss_one (ps_set (i := 1) scRdL.nd rfl (Or.inl rfl) (pe_slice sl_list (pv 1) (po_some pe_int) (po_some (pe_un un_neg pe_int))))))
      (pss_one (ps_ret (pv 1)))), ?_⟩
    refine ⟨_, rfl, p, ns, rfl, hp, l1000, fun l H1 hl s1 g1 => ?_⟩
    try dsimp only
    refine at_set ?_
    try dsimp only
    refine ⟨fun n σ H' => ∃ (l : Addr) (xs : List Int), σ = [some (.ref p), some (.ref l)] ∧ Same H H' ∧ H l = none ∧ H' l = some (.lst (iv xs)) ∧ Fr.endsN n xs = Fr.rnd ns ∧ xs.length ≤ n, ⟨(Fr.shr ns).length, l, Fr.shr ns, rfl, s1, hl, g1, rfl, Nat.le_refl _⟩, ?_⟩
    rintro n σ H2 ⟨l, xs, rfl, s2, hl, g2, e, hn⟩
    refine ⟨_, rfl, l, _, rfl, .inl (SqL.of g2), _, _, rfl, rfl, _, rfl, ?_⟩
    by_cases c1 : 1 < xs.length
    · refine iteT' (decide_eq_true (by rw [List.length_map]; omega)) ?_
      obtain ⟨x, t, rfl⟩ : ∃ x t, xs = x :: t := by
        cases xs with
        | nil => simp at c1
        | cons x t => exact ⟨x, t, rfl⟩
      have tn : t ≠ [] := fun z => by rw [z] at c1; simp at c1
      have el : atI (iv (x :: t)) (-1) = some (.int (t.getLast tn)) := by
        have : iv (x :: t) = iv (x :: t.dropLast) ++ [.int (t.getLast tn)] := by
          conv => lhs; rw [← List.dropLast_concat_getLast tn]
          unfold iv
          rw [← List.cons_append, List.map_append]
          rfl
        rw [this]
        exact atI_last _ _
      refine ⟨_, rfl, l, _, _, _, rfl, rfl, SqL.of g2, atI_nat (j := 0) (by rfl), _, rfl, _, rfl, l, _, _, _, rfl, rfl, SqL.of g2, el, _, rfl, rfl, _, rfl, ?_⟩
      have hh : (x :: t).getLast? = some (t.getLast tn) := by
        rw [List.getLast?_cons, List.getLast?_eq_some_getLast tn]
        rfl
      by_cases c2 : x = -t.getLast tn
      · refine iteT' (decide_eq_true (by show V.int x = V.int (-t.getLast tn); rw [← c2])) ?_
        have hc : 1 < (x :: t).length ∧ (x :: t).head? = (x :: t).getLast?.map (fun a => -a) := ⟨c1, by rw [hh]; show some x = some _; rw [c2]⟩
        obtain ⟨f, rfl⟩ : ∃ f, n = f + 1 := ⟨n - 1, by omega⟩
        rw [ends_go hc] at e
        refine ⟨fun σ' H' => ∃ m, m < f + 1 ∧ ∃ (l : Addr) (xs : List Int), σ' = [some (.ref p), some (.ref l)] ∧ Same H H' ∧ H l = none ∧ H' l = some (.lst (iv xs)) ∧ Fr.endsN m xs = Fr.rnd ns ∧ xs.length ≤ m, fun _ _ z => z, ?_⟩
        refine ⟨_, rfl, _, rfl, _, rfl, _, rfl, l, _, rfl, SqL.of g2, fun p1 hp1 => ?_⟩
        rw [cut_inn c1]
        have s3 := same_upd (o := .lst (iv (x :: t).tail.dropLast)) hp1
        exact ⟨f, by omega, p1, _, rfl, s2.trans s3, s2.free hp1, upd_same, e, by rw [List.length_dropLast, List.length_tail]; omega⟩
      · refine iteF' (decide_eq_false (fun z => c2 (by injection z))) ?_
        rw [ends_stop (fun z => c2 (by
          have := z.2
          rw [hh] at this
          exact Option.some.inj this))] at e
        rw [e] at g2
        exact ⟨_, rfl, k l H2 hl s2 g2⟩
    · refine iteF' (decide_eq_false (by rw [List.length_map]; omega)) ?_
      rw [ends_stop (fun z => c1 z.1)] at e
      rw [e] at g2
      exact ⟨_, rfl, k l H2 hl s2 g2⟩
theorem ok_SwL {f : Addr} {fd : FuncData} (F : Fun K "_law_sewing" "_law_sewing" sSwL f fd) (N : TN mg) (T : TxW K mg C) (TC : TxRC K mg CR) (TS : TxSC K mg CS) (MW : MkW P w K mg base C) (MR : MkR P w K mg base C CR) (MS : MkS P w K mg base C CR CS)  : FnOk P w K mg base CX0 7 f fd ["_law_letters", "_law_mates"] (spSwL K C CR CS) := by
  refine F.ok scSwL (fun vs H Q E h => ?_) (fun cdv A outer s H vs Q E hr h => ?_)
  · obtain ⟨l, m, wd, mt, rfl, _⟩ := h
    rfl
  · obtain ⟨l, m, wd, mt, rfl, hl, hm, ok, mok, k⟩ := h
    refine ⟨_, pss_one (ps_ret (pe_sewK rfl MS TS hr (by decide) (by rfl) (pa_cons (pe_rims (mg := mg) MR TC hr (by decide) (by rfl) (pa_cons (pe_lst (pa_cons (pe_word MW T hr (by decide) (by rfl) (pa_cons (pv 0) pa_nil)) pa_nil)) pa_nil)) (pa_cons (pv 1) pa_nil)))), ?_⟩
    refine mk_args ?_
    refine mk_ring (l := l) (w := wd) (fun Q' q => ⟨_, rfl, q⟩) (SqL.of hl) ok fun rp H1 xs s1 R1 => ?_
    refine ⟨_, rfl, ?_⟩
    intro q dq nq ndq _
    exact sew_at nq ndq R1 ok (.inl (SqL.of (s1 _ _ hm))) (by rw [flat1]; exact mok) fun H2 s2 S2 => k q H2 rp xs (s1.trans s2) S2
end
end W33
set_option Elab.async false
set_option linter.all false
set_option maxRecDepth 100000
set_option maxHeartbeats 1000000
namespace W33
open PySem L2 PySem.Spec PyProof.Rows WR WB WE WS
/-! ### the law's own: what is left of a ring -/
theorem seq_to {a b : TS} {D : Ends} {σ : L2.St} {H : Hp} (F : L2.St → Hp → Prop) (h1 : ∀ D' : Ends, (∀ σ H, F σ H → D'.nx σ H) → a D' σ H) (h2 : ∀ σ H, F σ H → b D σ H) : tSeq a b D σ H := h1 _ h2
theorem mt_indexK {X : Cx} {K : PySem.W.Frag} (h : X.K = K) : MtR X "list.index" (rIndex K) := h ▸ mt_index
theorem setM_self {n : Nat} {mt : List Int} {p q : Nat} (P : PairOk n mt) (hp : p < n) (hq : q < n) (c : mtn mt p = q) : setM mt p q = mt := by
  have hb : mtn mt q = p := by rw [← c]; exact (pair_inv P hp).1
  have g1 := (mtn_at P.1 hp).2.1
  have g2 := (mtn_at P.1 hq).2.1
  have lm := P.1.1
  refine List.ext_getElem? fun i => ?_
  unfold setM
  rw [c, hb, List.getElem?_set, List.getElem?_set, List.length_set]
  by_cases c1 : p = i
  · rw [if_pos c1, if_pos (by omega), ← c1, g1, c]
  · rw [if_neg c1]
    by_cases c2 : q = i
    · rw [if_pos c2, if_pos (by omega), ← c2, g2, hb]
    · rw [if_neg c2]
def spLeft (K : PySem.W.Frag) : Sp := fun vs H Q _ => ∃ (l m : Addr) (wd mt : List Int), vs = [.ref l, .ref m] ∧ H l = some (.lst (iv wd)) ∧ H m = some (.lst (iv mt)) ∧ RimOk [wd] ∧ MatOk wd mt ∧
  ∀ (t l' m' : Addr) (H' : Hp), Same H H' → SqT K H' t [.ref l', .ref m'] → H' l' = some (.lst (iv (tgF wd.length wd mt).1)) → H' m' = some (.lst (iv (tgF wd.length wd mt).2)) → Q (.ref t) H'
abbrev sLeft : Stmt := top 85
abbrev nLeft : List Str := ["_law_letters", "_law_mates", "_law_many", "_law_places", "_law_gone", "_law_one", "_law_other", "_law_rest", "_law_place", "_law_at", "_law_mate"]
theorem scLeft : FnScope nLeft ["_law_letters", "_law_mates"] (defScope sLeft) := ⟨rfl, rfl, rfl, by decide +kernel, rfl, by decide +kernel, by decide +kernel⟩
theorem asg_two_lc {wi wj : TI} {g1 g2 gg : TG} {t1 t2 : TT} {e1 e2 : TE} {v1 v2 : List Nat} {D : Ends} {σ : L2.St} {H : Hp}
    (h : wi σ H fun J H1 => tLc (fun _ H R => R J H) g1 t1 e1 v1 σ H1 fun x H2 => wj σ H2 fun J2 H3 => tLc (fun _ H R => R J2 H) g2 t2 e2 v2 σ H3 fun y H4 => [x, y].length ≤ sizeLine ∧ ∀ p, H4 p = none → gg (.ref p) σ (L2.upd H4 p (.tup [x, y])) D.nx) : tAsg (tTup (tCons (tLc wi g1 t1 e1 v1) (tCons (tLc wj g2 t2 e2 v2) tNil))) gg D σ H := h
theorem asg_lc1 {wi : TI} {g gg : TG} {tt : TT} {te : TE} {vs : List Nat} {D : Ends} {σ : L2.St} {H : Hp}
    (h : wi σ H fun J H1 => tLc (fun _ H R => R J H) g tt te vs σ H1 fun x H2 => gg x σ H2 D.nx) : tAsg (tLc wi g tt te vs) gg D σ H := h
def cdB (w : List Int) (i : Nat) : Bool := decide (w.getD i 0 = -w.getD ((i + 1) % w.length) 0)
def psF (w : List Int) : List Nat := (List.range w.length).filter (cdB w)
theorem psF_head (w : List Int) : (psF w).head? = pT w := List.head?_filter
theorem modC (i n : Nat) : ((i : Int) + 1) % (n : Int) = (((i + 1) % n : Nat) : Int) := by
  rw [Int.natCast_emod]
  rfl
theorem ks_asc (n i q : Nat) : (ksT n i q).Pairwise (· < ·) := (List.pairwise_lt_range).filter _
theorem ks_mem {n i q z : Nat} : z ∈ ksT n i q ↔ z < n ∧ z ≠ i ∧ z ≠ q := by
  unfold ksT
  rw [List.mem_filter, List.mem_range]
  simp
theorem idx_asc {ks : List Nat} (h : ks.Pairwise (· < ·)) {x : Nat} (hx : x ∈ ks) : ks[ks.idxOf x]? = some x ∧ ∀ j, j < ks.idxOf x → ∀ z, ks[j]? = some z → z ≠ x := by
  have hl := List.idxOf_lt_length_of_mem hx
  have e : ks[ks.idxOf x] = x := List.getElem_idxOf hl
  refine ⟨by rw [List.getElem?_eq_getElem hl, e], fun j hj z hz => ?_⟩
  obtain ⟨h1, h2⟩ := List.getElem?_eq_some_iff.mp hz
  have := List.pairwise_iff_getElem.mp h j (ks.idxOf x) h1 hl hj
  rw [h2, e] at this
  omega
section
variable {P : Program} {w : World} {K : PySem.W.Frag} {mg : Str → Option Value} {base : Heap} {C CR CS : Addr}
theorem ok_Left {f : Addr} {fd : FuncData} (F : Fun K "_law_left" "_law_left" sLeft f fd) (N : TN mg)   : FnOk P w K mg base CX0 1 f fd ["_law_letters", "_law_mates"] (spLeft K) := by
  refine F.ok scLeft (fun vs H Q E h => ?_) (fun cdv A outer s H vs Q E hr h => ?_)
  · obtain ⟨l, m, wd, mt, rfl, _⟩ := h
    rfl
  · obtain ⟨l, m, wd, mt, rfl, hl, hm, ok, mok, k⟩ := h
    refine ⟨_, pss_one (ps_while PassesOwn.never (pt_val pe_bl)
      (pss_cons (ps_set (i := 2) scLeft.nd rfl (Or.inr rfl) (pe_callB call_len_seq (by rfl) N.len PySem.boot_len (pa_cons (pv 0) pa_nil)))
      (pss_cons (ps_setLc (i := 3) (own := [("_law_place", 8)]) (g := gName 8) rfl scLeft.nd rfl rfl (sw_true rfl rfl rfl (by decide +kernel)) (pi_range1 (by rfl) N.range (pa_cons (pv 2) pa_nil)) (blkOk_by (N := nLeft) (sc := defScope sLeft) (by decide +kernel)) (fun _ _ _ _ _ => (pg_name (i := 8) scLeft.nd rfl (Or.inl rfl))) (fun _ _ _ _ _ => (pts_one (pt_cmpR op_eq (pe_ix (ixl (K := K) rfl) (pv 0) (pv 8) (fun _ _ => rfl)) (pe_un un_neg (pe_ix (ixl (K := K) rfl) (pv 0) (pe_op op_mod (pe_callTy call_int1 (by rfl) N.int (by decide +kernel) (pa_cons (pe_op op_add (pv 8) pe_int) pa_nil)) (pv 2)) (fun _ _ => rfl))) (nomark _)))) (fun _ _ _ _ _ => (pv 8)))
      (pss_cons (ps_if (pt_cmpR (op_eqD hr.units) (pv 3) (pe_lst pa_nil) (nomark _)) (pss_one (ps_ret (pe_tupB (pa_cons (pv 0) (pa_cons (pv 1) pa_nil))))) pss_nil)
      (pss_cons (ps_set (i := 4) scLeft.nd rfl (Or.inr rfl) (pe_lst (pa_cons (pe_ix ix_list (pv 3) pe_int (fun _ _ => rfl)) (pa_cons (pe_op op_mod (pe_callTy call_int1 (by rfl) N.int (by decide +kernel) (pa_cons (pe_op op_add (pe_ix ix_list (pv 3) pe_int (fun _ _ => rfl)) pe_int) pa_nil)) (pv 2)) pa_nil))))
      (pss_cons (ps_if (pt_cmpR op_ne (pe_ix ix_list (pv 1) (pe_ix ix_list (pv 4) pe_int (fun _ _ => rfl)) (fun _ _ => rfl)) (pe_ix ix_list (pv 4) pe_int (fun _ _ => rfl)) (nomark _)) (pss_cons (ps_asg (pe_tup (pa_cons (pe_ix ix_list (pv 1) (pe_ix ix_list (pv 4) pe_int (fun _ _ => rfl)) (fun _ _ => rfl)) (pa_cons (pe_ix ix_list (pv 1) (pe_ix ix_list (pv 4) pe_int (fun _ _ => rfl)) (fun _ _ => rfl)) pa_nil))) (pg_tup (n := 2) rfl (pgs_cons (pg_name (i := 5) scLeft.nd rfl (Or.inr rfl)) (pgs_cons (pg_name (i := 6) scLeft.nd rfl (Or.inr rfl)) pgs_nil))))
      (pss_one (ps_set (i := 1) scLeft.nd rfl (Or.inr rfl) (pe_lc (own := [("_law_at", 9), ("_law_mate", 10)]) (g := gTup K 2 (gCons (gName 9) (gCons (gName 10) gNil))) (tt := tYes) rfl scLeft.nd (pi_enum (by rfl) N.enumerate (pa_cons (pv 1) pa_nil)) (blkOk_by (N := nLeft) (sc := defScope sLeft) (by decide +kernel)) (fun _ _ _ _ _ => (pg_tup (n := 2) rfl (pgs_cons (pg_name (i := 9) scLeft.nd rfl (Or.inl rfl)) (pgs_cons (pg_name (i := 10) scLeft.nd rfl (Or.inl rfl)) pgs_nil)))) (fun _ _ _ _ _ => pts_nil) (fun _ _ _ _ _ => (pe_ifExp (pt_cmpR op_eq (pv 9) (pv 5) (nomark _)) (pv 6) (pe_ifExp (pt_cmpR op_eq (pv 9) (pv 6) (nomark _)) (pv 5) (pv 10)))))))) pss_nil)
      (pss_cons (ps_set (i := 7) scLeft.nd rfl (Or.inr rfl) (pe_lc (own := [("_law_place", 8)]) (g := gName 8) rfl scLeft.nd (pi_range1 (by rfl) N.range (pa_cons (pv 2) pa_nil)) (blkOk_by (N := nLeft) (sc := defScope sLeft) (by decide +kernel)) (fun _ _ _ _ _ => (pg_name (i := 8) scLeft.nd rfl (Or.inl rfl))) (fun _ _ _ _ _ => (pts_one (pt_cmpR (op_notInK (K := K) rfl) (pv 8) (pv 4) (by rfl)))) (fun _ _ _ _ _ => (pv 8))))
      (pss_one (ps_asg (pe_tup (pa_cons (pe_lc (own := [("_law_place", 8)]) (g := gName 8) (tt := tYes) rfl scLeft.nd (pi_list (pv 7)) (blkOk_by (N := nLeft) (sc := defScope sLeft) (by decide +kernel)) (fun _ _ _ _ _ => (pg_name (i := 8) scLeft.nd rfl (Or.inl rfl))) (fun _ _ _ _ _ => pts_nil) (fun _ _ _ _ _ => (pe_ix (ixl (K := K) rfl) (pv 0) (pv 8) (fun _ _ => rfl)))) (pa_cons (pe_lc (own := [("_law_place", 8)]) (g := gName 8) (tt := tYes) rfl scLeft.nd (pi_list (pv 7)) (blkOk_by (N := nLeft) (sc := defScope sLeft) (by decide +kernel)) (fun _ _ _ _ _ => (pg_name (i := 8) scLeft.nd rfl (Or.inl rfl))) (fun _ _ _ _ _ => pts_nil) (fun _ _ _ _ _ => (pe_bmK (K := K) rfl PySem.F.plainAttrs_list PySem.F.slot_list_index PySem.F.type_list_index (mt_indexK (K := K) rfl) (pv 7) (pa_cons (pe_ix (ixl (K := K) rfl) (pv 1) (pv 8) (fun _ _ => rfl)) pa_nil)))) pa_nil))) (pg_tup (n := 2) rfl (pgs_cons (pg_name (i := 0) scLeft.nd rfl (Or.inr rfl)) (pgs_cons (pg_name (i := 1) scLeft.nd rfl (Or.inr rfl)) pgs_nil)))))))))))), ?_⟩
    refine ⟨fun n σ H' => ∃ (l m : Addr) (w mt' : List Int) (v2 v3 v4 v5 v6 v7 : Option V), σ = [some (.ref l), some (.ref m), v2, v3, v4, v5, v6, v7, none, none, none] ∧ Same H H' ∧ H' l = some (.lst (iv w)) ∧ H' m = some (.lst (iv mt')) ∧ (w = [] ∨ (RimOk [w] ∧ MatOk w mt')) ∧ tgF n w mt' = tgF wd.length wd mt ∧ w.length ≤ n,
      ⟨wd.length, l, m, wd, mt, none, none, none, none, none, none, rfl, Same.refl _, hl, hm, .inr ⟨ok, mok⟩, rfl, Nat.le_refl _⟩, ?_⟩
    rintro n σ H1 ⟨l, m, w, mt', v2, v3, v4, v5, v6, v7, rfl, s1, gl, gm, hw, et, hn⟩
    refine ⟨_, rfl, iteT ?_⟩
    refine ⟨fun σ' H' => ∃ n', n' < n ∧ ∃ (l m : Addr) (w mt' : List Int) (v2 v3 v4 v5 v6 v7 : Option V), σ' = [some (.ref l), some (.ref m), v2, v3, v4, v5, v6, v7, none, none, none] ∧ Same H H' ∧ H' l = some (.lst (iv w)) ∧ H' m = some (.lst (iv mt')) ∧ (w = [] ∨ (RimOk [w] ∧ MatOk w mt')) ∧ tgF n' w mt' = tgF wd.length wd mt ∧ w.length ≤ n', fun _ _ z => z, ?_⟩
    have l24 : w.length ≤ 24 := by
      rcases hw with rfl | ⟨o, _⟩
      · exact Nat.zero_le _
      · have := o.2.2.2.1
        rw [flat1] at this
        exact this
    refine ⟨_, rfl, l, _, rfl, .inl (SqL.of gl), ?_⟩
    rw [List.length_map]
    try dsimp only
    refine at_set ?_
    try dsimp only
    refine sq_lcS ?_
    try dsimp only
    refine ⟨_, rfl, _, rfl, by omega, by omega, ?_⟩
    rw [Int.toNat_natCast]
    refine lcRM (cdB w) (fun _ v i => v = V.int ((i : Nat) : Int)) (fun _ _ _ _ h _ => h) (fun _ _ _ _ _ _ _ h => h) (by omega) ?_ ?_
    · intro i hi H2 s2 Qy Qn ky kn
      have hq : (i + 1) % w.length < w.length := Nat.mod_lt _ (by omega)
      have gq := let_at (ls := w) hq
      refine ⟨rfl, _, rfl, _, rfl, l, _, _, _, rfl, rfl, SqL.of (s2 _ _ gl), atI_nat (let_at hi), _, rfl, _, rfl, _, _, rfl, rfl, .inl ⟨_, rfl, _, rfl, _, _, rfl, rfl, (by omega), l, _, _, _, rfl, rfl, SqL.of (s2 _ _ gl), (by rw [modC]; exact atI_nat gq), _, rfl, rfl, _, rfl, ?_⟩⟩
      have el : decide (V.int (w.getD i 0) = V.int (-w.getD ((i + 1) % w.length) 0)) = cdB w i := by
        unfold cdB
        by_cases c : w.getD i 0 = -w.getD ((i + 1) % w.length) 0
        · rw [decide_eq_true c, decide_eq_true (by rw [c])]
        · rw [decide_eq_false c, decide_eq_false (fun z => c (by injection z))]
      show if decide (V.int (w.getD i 0) = V.int (-w.getD ((i + 1) % w.length) 0)) = true then _ else _
      rw [el]
      cases hc : cdB w i with
      | true => exact iteT ⟨_, rfl, ky hc _ H2 (Same.refl _) rfl⟩
      | false => exact iteF (kn hc H2 (Same.refl _))
    intro E1 H2 vs hE s2 gE hv
    obtain rfl := all_int hv
    change H2 E1 = some (.lst (iv (nats (psF w)))) at gE
    have s12 := s1.trans s2
    have gl2 := s2 _ _ gl
    have gm2 := s2 _ _ gm
    try dsimp only
    refine at_set ?_
    try dsimp only
    refine ⟨_, rfl, Nat.zero_le _, fun fo hfo => ?_⟩
    have s3 := same_upd (o := .lst []) hfo
    refine ⟨.list ((nats (psF w)).map .int), .list [], .lst (SqL.of (s3 _ _ gE)) (dpInts _), .lst (SqL.of upd_same) .nil, PySem.W.ke_shaped_ints _, by rfl, ?_⟩
    rw [eq_nil]
    have s13 := s12.trans s3
    have gl3 := s3 _ _ gl2
    have gm3 := s3 _ _ gm2
    have gE3 := s3 _ _ gE
    generalize L2.upd H2 fo (.lst []) = H3 at s3 s13 gl3 gm3 gE3 ⊢
    refine ⟨_, rfl, ?_⟩
    have hd := psF_head w
    cases hp : pT w with
    | none =>
      rw [hp] at hd
      have en : psF w = [] := List.head?_eq_none_iff.mp hd
      refine iteT' (decide_eq_true (by rw [en]; rfl)) ?_
      rw [tgF_none hp] at et
      refine ⟨_, rfl, _, rfl, by show 2 ≤ sizeLine; decide, fun t H4 s4 B4 => ?_⟩
      exact k t l m H4 (s13.trans s4) B4.sq (by rw [← et]; exact s4 _ _ gl3) (by rw [← et]; exact s4 _ _ gm3)
    | some i =>
      rw [hp] at hd
      obtain ⟨rs, er⟩ : ∃ rs, psF w = i :: rs := by
        cases e : psF w with
        | nil => rw [e] at hd; cases hd
        | cons a b =>
          rw [e] at hd
          injection hd with hd
          exact ⟨b, by rw [hd]⟩
      have gE0 : (iv (nats (psF w)))[0]? = some (.int (i : Int)) := by rw [er]; rfl
      refine iteF' (decide_eq_false (by rw [er]; intro z; cases z)) ?_
      try dsimp only
      obtain ⟨hi, hc, _⟩ := pT_some hp
      have hq : (i + 1) % w.length < w.length := Nat.mod_lt _ (by omega)
      obtain ⟨o, mok'⟩ := hw.resolve_left fun z => by rw [z] at hi; exact absurd hi (by simp)
      obtain ⟨f, rfl⟩ : ∃ f, n = f + 1 := ⟨n - 1, by omega⟩
      rw [tgF_some hp] at et
      refine ⟨_, rfl, E1, _, _, _, rfl, rfl, SqL.of gE3, atI_nat (j := 0) gE0, _, rfl, E1, _, _, _, rfl, rfl, SqL.of gE3, atI_nat (j := 0) gE0, _, _, rfl, rfl, .inl ⟨_, rfl, _, rfl, _, _, rfl, rfl, (by omega), by show 2 ≤ sizeLine; decide, fun G1 hG1 => ?_⟩⟩
      try dsimp only
      refine at_set ?_
      try dsimp only
      rw [modC]
      obtain ⟨q, eq_⟩ : ∃ q, q = (i + 1) % w.length := ⟨_, rfl⟩
      rw [← eq_] at hc hq et ⊢
      have s4 := same_upd (o := .lst [.int (i : Int), .int (q : Int)]) hG1
      have gG : L2.upd H3 G1 (.lst [.int (i : Int), .int (q : Int)]) G1 = some (.lst [.int (i : Int), .int (q : Int)]) := upd_same
      have s14 := s13.trans s4
      have gl4 := s4 _ _ gl3
      have gm4 := s4 _ _ gm3
      obtain ⟨H4, e4⟩ : ∃ H4, H4 = L2.upd H3 G1 (.lst [.int (i : Int), .int (q : Int)]) := ⟨_, rfl⟩
      rw [← e4] at s4 gG s14 gl4 gm4 ⊢
      clear e4 s4 hG1 gl3 gm3 gE3 s13 s3
      have PP := mok'.1
      have lm : mt'.length = w.length := PP.1.1
      obtain ⟨ka, ga, _⟩ := mtn_at PP.1 hi
      obtain ⟨qb, gb, _⟩ := mtn_at PP.1 hq
      -- their mates become mates
      refine seq_to (fun σ H5 => ∃ (m2 : Addr) (v5 v6 : Option V), σ = [some (.ref l), some (.ref m2), some (.int (w.length : Int)), some (.ref E1), some (.ref G1), v5, v6, v7, none, none, none] ∧ Same H H5 ∧ H5 l = some (.lst (iv w)) ∧ H5 G1 = some (.lst [.int (i : Int), .int (q : Int)]) ∧ H5 m2 = some (.lst (iv (setM mt' i q)))) (fun D' hD' => ?_) ?_
      · refine ⟨_, rfl, _, rfl, G1, _, _, _, rfl, rfl, SqL.of gG, atI_nat (j := 0) rfl, m, _, _, _, rfl, rfl, SqL.of gm4, atI_nat (iv_get ga), _, rfl, G1, _, _, _, rfl, rfl, SqL.of gG, atI_nat (j := 1) rfl, rfl, _, rfl, ?_⟩
        by_cases c : mtn mt' i = q
        · refine iteF' (by
            rw [c]
            show (!decide (V.int (q : Int) = V.int (q : Int))) = false
            rw [decide_eq_true rfl]
            rfl) ?_
          exact hD' _ _ ⟨m, _, _, rfl, s14, gl4, gG, by rw [setM_self PP hi hq c]; exact gm4⟩
        · refine iteT' (by
            have : ¬ V.int ((mtn mt' i : Nat) : Int) = V.int (q : Int) := fun z => c (by injection z with z; omega)
            show (!decide (V.int ((mtn mt' i : Nat) : Int) = V.int (q : Int))) = true
            rw [decide_eq_false this]
            rfl) ?_
          refine ⟨_, rfl, _, rfl, G1, _, _, _, rfl, rfl, SqL.of gG, atI_nat (j := 0) rfl, m, _, _, _, rfl, rfl, SqL.of gm4, atI_nat (iv_get ga), _, rfl, _, rfl, G1, _, _, _, rfl, rfl, SqL.of gG, atI_nat (j := 1) rfl, m, _, _, _, rfl, rfl, SqL.of gm4, atI_nat (iv_get gb), by show 2 ≤ sizeLine; decide, fun t ht => ?_⟩
          have st := same_upd (o := .tup [.int ((mtn mt' i : Nat) : Int), .int ((mtn mt' q : Nat) : Int)]) ht
          have gt : L2.upd H4 t (.tup [.int ((mtn mt' i : Nat) : Int), .int ((mtn mt' q : Nat) : Int)]) t = some (.tup [.int ((mtn mt' i : Nat) : Int), .int ((mtn mt' q : Nat) : Int)]) := upd_same
          have s5 := s14.trans st
          have gl5 := st _ _ gl4
          have gG5 := st _ _ gG
          have gm5 := st _ _ gm4
          generalize L2.upd H4 t (.tup [.int ((mtn mt' i : Nat) : Int), .int ((mtn mt' q : Nat) : Int)]) = H5 at st gt s5 gl5 gG5 gm5 ⊢
          refine ⟨t, _, rfl, SqT.of gt, rfl, _, _, rfl, _, _, rfl, rfl, ?_⟩
          try dsimp only
          refine asg_lc1 ?_
          refine ⟨_, rfl, m, _, rfl, SqL.of gm5, ?_⟩
          have lset : (setM mt' i q).length = w.length := by
            unfold setM
            rw [List.length_set, List.length_set, lm]
          refine lcE (walk_enum (K := K) (a := m) (xs := iv mt')) (fun _ => true) (fun j => .int ((setM mt' i q).getD j 0)) (by rw [List.length_map]; omega) (fun H s => SqL.of (s _ _ gm5)) ?_ ?_
          · intro j x hx H6 s6 T hT Qy Qn ky kn
            have kk := ky rfl _ (same_upd (o := .tup [.int (j : Nat), x]) hT)
            have hj : j < mt'.length := by
              have := (List.getElem?_eq_some_iff.mp hx).1
              rwa [List.length_map] at this
            obtain rfl : x = .int mt'[j] := by
              unfold iv at hx
              rw [List.getElem?_map, List.getElem?_eq_getElem hj] at hx
              exact (Option.some.inj hx).symm
            refine ⟨T, _, rfl, SqT.of upd_same, rfl, _, _, rfl, _, _, rfl, rfl, rfl, yes_te ?_⟩
            have val : (setM mt' i q).getD j 0 = if j = mtn mt' q then ((mtn mt' i : Nat) : Int) else if j = mtn mt' i then ((mtn mt' q : Nat) : Int) else mt'[j] := by
              rw [List.getD_eq_getElem?_getD]
              unfold setM
              rw [List.getElem?_set, List.getElem?_set, List.length_set]
              by_cases c1 : mtn mt' q = j
              · rw [if_pos c1, if_pos (by omega), if_pos c1.symm]
                rfl
              · rw [if_neg c1, if_neg (show ¬ j = mtn mt' q from fun z => c1 z.symm)]
                by_cases c2 : mtn mt' i = j
                · rw [if_pos c2, if_pos (by omega), if_pos c2.symm]
                  rfl
                · rw [if_neg c2, if_neg (show ¬ j = mtn mt' i from fun z => c2 z.symm), List.getElem?_eq_getElem hj]
                  rfl
            rw [val] at kk
            have niq : mtn mt' i ≠ mtn mt' q := fun z => by
              have e : i = q := by rw [← (pair_inv PP hi).1, z, (pair_inv PP hq).1]
              rw [← e] at hc
              have lts := o.2.2.2.2.1
              rw [flat1] at lts
              have := lts _ (List.getElem_mem hi)
              rw [getD_lt hi] at hc
              omega
            refine ⟨_, rfl, _, rfl, rfl, _, rfl, ?_⟩
            by_cases c2 : j = mtn mt' i
            · refine iteT' (decide_eq_true (by rw [c2])) ?_
              rw [if_neg (fun z => niq (by rw [← c2, z])), if_pos c2] at kk
              exact ⟨_, rfl, kk⟩
            · refine iteF' (decide_eq_false (fun z => c2 (by injection z with z; omega))) ?_
              refine ⟨_, rfl, _, rfl, rfl, _, rfl, ?_⟩
              by_cases c1 : j = mtn mt' q
              · refine iteT' (decide_eq_true (by rw [c1])) ?_
                rw [if_pos c1] at kk
                exact ⟨_, rfl, kk⟩
              · refine iteF' (decide_eq_false (fun z => c1 (by injection z with z; omega))) ?_
                rw [if_neg c1, if_neg c2] at kk
                exact ⟨_, rfl, kk⟩
          · intro D H6 hD s6 g6
            refine hD' _ _ ⟨D, _, _, rfl, s5.trans s6, s6 _ _ gl5, s6 _ _ gG5, ?_⟩
            rw [g6, List.filter_eq_self.mpr (fun _ _ => rfl)]
            conv => rhs; rw [self_map (setM mt' i q)]
            unfold iv
            rw [List.length_map, List.map_map, lset, lm]
            rfl
      · rintro σ H5 ⟨m2, v5, v6, rfl, s5, gl5, gG5, gm5⟩
        clear gG gl4 gm4 s14
        refine sq_lcS ?_
        try dsimp only
        refine ⟨_, rfl, _, rfl, by omega, by omega, ?_⟩
        rw [Int.toNat_natCast]
        have in2 : ∀ z : Nat, inV (.int (z : Int)) [.int (i : Int), .int (q : Int)] = (decide (z = i) || decide (z = q)) := fun z => by
          unfold inV
          simp only [List.any_cons, List.any_nil, Bool.or_false]
          have ek : ∀ x : Nat, eqV (.int (x : Int)) (.int (z : Int)) = decide (z = x) := fun x => by
            show decide ((x : Int) = (z : Int)) = decide (z = x)
            by_cases c : z = x
            · rw [decide_eq_true c, decide_eq_true (by omega)]
            · rw [decide_eq_false c, decide_eq_false (by omega)]
          rw [ek, ek]
        refine lcRM (fun z => !(decide (z = i) || decide (z = q))) (fun _ v i => v = V.int ((i : Nat) : Int)) (fun _ _ _ _ h _ => h) (fun _ _ _ _ _ _ _ h => h) (by omega) ?_ ?_
        · intro z hz H6 s6 Qy Qn ky kn
          refine ⟨rfl, _, rfl, _, rfl, G1, _, rfl, .inl (SqL.of (s6 _ _ gG5)), rfl, rfl, _, rfl, ?_⟩
          show if (!inV (.int (z : Int)) [.int (i : Int), .int (q : Int)]) = true then _ else _
          rw [in2]
          cases hcc : (decide (z = i) || decide (z = q)) with
          | true => exact iteF (kn (by rw [hcc]; rfl) H6 (Same.refl _))
          | false => exact iteT ⟨_, rfl, ky (by rw [hcc]; rfl) _ H6 (Same.refl _) rfl⟩
        intro E2 H6 vs hE2 s6 gE2 hv
        obtain rfl := all_int hv
        change H6 E2 = some (.lst (iv (nats (ksT w.length i q)))) at gE2
        have gl6 := s6 _ _ gl5
        have gm6 := s6 _ _ gm5
        have s06 := s5.trans s6
        try dsimp only
        refine at_set ?_
        try dsimp only
        have lks : (iv (nats (ksT w.length i q))).length ≤ 24 := by
          unfold iv nats ksT
          rw [List.length_map, List.length_map]
          have := List.length_filter_le (fun z => !(decide (z = i) || decide (z = q))) (List.range w.length)
          rw [List.length_range] at this
          omega
        have kin : ∀ x ∈ iv (nats (ksT w.length i q)), ∃ z, z ∈ ksT w.length i q ∧ x = V.int ((z : Nat) : Int) := fun x hx => by
          obtain ⟨y, hy, rfl⟩ := List.mem_map.mp hx
          obtain ⟨z, hz, rfl⟩ := List.mem_map.mp hy
          exact ⟨z, hz, rfl⟩
        refine asg_two_lc ?_
        refine ⟨_, rfl, E2, rfl, ⟨_, SqL.of gE2⟩, ?_⟩
        refine lcp (walk_list (K := K) (a := E2) (xs := iv (nats (ksT w.length i q)))) (fun _ => true) (fun x => match x with | .int z => .int (w.getD z.toNat 0) | y => y) (by omega) (fun H2 s => SqL.of (s _ _ gE2)) ?_ ?_
        · intro x hx H7 s7 Qy Qn ky kn
          obtain ⟨z, hz, rfl⟩ := kin x hx
          have kk := ky rfl H7 (Same.refl _)
          exact ⟨rfl, yes_te ⟨_, rfl, _, rfl, l, _, _, _, rfl, rfl, SqL.of (s7 _ _ gl6), atI_nat (let_at (ks_mem.mp hz).1), kk⟩⟩
        intro F1 H7 hF1 s7 g7
        have gF1 : H7 F1 = some (.lst (iv (wT w i q))) := by
          rw [g7, List.filter_eq_self.mpr (fun _ _ => rfl)]
          unfold wT iv nats
          simp only [List.map_map]
          rfl
        refine ⟨_, rfl, E2, rfl, ⟨_, SqL.of (s7 _ _ gE2)⟩, ?_⟩
        have P1 : PairOk [w].flatten.length mt' := by rw [flat1]; exact PP
        have npq : i ≠ q := fun e => by
          rw [← e] at hc
          have lts := o.2.2.2.2.1
          rw [flat1] at lts
          have := lts _ (List.getElem_mem hi)
          rw [getD_lt hi] at hc
          omega
        refine lcp (walk_list (K := K) (a := E2) (xs := iv (nats (ksT w.length i q)))) (fun _ => true) (fun x => match x with | .int z => .int (((ksT w.length i q).idxOf (mtn (setM mt' i q) z.toNat) : Nat) : Int) | y => y) (by omega) (fun H2 s => SqL.of (s _ _ (s7 _ _ gE2))) ?_ ?_
        · intro x hx H8 s8 Qy Qn ky kn
          obtain ⟨z, hz, rfl⟩ := kin x hx
          have kk : Qy (.int (((ksT w.length i q).idxOf (mtn (setM mt' i q) z) : Nat) : Int)) H8 := ky rfl H8 (Same.refl _)
          obtain ⟨z1, z2, z3⟩ := ks_mem.mp hz
          obtain ⟨sa, sb⟩ := setM_at P1 (p := i) (q := q) (by rw [flat1]; exact hi) (by rw [flat1]; exact hq) (k := z) (by rw [flat1]; exact z1)
          obtain ⟨b1, b2, b3, _⟩ := m3_ok P1 (p := i) (q := q) (by rw [flat1]; exact hi) (by rw [flat1]; exact hq) npq (k := z) (by rw [flat1]; exact z1) z2 z3
          rw [flat1] at b1
          have mem : m3 mt' i q z ∈ ksT w.length i q := ks_mem.mpr ⟨b1, b2, b3⟩
          obtain ⟨x1, x2⟩ := idx_asc (ks_asc w.length i q) mem
          rw [sb] at kk
          have at_ : ∀ {j y : Nat}, (ksT w.length i q)[j]? = some y → (iv (nats (ksT w.length i q)))[j]? = some (.int ((y : Nat) : Int)) := fun {j y} hj => by
            unfold iv nats
            rw [List.getElem?_map, List.getElem?_map, hj]
            rfl
          refine ⟨rfl, yes_te ?_⟩
          refine ⟨_, rfl, .inl ⟨rfl, _, SqL.of (s8 _ _ (s7 _ _ gE2))⟩, _, rfl, _, rfl, m2, _, _, _, rfl, rfl, SqL.of (s8 _ _ (s7 _ _ gm6)), atI_nat (iv_get sa), E2, _, _, _, _, rfl, rfl, SqL.of (s8 _ _ (s7 _ _ gE2)), rfl, ?_, at_ x1, ?_, ?_, kk⟩
          · unfold iv
            rw [List.all_map]
            exact List.all_eq_true.mpr fun _ _ => rfl
          · show decide (((m3 mt' i q z : Nat) : Int) = ((m3 mt' i q z : Nat) : Int)) = true
            exact decide_eq_true rfl
          · intro j y hj hy
            obtain ⟨u, hu, rfl⟩ : ∃ u, (ksT w.length i q)[j]? = some u ∧ y = .int ((u : Nat) : Int) := by
              cases hh : (ksT w.length i q)[j]? with
              | none =>
                unfold iv nats at hy
                rw [List.getElem?_map, List.getElem?_map, hh] at hy
                cases hy
              | some u => exact ⟨u, rfl, (Option.some.inj ((at_ hh).symm.trans hy)).symm⟩
            have := x2 j hj u hu
            show decide (((u : Nat) : Int) = ((m3 mt' i q z : Nat) : Int)) = false
            exact decide_eq_false (by omega)
        intro F2 H8 hF2 s8 g8
        have gF2 : H8 F2 = some (.lst (iv (mT mt' w.length i q))) := by
          rw [g8, List.filter_eq_self.mpr (fun _ _ => rfl)]
          unfold mT takM keptF iv nats
          simp only [List.map_map]
          rfl
        refine ⟨by show 2 ≤ sizeLine; decide, fun t ht => ?_⟩
        have s9 := same_upd (o := .tup [.ref F1, .ref F2]) ht
        refine ⟨t, _, rfl, SqT.of upd_same, rfl, _, _, rfl, _, _, rfl, rfl, ?_⟩
        have ln : (wT w i q).length ≤ f ∧ (wT w i q = [] ∨ (RimOk [wT w i q] ∧ MatOk (wT w i q) (mT mt' w.length i q))) := by
          subst eq_
          by_cases h2 : w.length = 2
          · rw [cut_two hp h2]
            exact ⟨Nat.zero_le _, .inl rfl⟩
          · obtain ⟨_, _, r1, r2, _, r3, _⟩ := tg_step o mok' hp h2
            exact ⟨by omega, .inr ⟨r1, r2⟩⟩
        exact ⟨f, by omega, F1, F2, _, _, _, _, _, _, _, _, rfl, s06.trans ((s7.trans s8).trans s9), s9 _ _ (s8 _ _ gF1), s9 _ _ gF2, ln.2, et, ln.1⟩
end
end W33
set_option Elab.async false
set_option linter.all false
set_option maxRecDepth 100000
set_option maxHeartbeats 1000000
namespace W33
open PySem L2 PySem.Spec PyProof.Rows WR WB WE WS
/-! ### the law's own: how many corners -/
theorem crn_skip {nx mt : List Int} {n i : Nat} : ∀ m, i ≤ m → (∀ j, i ≤ j → j < m → j ∈ (crn nx mt n i).1) → crn nx mt n m = crn nx mt n i := by
  intro m
  induction m with
  | zero =>
    intro h _
    obtain rfl : i = 0 := by omega
    rfl
  | succ m ih =>
    intro h hs
    by_cases c : i = m + 1
    · rw [c]
    · have e := ih (by omega) fun j a b => hs j a (by omega)
      have hm : m ∈ (crn nx mt n m).1 := by rw [e]; exact hs m (by omega) (by omega)
      rw [← e]
      show ((orb nx mt (n + 1) (crn nx mt n m).1 m []).1, if (orb nx mt (n + 1) (crn nx mt n m).1 m []).2 = [] then (crn nx mt n m).2 else _) = _
      rw [orb_in (by omega) hm, if_pos rfl]
def lfT (n : Nat) (s : List Nat) : List Nat := (List.range n).filter fun z => !decide (z ∈ s)
theorem lf_mem {n : Nat} {s : List Nat} {z : Nat} : z ∈ lfT n s ↔ z < n ∧ z ∉ s := by
  unfold lfT
  rw [List.mem_filter, List.mem_range]
  simp
theorem lf_nodup (n : Nat) (s : List Nat) : (lfT n s).Nodup := List.nodup_range.filter _
theorem lf_cons (n : Nat) (s : List Nat) (p : Nat) : lfT n (p :: s) = (lfT n s).filter fun z => !decide (z = p) := by
  unfold lfT
  rw [List.filter_filter]
  refine List.filter_congr fun z _ => ?_
  by_cases c : z = p <;> by_cases d : z ∈ s <;> simp [c, d]
theorem erase_nodup : ∀ {l : List Nat} {j p : Nat}, l.Nodup → l[j]? = some p → (nats l).eraseIdx j = nats (l.filter fun z => !decide (z = p))
  | [], j, p, _, h => by simp at h
  | x :: l, 0, p, nd, h => by
    have h : x = p := by simpa using h
    subst h
    have hn := (List.nodup_cons.mp nd).1
    show nats l = nats _
    rw [List.filter_cons, if_neg (by simp)]
    congr 1
    refine (List.filter_eq_self.mpr fun z hz => ?_).symm
    have : z ≠ x := fun e => hn (by rw [← e]; exact hz)
    simp [this]
  | x :: l, j + 1, p, nd, h => by
    have hn := (List.nodup_cons.mp nd).1
    have h : l[j]? = some p := by simpa using h
    have : x ≠ p := fun e => hn (by rw [e]; exact List.mem_of_getElem? h)
    have ih := erase_nodup (List.nodup_cons.mp nd).2 h
    rw [List.filter_cons, if_pos (by simp [this])]
    show (x : Int) :: (nats l).eraseIdx j = (x : Int) :: nats _
    rw [ih]
theorem rg_nats (n : Nat) : rgV 0 (n : Int) = iv (nats (List.range n)) := by
  unfold rgV iv nats
  rw [List.map_map, show (((n : Int) - 0).toNat) = n by omega]
  refine List.map_congr_left fun i _ => ?_
  show V.int (0 + (i : Int)) = V.int (i : Int)
  rw [Int.zero_add]
def spCo : Sp := fun vs H Q _ => ∃ (m : Addr) (wd mt : List Int), vs = [.ref m] ∧ H m = some (.lst (iv mt)) ∧ wd.length ≤ 60 ∧ MatesOk wd.length mt ∧ ∀ H', Same H H' → Q (.int ((cornF [wd] mt).length : Int)) H'
abbrev sCo : Stmt := top 82
abbrev nCo : List Str := ["_law_mates", "_law_left_here", "_law_many", "_law_begin", "_law_place"]
theorem scCo : FnScope nCo ["_law_mates"] (defScope sCo) := ⟨rfl, rfl, rfl, by decide +kernel, rfl, by decide +kernel, by decide +kernel⟩
section
variable {P : Program} {w : World} {K : PySem.W.Frag} {mg : Str → Option Value} {base : Heap} {C CR CS : Addr}
theorem ok_Co {f : Addr} {fd : FuncData} (F : Fun K "_law_corners" "_law_corners" sCo f fd) (N : TN mg)   : FnOk P w K mg base CX0 1 f fd ["_law_mates"] (spCo) := by
  refine F.ok scCo (fun vs H Q E h => ?_) (fun cdv A outer s H vs Q E hr h => ?_)
  · obtain ⟨m, wd, mt, rfl, _⟩ := h
    rfl
  · obtain ⟨m, wd, mt, rfl, hm, l60, mo, k⟩ := h
    refine ⟨_, pss_cons (ps_par (i := 1) (j := 2) (by rfl) scCo.nd rfl rfl (by decide) rfl rfl (pa_cons (pe_listRg rfl (by rfl) N.list (prg_1 (by rfl) N.range (pe_callB call_len_seq (by rfl) N.len PySem.boot_len (pa_cons (pv 0) pa_nil)))) (pa_cons pe_int pa_nil)) (by rfl))
      (pss_cons (ps_while PassesOwn.never (pt_cmpR (op_neD hr.units) (pv 1) (pe_lst pa_nil) (nomark _))
      (pss_cons (ps_par (i := 3) (j := 2) (by rfl) scCo.nd rfl rfl (by decide) rfl rfl (pa_cons (pe_ix ix_list (pv 1) pe_int (fun _ _ => rfl)) (pa_cons (pe_op op_add (pv 2) pe_int) pa_nil)) (by rfl))
      (pss_cons (ps_set (i := 4) scCo.nd rfl (Or.inl rfl) (pv 3))
      (pss_one (ps_while PassesOwn.never (pt_cmpR op_in_seq (pv 4) (pv 1) (by rfl))
      (pss_cons (ps_expr (pe_bm PySem.F.plainAttrs_list PySem.F.slot_list_remove PySem.F.type_list_remove mt_remove (pv 1) (pa_cons (pv 4) pa_nil)))
      (pss_one (ps_set (i := 4) scCo.nd rfl (Or.inl rfl) (pe_op op_mod (pe_callTy call_int1 (by rfl) N.int (by decide +kernel) (pa_cons (pe_op op_add (pe_ix ix_list (pv 0) (pv 4) (fun _ _ => rfl)) pe_int) pa_nil)) (pe_callB call_len_seq (by rfl) N.len PySem.boot_len (pa_cons (pv 0) pa_nil)))))))))))
      (pss_one (ps_ret (pv 2)))), ?_⟩
    obtain ⟨lm, hmr⟩ := mo
    obtain ⟨n, en⟩ : ∃ n, n = wd.length := ⟨_, rfl⟩
    rw [← en] at lm hmr l60
    have nxv : ∀ x, x < n → nxt (nxF 0 [wd]) mt x = (mtn mt x + 1) % n := fun x hx => by
      have m1 := (mtn_at (n := n) ⟨lm, hmr⟩ hx).1
      rw [nxt_eq, nx_ring (by rw [← en]; exact m1), ← en]
    have hlt : ∀ x, x < n → nxt (nxF 0 [wd]) mt x < n := fun x hx => by
      rw [nxv x hx]
      exact Nat.mod_lt _ (by omega)
    have ecf : (cornF [wd] mt) = (crn (nxF 0 [wd]) mt n n).2 := by
      unfold cornF
      rw [flat1, en]
    rw [ecf] at k
    refine ⟨_, rfl, m, _, rfl, .inl (SqL.of hm), _, rfl, ⟨by decide, by decide, by rw [List.length_map]; omega, by rw [List.length_map]; omega, by rw [List.length_map]; omega⟩, fun L hL => ⟨_, _, rfl, ?_⟩⟩
    rw [List.length_map, lm, rg_nats]
    have s1 := same_upd (o := .lst (iv (nats (List.range n)))) hL
    have g1 : L2.upd H L (.lst (iv (nats (List.range n)))) L = some (.lst (iv (nats (lfT n [])))) := by
      rw [upd_same]
      have : lfT n [] = List.range n := List.filter_eq_self.mpr fun _ _ => by simp
      rw [this]
    generalize L2.upd H L (.lst (iv (nats (List.range n)))) = H1 at s1 g1 ⊢
    try dsimp only
    refine ⟨fun q σ H' => ∃ (v3 v4 : Option V) (i : Nat), σ = [some (.ref m), some (.ref L), some (.int ((crn (nxF 0 [wd]) mt n i).2.length : Int)), v3, v4] ∧ i ≤ n ∧ Same H H' ∧ H' L = some (.lst (iv (nats (lfT n (crn (nxF 0 [wd]) mt n i).1)))) ∧ q = (lfT n (crn (nxF 0 [wd]) mt n i).1).length, ⟨_, none, none, 0, rfl, Nat.zero_le _, s1, g1, rfl⟩, ?_⟩
    rintro q σ H2 ⟨v3, v4, i, rfl, hi, s2, g2, rfl⟩
    obtain ⟨so, _, ca, _⟩ := crn_all hlt i hi
    obtain ⟨s, es⟩ : ∃ s, s = (crn (nxF 0 [wd]) mt n i).1 := ⟨_, rfl⟩
    rw [← es] at so ca g2 ⊢
    have hm2 := s2 _ _ hm
    refine ⟨_, rfl, Nat.zero_le _, fun fo hfo => ?_⟩
    have s3 := same_upd (o := .lst []) hfo
    refine ⟨.list ((nats (lfT n s)).map .int), .list [], .lst (SqL.of (s3 _ _ g2)) (dpInts _), .lst (SqL.of upd_same) .nil, PySem.W.ke_shaped_ints _, by rfl, ?_⟩
    rw [eq_nil]
    have s03 := s2.trans s3
    have g3 := s3 _ _ g2
    generalize L2.upd H2 fo (.lst []) = H3 at s3 s03 g3 ⊢
    refine ⟨_, rfl, ?_⟩
    cases el : lfT n s with
    | nil =>
      refine iteF' (by rfl) ?_
      have : crn (nxF 0 [wd]) mt n n = crn (nxF 0 [wd]) mt n i := crn_skip n hi fun j _ hj => by
        rw [← es]
        by_cases c : j ∈ s
        · exact c
        · have := lf_mem.mpr ⟨hj, c⟩
          rw [el] at this
          cases this
      rw [this] at k
      exact ⟨_, rfl, k H3 s03⟩
    | cons b rest =>
      refine iteT' (by rfl) ?_
      rw [el] at g3
      have hb := lf_mem.mp (show b ∈ lfT n s by rw [el]; exact List.mem_cons_self)
      have bi : ∀ j, i ≤ j → j < b → j ∈ s := fun j _ hj => by
        by_cases c : j ∈ s
        · exact c
        · have hm := lf_mem.mpr ⟨(show j < n by omega), c⟩
          rw [el] at hm
          have asc : (lfT n s).Pairwise (· < ·) := (List.pairwise_lt_range).filter _
          rw [el] at asc
          rcases List.mem_cons.mp hm with e | hm
          · omega
          · have := (List.pairwise_cons.mp asc).1 j hm
            omega
      have ib : i ≤ b := by
        by_cases c : b < i
        · exact absurd ((ca b).mpr ⟨b, c, .refl _ _⟩) hb.2
        · omega
      have eb : crn (nxF 0 [wd]) mt n b = crn (nxF 0 [wd]) mt n i := crn_skip b ib fun j h1 h2 => by rw [← es]; exact bi j h1 h2
      refine ⟨fun σ' H' => ∃ m', m' < (b :: rest).length ∧ ∃ (v3 v4 : Option V) (i : Nat), σ' = [some (.ref m), some (.ref L), some (.int ((crn (nxF 0 [wd]) mt n i).2.length : Int)), v3, v4] ∧ i ≤ n ∧ Same H H' ∧ H' L = some (.lst (iv (nats (lfT n (crn (nxF 0 [wd]) mt n i).1)))) ∧ m' = (lfT n (crn (nxF 0 [wd]) mt n i).1).length, fun _ _ z => z, ?_⟩
      refine ⟨_, rfl, L, _, _, _, rfl, rfl, SqL.of g3, atI_nat (j := 0) rfl, _, rfl, _, _, rfl, rfl, _, _, rfl, ?_⟩
      try dsimp only
      refine ⟨_, rfl, ?_⟩
      refine at_set ?_
      try dsimp only
      have so : SeenOk n s := so
      obtain ⟨cs, ecs⟩ : ∃ cs, cs = (crn (nxF 0 [wd]) mt n i).2 := ⟨_, rfl⟩
      rw [← ecs]
      have nmL : m ≠ L := fun z => by rw [z, hL] at hm; cases hm
      refine ⟨fun q σ H' => ∃ (k pl : Nat) (s' c : List Nat), σ = [some (.ref m), some (.ref L), some (.int ((cs.length : Int) + 1)), some (.int (b : Int)), some (.int (pl : Int))] ∧ Same H H' ∧ H' L = some (.lst (iv (nats (lfT n s')))) ∧ SeenOk n s' ∧ pl < n ∧ orb (nxF 0 [wd]) mt k s' pl c = orb (nxF 0 [wd]) mt (n + 1) s b [] ∧ n - s'.length < k ∧ (c = [] → pl = b ∧ s' = s) ∧ (c ≠ [] → b ∈ s') ∧ (∀ x ∈ s, x ∈ s') ∧ q = (lfT n s').length,
        ⟨_, n + 1, b, s, [], rfl, s03, by rw [el]; exact g3, so, hb.1, rfl, by omega, fun _ => ⟨rfl, rfl⟩, fun z => absurd rfl z, fun _ z => z, rfl⟩, ?_⟩
      rintro q σ H4 ⟨k', pl, s', c, rfl, s4, g4, so4, hpl, eo, hk, hc0, hc1, hss, rfl⟩
      refine ⟨_, rfl, _, rfl, L, _, rfl, .inl (SqL.of g4), rfl, flat_nats _, _, rfl, ?_⟩
      show if inV (.int (pl : Int)) (iv (nats (lfT n s'))) = true then _ else _
      rw [inV_nats]
      by_cases hin : pl ∈ s'
      · refine iteF' (decide_eq_false fun z => (lf_mem.mp z).2 hin) ?_
        rw [orb_in (by omega) hin] at eo
        have cn : c ≠ [] := fun z => by
          obtain ⟨e1, e2⟩ := hc0 z
          rw [e1, e2] at hin
          exact hb.2 hin
        have ecr : crn (nxF 0 [wd]) mt n (b + 1) = (s', cs ++ [c]) := by
          show ((orb (nxF 0 [wd]) mt (n + 1) (crn (nxF 0 [wd]) mt n b).1 b []).1, if (orb (nxF 0 [wd]) mt (n + 1) (crn (nxF 0 [wd]) mt n b).1 b []).2 = [] then (crn (nxF 0 [wd]) mt n b).2 else (crn (nxF 0 [wd]) mt n b).2 ++ [(orb (nxF 0 [wd]) mt (n + 1) (crn (nxF 0 [wd]) mt n b).1 b []).2]) = _
          rw [eb, ← es, ← eo, if_neg cn, ← ecs]
        have lt : (lfT n s').length < (b :: rest).length := by
          rw [← el]
          have := L2.nat_nodup_len (b :: lfT n s') (lfT n s) (List.nodup_cons.mpr ⟨fun z => (lf_mem.mp z).2 (hc1 cn), lf_nodup n s'⟩) fun x hx => by
            rcases List.mem_cons.mp hx with rfl | hx
            · exact lf_mem.mpr hb
            · obtain ⟨x1, x2⟩ := lf_mem.mp hx
              exact lf_mem.mpr ⟨x1, fun z => x2 (hss x z)⟩
          rw [List.length_cons] at this
          omega
        refine ⟨_, lt, some (.int (b : Int)), some (.int (pl : Int)), b + 1, ?_, hb.1, s4, by rw [ecr]; exact g4, by rw [ecr]⟩
        rw [ecr]
        show _ = [_, _, some (V.int (((cs ++ [c]).length : Nat) : Int)), _, _]
        rw [List.length_append]
        rfl
      · have hml : pl ∈ lfT n s' := lf_mem.mpr ⟨hpl, hin⟩
        refine iteT' (decide_eq_true hml) ?_
        refine ⟨fun σ' H' => ∃ m', m' < (lfT n s').length ∧ ∃ (k pl : Nat) (s' c : List Nat), σ' = [some (.ref m), some (.ref L), some (.int ((cs.length : Int) + 1)), some (.int (b : Int)), some (.int (pl : Int))] ∧ Same H H' ∧ H' L = some (.lst (iv (nats (lfT n s')))) ∧ SeenOk n s' ∧ pl < n ∧ orb (nxF 0 [wd]) mt k s' pl c = orb (nxF 0 [wd]) mt (n + 1) s b [] ∧ n - s'.length < k ∧ (c = [] → pl = b ∧ s' = s) ∧ (c ≠ [] → b ∈ s') ∧ (∀ x ∈ s, x ∈ s') ∧ m' = (lfT n s').length, fun _ _ z => z, ?_⟩
        obtain ⟨x1, x2⟩ := idx_asc (ks := lfT n s') ((List.pairwise_lt_range).filter _) hml
        have y1 : (nats (lfT n s'))[(lfT n s').idxOf pl]? = some ((pl : Nat) : Int) := by
          unfold nats
          rw [List.getElem?_map, x1]
          rfl
        have y2 : ∀ j, j < (lfT n s').idxOf pl → (nats (lfT n s'))[j]? ≠ some ((pl : Nat) : Int) := fun j hj z => by
          unfold nats at z
          rw [List.getElem?_map] at z
          cases hh : (lfT n s')[j]? with
          | none => rw [hh] at z; cases z
          | some u =>
            rw [hh] at z
            have z : ((u : Nat) : Int) = (pl : Int) := Option.some.inj z
            exact x2 j hj u hh (by omega)
        refine ⟨_, rfl, .inl ⟨rfl, _, SqL.of g4⟩, _, rfl, L, nats (lfT n s'), (pl : Int), _, rfl, rfl, g4, y1, y2, ?_⟩
        have ee : ((nats (lfT n s')).eraseIdx ((lfT n s').idxOf pl)).map V.int = iv (nats (lfT n (pl :: s'))) := by
          rw [erase_nodup (lf_nodup n s') x1, lf_cons]
        rw [ee]
        have s5 : Same H (L2.upd H4 L (.lst (iv (nats (lfT n (pl :: s')))))) := fun a o e => by
          rw [upd_ne (ne_of_none e hL)]
          exact s4 _ _ e
        have g5 : L2.upd H4 L (.lst (iv (nats (lfT n (pl :: s'))))) L = some (.lst (iv (nats (lfT n (pl :: s'))))) := upd_same
        generalize L2.upd H4 L (.lst (iv (nats (lfT n (pl :: s'))))) = H5 at s5 g5 ⊢
        have hm5 := s5 _ _ hm
        obtain ⟨ka, ga, _⟩ := mtn_at (n := n) ⟨lm, hmr⟩ hpl
        refine ⟨_, rfl, _, rfl, m, _, _, _, rfl, rfl, SqL.of hm5, atI_nat (iv_get ga), _, _, rfl, rfl, .inl ⟨_, rfl, _, rfl, m, _, rfl, .inl (SqL.of hm5), _, _, rfl, rfl, (by rw [List.length_map]; omega), ?_⟩⟩
        obtain ⟨k2, rfl⟩ : ∃ k2, k' = k2 + 1 := ⟨k' - 1, by omega⟩
        rw [orb_out hin] at eo
        have so5 : SeenOk n (pl :: s') := ⟨List.nodup_cons.mpr ⟨hin, so4.1⟩, fun x hx => by
          rcases List.mem_cons.mp hx with rfl | hx
          · exact hpl
          · exact so4.2 x hx⟩
        have ll := so4.lt hpl hin
        have lt2 : (lfT n (pl :: s')).length < (lfT n s').length := by
          have := L2.nat_nodup_len (pl :: lfT n (pl :: s')) (lfT n s') (List.nodup_cons.mpr ⟨fun z => (lf_mem.mp z).2 List.mem_cons_self, lf_nodup n _⟩) fun x hx => by
            rcases List.mem_cons.mp hx with rfl | hx
            · exact hml
            · obtain ⟨x1, x2⟩ := lf_mem.mp hx
              exact lf_mem.mpr ⟨x1, fun z => x2 (List.mem_cons_of_mem _ z)⟩
          rw [List.length_cons] at this
          omega
        refine ⟨_, lt2, k2, nxt (nxF 0 [wd]) mt pl, pl :: s', c ++ [pl], ?_, s5, g5, so5, hlt pl hpl, eo, by rw [List.length_cons]; omega, fun z => by simp at z, fun _ => ?_, fun x hx => List.mem_cons_of_mem _ (hss x hx), rfl⟩
        · have e : (fun i j => V.int (i % j)) ((fun i j : Int => i + j) ((mtn mt pl : Nat) : Int) 1) (((iv mt).length : Nat) : Int) = V.int ((nxt (nxF 0 [wd]) mt pl : Nat) : Int) := by
            show V.int ((((mtn mt pl : Nat) : Int) + 1) % (((iv mt).length : Nat) : Int)) = _
            rw [List.length_map, lm, modC, nxv pl hpl]
          show [some (V.ref m), some (V.ref L), some (V.int ((cs.length : Int) + 1)), some (V.int (b : Int)), some (V.int ((((mtn mt pl : Nat) : Int) + 1) % (((iv mt).length : Nat) : Int)))] = _
          rw [show V.int ((((mtn mt pl : Nat) : Int) + 1) % (((iv mt).length : Nat) : Int)) = V.int ((nxt (nxF 0 [wd]) mt pl : Nat) : Int) from e]
        · by_cases z : c = []
          · rw [(hc0 z).1]
            exact List.mem_cons_self
          · exact List.mem_cons_of_mem _ (hc1 z)
end
end W33
set_option Elab.async false
set_option linter.all false
set_option maxRecDepth 100000
set_option maxHeartbeats 1000000
namespace W33
open PySem L2 PySem.Spec PyProof.Rows WR WB WE WS
/-! ### the law's own: drawn sewings of one ring -/
theorem gd_same {l : List Int} {i : Nat} {v : Int} (h : i < l.length) : (l.set i v).getD i 0 = v := by
  rw [List.getD_eq_getElem?_getD, List.getElem?_set_self h]
  rfl
theorem gd_ne {l : List Int} {i j : Nat} {v : Int} (h : i ≠ j) : (l.set i v).getD j 0 = l.getD j 0 := by
  rw [List.getD_eq_getElem?_getD, List.getElem?_set_ne h, List.getD_eq_getElem?_getD]
structure Part (n k : Nat) (wd mt : List Int) (L : List Nat) : Prop where
  lw : wd.length = n
  lm : mt.length = n
  nd : L.Nodup
  lt : ∀ x ∈ L, x < n
  ok : ∀ p, p < n → p ∉ L → 1 ≤ (wd.getD p 0).natAbs ∧ (wd.getD p 0).natAbs ≤ k ∧ ∃ q, q < n ∧ q ∉ L ∧ q ≠ p ∧ mt.getD p 0 = (q : Int) ∧ mt.getD q 0 = (p : Int) ∧ wd.getD q 0 = -wd.getD p 0
def rmv (L : List Nat) (a : Nat) : List Nat := L.filter fun z => !decide (z = a)
theorem rmv_mem {L : List Nat} {a z : Nat} : z ∈ rmv L a ↔ z ∈ L ∧ z ≠ a := by
  unfold rmv
  rw [List.mem_filter]
  simp
theorem rmv_len {L : List Nat} {a : Nat} (nd : L.Nodup) (h : a ∈ L) : (rmv L a).length + 1 = L.length := by
  obtain ⟨j, hj⟩ := List.getElem?_of_mem h
  have e := congrArg List.length (erase_nodup nd hj)
  have hl := (List.getElem?_eq_some_iff.mp hj).1
  rw [List.length_eraseIdx] at e
  unfold nats at e
  rw [List.length_map, List.length_map, if_pos hl] at e
  unfold rmv
  omega
theorem Part.step {n k : Nat} {wd mt : List Int} {L : List Nat} {a b : Nat} {x : Int} (h : Part n k wd mt L) (ha : a ∈ L) (hb : b ∈ rmv L a) (x1 : 1 ≤ x.natAbs) (xk : x.natAbs ≤ k) :
    Part n k ((wd.set a x).set b (-x)) ((mt.set a (b : Int)).set b (a : Int)) (rmv (rmv L a) b) := by
  have hb2 := rmv_mem.mp hb
  have an := h.lt a ha
  have bn := h.lt b hb2.1
  have ab : a ≠ b := fun z => hb2.2 z.symm
  have wa : ((wd.set a x).set b (-x)).getD a 0 = x := by rw [gd_ne (Ne.symm ab), gd_same (by rw [h.lw]; exact an)]
  have wb : ((wd.set a x).set b (-x)).getD b 0 = -x := gd_same (by rw [List.length_set, h.lw]; exact bn)
  have ma : ((mt.set a (b : Int)).set b (a : Int)).getD a 0 = (b : Int) := by rw [gd_ne (Ne.symm ab), gd_same (by rw [h.lm]; exact an)]
  have mb : ((mt.set a (b : Int)).set b (a : Int)).getD b 0 = (a : Int) := gd_same (by rw [List.length_set, h.lm]; exact bn)
  have wo : ∀ p, p ≠ a → p ≠ b → ((wd.set a x).set b (-x)).getD p 0 = wd.getD p 0 := fun p p1 p2 => by rw [gd_ne (Ne.symm p2), gd_ne (Ne.symm p1)]
  have mo : ∀ p, p ≠ a → p ≠ b → ((mt.set a (b : Int)).set b (a : Int)).getD p 0 = mt.getD p 0 := fun p p1 p2 => by rw [gd_ne (Ne.symm p2), gd_ne (Ne.symm p1)]
  have na : a ∉ rmv (rmv L a) b := fun z => (rmv_mem.mp (rmv_mem.mp z).1).2 rfl
  have nb : b ∉ rmv (rmv L a) b := fun z => (rmv_mem.mp z).2 rfl
  refine ⟨by rw [List.length_set, List.length_set, h.lw], by rw [List.length_set, List.length_set, h.lm], (h.nd.filter _).filter _, fun z hz => h.lt z (rmv_mem.mp (rmv_mem.mp hz).1).1, fun p hp hn => ?_⟩
  by_cases pa : p = a
  · subst pa
    rw [wa, ma]
    exact ⟨x1, xk, b, bn, nb, Ne.symm ab, rfl, mb, wb⟩
  · by_cases pb : p = b
    · subst pb
      rw [wb, mb]
      exact ⟨by omega, by omega, a, an, na, ab, rfl, ma, by rw [wa]; omega⟩
    · rw [wo p pa pb, mo p pa pb]
      have hnL : p ∉ L := fun z => hn (rmv_mem.mpr ⟨rmv_mem.mpr ⟨z, pa⟩, pb⟩)
      obtain ⟨y1, y2, q, qn, qL, qp, e1, e2, e3⟩ := h.ok p hp hnL
      have qa : q ≠ a := fun z => qL (z ▸ ha)
      have qb : q ≠ b := fun z => qL (z ▸ hb2.1)
      exact ⟨y1, y2, q, qn, fun z => qL (rmv_mem.mp (rmv_mem.mp z).1).1, qp, e1, by rw [mo q qa qb]; exact e2, by rw [wo q qa qb]; exact e3⟩
theorem wd_map (wd : List Int) : (List.range wd.length).map (fun i => wd.getD i 0) = wd := by
  refine List.ext_getElem (by simp) fun i h1 h2 => ?_
  rw [List.getElem_map, List.getElem_range, List.getD_eq_getElem?_getD, List.getElem?_eq_getElem h2]
  rfl
theorem cnt_pos (wd : List Int) (z : Int) : wd.count z = ((List.range wd.length).filter fun i => wd.getD i 0 == z).length := by
  conv => lhs; rw [← wd_map wd]
  rw [List.count, List.countP_map, List.countP_eq_length_filter]
  rfl
theorem Part.cnt {n k : Nat} {wd mt : List Int} (h : Part n k wd mt []) (z : Int) : wd.count z ≤ wd.count (-z) := by
  rw [cnt_pos, cnt_pos, h.lw]
  have mm : ∀ i, i < n → mtn mt i < n ∧ mtn mt (mtn mt i) = i ∧ wd.getD (mtn mt i) 0 = -wd.getD i 0 := fun i hi => by
    obtain ⟨_, _, q, qn, _, _, e1, e2, e3⟩ := h.ok i hi (by simp)
    have e : mtn mt i = q := by unfold mtn; rw [e1]; exact Int.toNat_natCast q
    rw [e]
    refine ⟨qn, ?_, e3⟩
    unfold mtn
    rw [e2]
    exact Int.toNat_natCast i
  have := L2.nat_nodup_len (((List.range n).filter fun i => wd.getD i 0 == z).map (mtn mt)) ((List.range n).filter fun i => wd.getD i 0 == -z) ?_ ?_
  · rw [List.length_map] at this
    exact this
  · refine List.pairwise_map.mpr (((List.nodup_range (n := n)).filter _).imp_of_mem fun {a b} ha hb hab e => hab ?_)
    have a1 := List.mem_range.mp (List.mem_filter.mp ha).1
    have b1 := List.mem_range.mp (List.mem_filter.mp hb).1
    rw [← (mm a a1).2.1, e, (mm b b1).2.1]
  · intro y hy
    obtain ⟨i, hi, rfl⟩ := List.mem_map.mp hy
    obtain ⟨i1, i2⟩ := List.mem_filter.mp hi
    have i1 := List.mem_range.mp i1
    refine List.mem_filter.mpr ⟨List.mem_range.mpr (mm i i1).1, ?_⟩
    rw [(mm i i1).2.2, eq_of_beq i2]
    exact beq_self_eq_true _
theorem Part.done {n k : Nat} {wd mt : List Int} (h : Part n k wd mt []) (n1 : 1 ≤ n) (n24 : n ≤ 24) (k26 : k ≤ 26) : RimOk [wd] ∧ MatOk wd mt := by
  have fl : [wd].flatten = wd := by simp
  have lt : Lts wd := fun x hx => by
    obtain ⟨p, hp, rfl⟩ := List.getElem_of_mem hx
    have := h.ok p (by rw [← h.lw]; exact hp) (by simp)
    have e : wd.getD p 0 = wd[p] := by
      rw [List.getD_eq_getElem?_getD, List.getElem?_eq_getElem hp]
      rfl
    rw [e] at this
    exact ⟨this.1, by omega⟩
  have gm : ∀ p (hp : p < mt.length), mt.getD p 0 = mt[p] := fun p hp => by
    rw [List.getD_eq_getElem?_getD, List.getElem?_eq_getElem hp]
    rfl
  refine ⟨⟨by simp, by simp, fun x hx => ?_, by rw [fl, h.lw]; exact n24, by rw [fl]; exact lt, by
    rw [fl]
    refine bal_none fun z => ?_
    have a := h.cnt z
    have b := h.cnt (-z)
    rw [Int.neg_neg] at b
    omega⟩, ⟨⟨h.lm.trans h.lw.symm, fun z hz => ?_⟩, fun i hi => ?_⟩, fun i hi => ?_⟩
  · rw [List.mem_singleton.mp hx]
    intro e
    have := h.lw
    rw [e] at this
    simp at this
    omega
  · obtain ⟨p, hp, rfl⟩ := List.getElem_of_mem hz
    obtain ⟨_, _, q, qn, _, _, e1, _⟩ := h.ok p (by rw [← h.lm]; exact hp) (by simp)
    rw [← gm p hp, e1, h.lw]
    omega
  · obtain ⟨_, _, q, qn, _, qp, e1, e2, _⟩ := h.ok i (by rw [← h.lm]; exact hi) (by simp)
    rw [← gm i hi, e1, Int.toNat_natCast]
    refine ⟨by omega, ?_⟩
    have hq : q < mt.length := by rw [h.lm]; exact qn
    rw [List.getElem?_eq_getElem hq, ← gm q hq, e2]
  · obtain ⟨_, _, q, qn, _, qp, e1, e2, e3⟩ := h.ok i (by rw [← h.lm]; exact hi) (by simp)
    rw [← gm i hi, e1, Int.toNat_natCast]
    exact e3
theorem er_map (f : Int → V) : ∀ (l : List Int) (j : Nat), (l.map f).eraseIdx j = (l.eraseIdx j).map f
  | [], _ => rfl
  | _ :: _, 0 => rfl
  | x :: l, j + 1 => by show f x :: (l.map f).eraseIdx j = f x :: (l.eraseIdx j).map f; rw [er_map f l j]
theorem pop_nat {L : List Nat} {q : Int} (nd : L.Nodup) (q0 : 0 ≤ q) (q1 : q < (L.length : Int)) : ∃ (j z : Nat), seqIndex? q (iv (nats L)).length = some j ∧ (iv (nats L))[j]? = some (V.int (z : Int)) ∧ z ∈ L ∧ (iv (nats L)).eraseIdx j = iv (nats (rmv L z)) := by
  obtain ⟨j, rfl⟩ : ∃ j : Nat, q = (j : Int) := ⟨q.toNat, by omega⟩
  have hj : j < L.length := by omega
  have hg : L[j]? = some L[j] := List.getElem?_eq_getElem hj
  have len : (iv (nats L)).length = L.length := by unfold iv nats; rw [List.length_map, List.length_map]
  refine ⟨j, L[j], ?_, iv_get (by unfold nats; rw [List.getElem?_map, hg]; rfl), List.getElem_mem hj, ?_⟩
  · rw [PySem.seqIndex_of (by omega) (by rw [len]; exact q1), Int.toNat_natCast]
  · have := erase_nodup nd hg
    unfold iv
    rw [er_map, this]
    rfl
theorem set_iv (l : List Int) (i : Nat) (v : Int) : (iv l).set i (V.int v) = iv (l.set i v) := by
  unfold iv
  rw [List.map_set]
theorem rep_iv (b : Nat) : (List.replicate (2 * (b : Int)).toNat [V.int 0]).flatten = iv (List.replicate (2 * b) 0) := by
  rw [show (2 * (b : Int)).toNat = 2 * b by omega]
  generalize 2 * b = m
  induction m with
  | zero => rfl
  | succ m ih =>
    rw [List.replicate_succ, List.flatten_cons, ih]
    rfl
theorem part_start (n k : Nat) : Part n k (List.replicate n 0) (List.replicate n 0) (List.range n) :=
  ⟨List.length_replicate, List.length_replicate, List.nodup_range, fun x hx => List.mem_range.mp hx, fun p hp hn => absurd (List.mem_range.mpr hp) hn⟩
theorem lenN (L : List Nat) : (iv (nats L)).length = L.length := by unfold iv nats; rw [List.length_map, List.length_map]
def spSewn (K : PySem.W.Frag) : Sp := fun vs H Q _ => ∃ (a c : Addr) (b k n : Nat), vs = [.ref a, .int (b : Int), .int (k : Int)] ∧ HandAt H a c n ∧ n ≤ 8000 ∧ 1 ≤ b ∧ b ≤ 12 ∧ 1 ≤ k ∧ k ≤ 26 ∧
  ∀ (q l m : Addr) (H' : Hp) (wd mt : List Int), H l = none → H m = none → Drew a c (n + 40) H H' → SqT K H' q [.ref l, .ref m] → H' l = some (.lst (iv wd)) → H' m = some (.lst (iv mt)) → RimOk [wd] → MatOk wd mt → Q (.ref q) H'
abbrev sSw : Stmt := top 83
abbrev nSw : List Str := ["_law_pen_here", "_law_bands", "_law_kinds", "_law_left_here", "_law_letters", "_law_mates", "_law_band", "_law_one", "_law_other"]
theorem scSw : FnScope nSw ["_law_pen_here", "_law_bands", "_law_kinds"] (defScope sSw) := ⟨rfl, rfl, rfl, by decide +kernel, rfl, by decide +kernel, by decide +kernel⟩
section
variable {P : Program} {w : World} {K : PySem.W.Frag} {mg : Str → Option Value} {base : Heap} {C CR CS : Addr}
theorem ok_Sw {f : Addr} {fd : FuncData} (F : Fun K "_law_sewn" "_law_sewn" sSw f fd) (N : TN mg)  (G_draw : Cal P w K mg base "_law_draw" 1 ["_law_pen_here", "_law_many"] (spTake)) : FnOk P w K mg base CX0 2 f fd ["_law_pen_here", "_law_bands", "_law_kinds"] ((spSewn K)) := by
  refine F.ok scSw (fun vs H Q E h => ?_) (fun cdv A outer s H vs Q E hr h => ?_)
  · obtain ⟨a, c, b, k, n, rfl, _⟩ := h
    rfl
  · obtain ⟨a, c, b, k, n, rfl, hH, hn, b1, b12, k1, k26, kq⟩ := h
    refine ⟨_, pss_cons (ps_par3 (i := 3) (j := 4) (l := 5) (by rfl) scSw.nd rfl rfl rfl (by decide) (by decide) (by decide) rfl rfl rfl (pa_cons (pe_listRg rfl (by rfl) N.list (prg_1 (by rfl) N.range (pe_op op_mul pe_int (pv 1)))) (pa_cons (pe_op op_rep (pe_lst (pa_cons pe_int pa_nil)) (pe_op op_mul pe_int (pv 1))) (pa_cons (pe_op op_rep (pe_lst (pa_cons pe_int pa_nil)) (pe_op op_mul pe_int (pv 1))) pa_nil))) (by rfl))
      (pss_cons (ps_for PassesOwn.never rfl (pi_range1 (by rfl) N.range (pa_cons (pv 1) pa_nil)) (pg_name (i := 6) scSw.nd rfl (Or.inl rfl))
      (pss_cons (ps_par (i := 7) (j := 8) (by rfl) scSw.nd rfl rfl (by decide) rfl rfl (pa_cons (pe_bm PySem.F.plainAttrs_list PySem.F.slot_list_pop PySem.F.type_list_pop mt_popAt (pv 3) (pa_cons (pe_cal G_draw hr (by decide) (by rfl) (pa_cons (pv 0) (pa_cons (pe_callB call_len_seq (by rfl) N.len PySem.boot_len (pa_cons (pv 3) pa_nil)) pa_nil))) pa_nil)) (pa_cons (pe_bm PySem.F.plainAttrs_list PySem.F.slot_list_pop PySem.F.type_list_pop mt_popAt (pv 3) (pa_cons (pe_cal G_draw hr (by decide) (by rfl) (pa_cons (pv 0) (pa_cons (pe_callB call_len_seq (by rfl) N.len PySem.boot_len (pa_cons (pv 3) pa_nil)) pa_nil))) pa_nil)) pa_nil)) (by rfl))
      (pss_cons (ps_asg (pe_op op_add pe_int (pe_cal G_draw hr (by decide) (by rfl) (pa_cons (pv 0) (pa_cons (pv 2) pa_nil)))) (pg_sub (pv 4) (pv 7) set_list))
      (pss_cons (ps_asg (pe_un un_neg (pe_ix ix_list (pv 4) (pv 7) (fun _ _ => rfl))) (pg_sub (pv 4) (pv 8) set_list))
      (pss_one (ps_asg (pe_tup (pa_cons (pv 8) (pa_cons (pv 7) pa_nil))) (pg_tup (n := 2) rfl (pgs_cons (pg_sub (pv 5) (pv 7) set_list) (pgs_cons (pg_sub (pv 5) (pv 8) set_list) pgs_nil)))))))))
      (pss_one (ps_ret (pe_tupB (pa_cons (pv 4) (pa_cons (pv 5) pa_nil)))))), ?_⟩
    refine ⟨_, rfl, 2, _, rfl, rfl, .inl ⟨by decide, by decide⟩, _, rfl, ⟨by decide, by decide, by omega, by omega, by omega⟩, fun lf hlf => ?_⟩
    have a1 := hH.ne hlf
    have a2 := hH.neC hlf
    refine ⟨(by show 1 ≤ sizeLine; decide), fun z1 hz1 => ?_⟩
    refine ⟨_, rfl, 2, _, rfl, rfl, .inl ⟨by decide, by decide⟩, z1, _, _, rfl, rfl, upd_same, by omega, by omega, ?_, fun ll hll => ?_⟩
    · show 1 * _ ≤ sizeLine
      have : (24 : Nat) ≤ sizeLine := by decide
      omega
    refine ⟨(by show 1 ≤ sizeLine; decide), fun z2 hz2 => ?_⟩
    refine ⟨_, rfl, 2, _, rfl, rfl, .inl ⟨by decide, by decide⟩, z2, _, _, rfl, rfl, upd_same, by omega, by omega, ?_, fun lm hlm => ?_⟩
    · show 1 * _ ≤ sizeLine
      have : (24 : Nat) ≤ sizeLine := by decide
      omega
    refine ⟨_, _, _, rfl, ?_⟩
    refine ⟨_, rfl, (b : Int), rfl, by omega, by omega, ?_⟩
    rw [Int.toNat_natCast]
    have k1' : ∀ x, upd (upd H lf (.lst (rgV 0 (2 * (b : Int))))) z1 (.lst [.int 0]) x = none → H x = none ∧ lf ≠ x := fun x hx => by
      by_cases e1 : x = z1
      · rw [e1, upd_same] at hx; cases hx
      · rw [upd_ne e1] at hx
        by_cases e2 : x = lf
        · rw [e2, upd_same] at hx; cases hx
        · rw [upd_ne e2] at hx
          exact ⟨hx, Ne.symm e2⟩
    obtain ⟨h2, n12⟩ := k1' ll hll
    have k2' : ∀ (F : Hp) x (u : HO), upd F z2 u x = none → F x = none := fun F x u hx => by
      by_cases e1 : x = z2
      · rw [e1, upd_same] at hx; cases hx
      · rw [upd_ne e1] at hx
        exact hx
    have hlm2 := k2' _ _ _ hlm
    have n23 : ll ≠ lm := fun z => by rw [← z, upd_same] at hlm2; cases hlm2
    rw [upd_ne (Ne.symm n23)] at hlm2
    obtain ⟨h3, n13⟩ := k1' lm hlm2
    have b1 := hH.ne h2
    have b2 := hH.neC h2
    have c1 := hH.ne h3
    have c2 := hH.neC h3
    refine for_range (lo := 0) (n := b) (fun i σ H' => ∃ (x6 x7 x8 : Option V) (L : List Nat) (wd mt : List Int), σ = [some (.ref a), some (.int (b : Int)), some (.int (k : Int)), some (.ref lf), some (.ref ll), some (.ref lm), x6, x7, x8] ∧ Drew a c (n + 3 * i) H H' ∧ H' lf = some (.lst (iv (nats L))) ∧ H' ll = some (.lst (iv wd)) ∧ H' lm = some (.lst (iv mt)) ∧ L.length = 2 * b - 2 * i ∧ Part (2 * b) k wd mt L)
      ⟨none, none, none, List.range (2 * b), List.replicate (2 * b) 0, List.replicate (2 * b) 0, rfl, ?_, ?_, ?_, ?_, by simp, part_start _ _⟩ ?_ ?_
    · exact ((((((Drew.refl hH).new hlf).new hz1).new hll).new hz2).new hlm)
    · rw [upd_ne n13, upd_ne (fun z => by rw [← z, upd_ne n12] at hz2; rw [upd_ne (fun y => by rw [← y, upd_same] at hz1; cases hz1), upd_same] at hz2; cases hz2), upd_ne n12, upd_ne (fun y => by rw [← y, upd_same] at hz1; cases hz1), upd_same, show (2 * (b : Int)) = ((2 * b : Nat) : Int) by omega, rg_nats]
    · rw [upd_ne n23, upd_ne (fun z => by rw [← z, upd_same] at hz2; cases hz2), upd_same, rep_iv]
    · rw [upd_same, rep_iv]
    · rintro i σ H1 hi ⟨x6, x7, x8, L, wd, mt, rfl, d1, gf, gl, gm, hL, pt⟩
      obtain ⟨d1a, d1k⟩ := d1
      refine ⟨_, rfl, .inl ⟨rfl, _, SqL.of gf⟩, _, rfl, _, rfl, lf, _, rfl, .inl (SqL.of gf), a, c, _, _, rfl, d1a, by omega, ?_, ?_, fun H2 q q0 q1 hH2 hK2 => ?_⟩
      · show (0 : Int) < (((iv (nats L)).length : Nat) : Int)
        rw [lenN]
        omega
      · show ((((iv (nats L)).length : Nat) : Int)).natAbs < _
        rw [lenN]
        exact small (by omega)
      have q1 : q < (L.length : Int) := by rw [← lenN]; exact q1
      obtain ⟨j1, x1, s1, g1, m1, e1⟩ := pop_nat pt.nd q0 q1
      have gf2 := hK2 _ _ a1 gf
      have gl2 := hK2 _ _ b1 gl
      have gm2 := hK2 _ _ c1 gm
      refine ⟨lf, _, _, _, _, rfl, rfl, gf2, by omega, by omega, s1, g1, ?_⟩
      rw [e1]
      have d2 : Drew a c (n + 3 * i + 1) H (L2.upd H2 lf (.lst (iv (nats (rmv L x1))))) := Drew.put ⟨hH2, d1k.trans hK2⟩ hlf a1 a2
      have gf3 : L2.upd H2 lf (.lst (iv (nats (rmv L x1)))) lf = some (.lst (iv (nats (rmv L x1)))) := upd_same
      have gl3 : L2.upd H2 lf (.lst (iv (nats (rmv L x1)))) ll = some (.lst (iv wd)) := by rw [upd_ne (Ne.symm n12)]; exact gl2
      have gm3 : L2.upd H2 lf (.lst (iv (nats (rmv L x1)))) lm = some (.lst (iv mt)) := by rw [upd_ne (Ne.symm n13)]; exact gm2
      generalize L2.upd H2 lf (.lst (iv (nats (rmv L x1)))) = H3 at d2 gf3 gl3 gm3 ⊢
      have rl := rmv_len pt.nd m1
      refine ⟨_, rfl, .inl ⟨rfl, _, SqL.of gf3⟩, _, rfl, _, rfl, lf, _, rfl, .inl (SqL.of gf3), a, c, _, _, rfl, d2.1, by omega, ?_, ?_, fun H4 r r0 r1 hH4 hK4 => ?_⟩
      · show (0 : Int) < (((iv (nats (rmv L x1))).length : Nat) : Int)
        rw [lenN]
        omega
      · show ((((iv (nats (rmv L x1))).length : Nat) : Int)).natAbs < _
        rw [lenN]
        exact small (by omega)
      have r1 : r < ((rmv L x1).length : Int) := by rw [← lenN]; exact r1
      obtain ⟨j2, x2, s2, g2, m2, e2⟩ := pop_nat (L := rmv L x1) (pt.nd.filter _) r0 r1
      have gf4 := hK4 _ _ a1 gf3
      have gl4 := hK4 _ _ b1 gl3
      have gm4 := hK4 _ _ c1 gm3
      refine ⟨lf, _, _, _, _, rfl, rfl, gf4, by omega, by omega, s2, g2, ?_⟩
      rw [e2]
      have d4 : Drew a c (n + 3 * i + 1 + 1) H (L2.upd H4 lf (.lst (iv (nats (rmv (rmv L x1) x2))))) := Drew.put ⟨hH4, d2.2.trans hK4⟩ hlf a1 a2
      have gf5 : L2.upd H4 lf (.lst (iv (nats (rmv (rmv L x1) x2)))) lf = some (.lst (iv (nats (rmv (rmv L x1) x2)))) := upd_same
      have gl5 : L2.upd H4 lf (.lst (iv (nats (rmv (rmv L x1) x2)))) ll = some (.lst (iv wd)) := by rw [upd_ne (Ne.symm n12)]; exact gl4
      have gm5 : L2.upd H4 lf (.lst (iv (nats (rmv (rmv L x1) x2)))) lm = some (.lst (iv mt)) := by rw [upd_ne (Ne.symm n13)]; exact gm4
      generalize L2.upd H4 lf (.lst (iv (nats (rmv (rmv L x1) x2)))) = H5 at d4 gf5 gl5 gm5 ⊢
      refine ⟨_, _, rfl, ?_⟩
      refine ⟨_, rfl, _, rfl, a, c, (k : Int), _, rfl, d4.1, by omega, by omega, small (by omega), fun H6 z z0 z1' hH6 hK6 => ⟨_, _, rfl, rfl, ?_⟩⟩
      have d6 : Drew a c (n + 3 * i + 1 + 1 + 1) H H6 := ⟨hH6, d4.2.trans hK6⟩
      have gf6 := hK6 _ _ a1 gf5
      have gl6 := hK6 _ _ b1 gl5
      have gm6 := hK6 _ _ c1 gm5
      have y1 := pt.lt x1 m1
      have y2 := pt.lt x2 (rmv_mem.mp m2).1
      refine ⟨_, rfl, _, rfl, ll, _, _, x1, rfl, rfl, gl6, Evl.ixN_nat (by unfold iv; rw [List.length_map, pt.lw]; exact y1), ?_⟩
      rw [set_iv]
      have gf7 : L2.upd H6 ll (.lst (iv (wd.set x1 (1 + z)))) lf = some (.lst (iv (nats (rmv (rmv L x1) x2)))) := by rw [upd_ne n12]; exact gf6
      have gl7 : L2.upd H6 ll (.lst (iv (wd.set x1 (1 + z)))) ll = some (.lst (iv (wd.set x1 (1 + z)))) := upd_same
      have gm7 : L2.upd H6 ll (.lst (iv (wd.set x1 (1 + z)))) lm = some (.lst (iv mt)) := by rw [upd_ne (Ne.symm n23)]; exact gm6
      have d7 : Drew a c (n + 3 * i + 1 + 1 + 1) H (L2.upd H6 ll (.lst (iv (wd.set x1 (1 + z))))) := d6.put h2 b1 b2
      generalize L2.upd H6 ll (.lst (iv (wd.set x1 (1 + z)))) = H7 at d7 gf7 gl7 gm7 ⊢
      refine ⟨_, rfl, _, rfl, ll, _, _, _, rfl, rfl, SqL.of gl7, atI_nat (iv_get (List.getElem?_set_self (by rw [pt.lw]; exact y1))), _, rfl, ?_⟩
      refine ⟨_, rfl, _, rfl, ll, _, _, x2, rfl, rfl, gl7, Evl.ixN_nat (by unfold iv; rw [List.length_map, List.length_set, pt.lw]; exact y2), ?_⟩
      rw [set_iv]
      have gf8 : L2.upd H7 ll (.lst (iv ((wd.set x1 (1 + z)).set x2 (-(1 + z))))) lf = some (.lst (iv (nats (rmv (rmv L x1) x2)))) := by rw [upd_ne n12]; exact gf7
      have gl8 : L2.upd H7 ll (.lst (iv ((wd.set x1 (1 + z)).set x2 (-(1 + z))))) ll = some (.lst (iv ((wd.set x1 (1 + z)).set x2 (-(1 + z))))) := upd_same
      have gm8 : L2.upd H7 ll (.lst (iv ((wd.set x1 (1 + z)).set x2 (-(1 + z))))) lm = some (.lst (iv mt)) := by rw [upd_ne (Ne.symm n23)]; exact gm7
      have d8 : Drew a c (n + 3 * i + 1 + 1 + 1) H (L2.upd H7 ll (.lst (iv ((wd.set x1 (1 + z)).set x2 (-(1 + z)))))) := d7.put h2 b1 b2
      generalize L2.upd H7 ll (.lst (iv ((wd.set x1 (1 + z)).set x2 (-(1 + z))))) = H8 at d8 gf8 gl8 gm8 ⊢
      refine ⟨_, rfl, _, rfl, (by show 2 ≤ sizeLine; decide), fun T hT => ?_⟩
      have s9 := same_upd (o := .tup [.int (x2 : Int), .int (x1 : Int)]) hT
      have gT : L2.upd H8 T (.tup [.int (x2 : Int), .int (x1 : Int)]) T = some (.tup [.int (x2 : Int), .int (x1 : Int)]) := upd_same
      have d9 := d8.same s9
      have gf9 := s9 _ _ gf8
      have gl9 := s9 _ _ gl8
      have gm9 := s9 _ _ gm8
      generalize L2.upd H8 T (.tup [.int (x2 : Int), .int (x1 : Int)]) = H9 at d9 gf9 gl9 gm9 gT ⊢
      refine ⟨T, _, rfl, SqT.of gT, rfl, _, _, rfl, _, rfl, _, rfl, lm, _, _, x1, rfl, rfl, gm9, Evl.ixN_nat (by unfold iv; rw [List.length_map, pt.lm]; exact y1), ?_⟩
      rw [set_iv]
      refine ⟨_, _, rfl, _, rfl, _, rfl, lm, _, _, x2, rfl, rfl, upd_same, Evl.ixN_nat (by unfold iv; rw [List.length_map, List.length_set, pt.lm]; exact y2), ?_⟩
      rw [set_iv]
      refine ⟨rfl, _, _, _, rmv (rmv L x1) x2, (wd.set x1 (1 + z)).set x2 (-(1 + z)), (mt.set x1 (x2 : Int)).set x2 (x1 : Int), rfl, ((d9.put h3 c1 c2).put h3 c1 c2).mono (by omega), ?_, ?_, upd_same, ?_, pt.step m1 m2 (by omega) (by omega)⟩
      · rw [upd_ne n13, upd_ne n13]; exact gf9
      · rw [upd_ne n23, upd_ne n23]; exact gl9
      · have : (rmv (rmv L x1) x2).length + 1 = (rmv L x1).length := rmv_len (pt.nd.filter _) m2
        omega
    · rintro σ H1 ⟨x6, x7, x8, L, wd, mt, rfl, d1, gf, gl, gm, hL, pt⟩
      obtain rfl : L = [] := List.eq_nil_of_length_eq_zero (by omega)
      obtain ⟨ro, mo⟩ := pt.done (by omega) (by omega) k26
      refine ⟨_, rfl, _, rfl, (by show 2 ≤ sizeLine; decide), fun t H4 s4 B4 => ?_⟩
      exact kq t ll lm H4 wd mt h2 h3 ((d1.same s4).mono (by omega)) B4.sq (s4 _ _ gl) (s4 _ _ gm) ro mo
end
end W33
set_option Elab.async false
set_option linter.all false
set_option maxRecDepth 100000
set_option maxHeartbeats 1000000
namespace W33
open PySem L2 PySem.Spec PyProof.Rows WR WB WE WS
/-! ### a sewing is tightened as told -/
abbrev sRound : Stmt := inClass (top 40) 6
section
variable {P : Program} {w : World} {K : PySem.W.Frag} {mg : Str → Option Value} {base : Heap} {C CR CS CBS CMF : Addr}
theorem scRound : FnScope ["self"] ["self"] (defScope sRound) := ⟨rfl, rfl, rfl, by decide +kernel, rfl, by decide +kernel, by decide +kernel⟩
theorem ok_round {C f : Addr} {fd : FuncData} (F : Fun K "shortened_round" "Word.shortened_round" sRound f fd) (T : TxW K mg C) (M : MkW P w K mg base C) (GR : Cal P w K mg base "rounded_letters" 2 ["letters"] (spRnd K)) :
    FnOk P w K mg base CX0 6 f fd ["self"] (spOne K C Fr.rnd) := by
  refine F.ok scRound (fun vs H Q E h => ?_) (fun cdv A outer s H vs Q E hr h => ?_)
  · obtain ⟨p, ns, rfl, _⟩ := h
    rfl
  · obtain ⟨p, ns, rfl, ⟨dx, tl, tk, ks, h1, h2, h3, h4⟩, hlen, hl, k⟩ := h
    refine ⟨_, pss_one (ps_ret (pe_word M T hr (by decide) (by rfl) (pa_cons (pe_cal GR hr (by decide) (by rfl) (pa_cons (pe_fld (pv 0) rfl) pa_nil)) pa_nil))), ?_⟩
    refine ⟨_, rfl, p, C, dx, _, _, rfl, h1, T.cl, T.nL, wf_letters, tl, ns, rfl, .inr h2, by omega, hl.nz, fun q H1 s1 hq => ?_⟩
    exact make_word (.inr hq) (Nat.le_trans (rnd_len hl) hlen) hl.rnd fun x H' s' W => k x H' (s1.trans s') W
theorem nm3 : ¬ (("shortened_round" : Str) = "letters") ∧ ¬ (("shortened_round" : Str) = "length") ∧ ¬ (("shortened_round" : Str) = "kinds") ∧ ¬ (("shortened_round" : Str) = "is_short") ∧ ¬ (("shortened_round" : Str) = "is_short_round") := by decide +kernel
end
theorem test_lcL {r : R2} {wi : TI} {g1 : TG} {t1 : TT} {e1 tb : TE} {v1 : List Nat} {σ : L2.St} {H : Hp} {Q : Bool → Hp → Prop}
    (h : wi σ H fun J H1 => tLc (fun _ H R => R J H) g1 t1 e1 v1 σ H1 fun x H2 => tb σ H2 fun y H4 => r x y H4 fun z H5 => ∃ c, z = .bl c ∧ Q c H5) : tTest (tOp r (tLc wi g1 t1 e1 v1) tb) σ H Q := h
theorem shapedOne (w : List Int) : SeqAt.shaped (.list [.list (w.map .int)]) = true := by
  have e1 := PySem.W.ke_canLayAll0 w
  have e2 := PySem.W.ke_depthAll w
  simp [SeqAt.shaped, PyData.canLayAll0, PyData.canLay0, PyData.depthAll, PyData.depth, e1, e2]
def spTR (K : PySem.W.Frag) : Sp := fun vs H Q _ => ∃ (l m : Addr) (wd mt : List Int), vs = [.ref l, .ref m] ∧ H l = some (.lst (iv wd)) ∧ H m = some (.lst (iv mt)) ∧ RimOk [wd] ∧ MatOk wd mt ∧ ∀ H', Same H H' → Q (.bl true) H'
abbrev sTR : Stmt := top 86
abbrev nTR : List Str := ["_law_letters", "_law_mates", "_law_sewing_here", "_law_rest", "_law_home", "_law_told", "_law_costs", "_law_word_here", "_law_some"]
theorem scTR : FnScope nTR ["_law_letters", "_law_mates"] (defScope sTR) := ⟨rfl, rfl, rfl, by decide +kernel, rfl, by decide +kernel, by decide +kernel⟩
section
variable {P : Program} {w : World} {K : PySem.W.Frag} {mg : Str → Option Value} {base : Heap} {C CR CS CBS CMF : Addr}
theorem ok_TR {f : Addr} {fd : FuncData} (F : Fun K "_law_told_right" "_law_told_right" sTR f fd) (N : TN mg) (T : TxW K mg C) (TC : TxRC K mg CR) (TS : TxSC K mg CS) (MW : MkW P w K mg base C) (EW : EqW P w K mg base C) (nW : PySem.W.findIn K (.ref C) "__ne__" = some (some (.builtin "object.__ne__"))) (mW : PySem.W.mroIn K C (.type "object") = some true) (ES : OE.Eq P w K mg base CS 4 (SewEq K C CR CS)) (MRd : MethW P w K mg base C "shortened_round" ["self"] (spOne K C Fr.rnd)) (KT : CalKX P w K mg base "tightened" 11 ["sewing"] ["sewing"] (fun zs => zs) (spTgt K C CR CS CBS CMF)) (G_tightened : CalX P w K mg base "tightened" 11 ["sewing"] (spTgt K C CR CS CBS CMF)) (G_sewing : Cal P w K mg base "_law_sewing" 7 ["_law_letters", "_law_mates"] (spSwL K C CR CS)) (G_left : Cal P w K mg base "_law_left" 1 ["_law_letters", "_law_mates"] (spLeft K)) (G_round : Cal P w K mg base "_law_round" 2 ["_law_word_here"] (spRdL)) (G_corners : Cal P w K mg base "_law_corners" 1 ["_law_mates"] (spCo)) : FnOk P w K mg base CX0 12 f fd ["_law_letters", "_law_mates"] ((spTR K)) := by
  refine F.ok scTR (fun vs H Q E h => ?_) (fun cdv A outer s H vs Q E hr h => ?_)
  · obtain ⟨l, m, wd, mt, rfl, _⟩ := h
    rfl
  · obtain ⟨l, m, wd, mt, rfl, hl, hm, ok, mok, k⟩ := h
    refine ⟨_, pss_cons (ps_asg (pe_tup (pa_cons (pe_cal G_sewing hr (by decide) (by rfl) (pa_cons (pv 0) (pa_cons (pv 1) pa_nil))) (pa_cons (pe_cal G_left hr (by decide) (by rfl) (pa_cons (pv 0) (pa_cons (pv 1) pa_nil))) pa_nil))) (pg_tup (n := 2) rfl (pgs_cons (pg_name (i := 2) scTR.nd rfl (Or.inl rfl)) (pgs_cons (pg_tup (n := 2) rfl (pgs_cons (pg_name (i := 3) scTR.nd rfl (Or.inl rfl)) (pgs_cons (pg_name (i := 4) scTR.nd rfl (Or.inl rfl)) pgs_nil))) pgs_nil))))
      (pss_cons (ps_set (i := 5) scTR.nd rfl (Or.inl rfl) (pe_calKX KT hr (by decide) (by rfl) (pk_cons (pv 2) pk_nil)))
      (pss_cons (ps_if (pt_cmpR (op_eqD hr.units) (pv 3) (pe_lst pa_nil) (nomark _)) (pss_one (ps_ret (pe_and (pe_cmpR op_isN (pv 5) pe_non (nomark _)) (pe_one (pe_cmpR (op_eqD hr.units) (pe_cal G_round hr (by decide) (by rfl) (pa_cons (pv 0) pa_nil)) (pe_lst pa_nil) (nomark _)))))) pss_nil)
      (pss_cons (ps_if (PW.pt (pw_or (pt_not (pt_val (pe_callB call_isi (by rfl) N.isinstance (by decide +kernel) (pa_cons (pv 5) (pa_cons (pe_glob (v := .ref CS) (by rfl) TS.mgS rfl) pa_nil))))) (pw_or (pt_cmpR (op_neD hr.units) (pe_lc (own := [("_law_word_here", 7)]) (g := gName 7) (tt := tYes) rfl scTR.nd (pi_tup (pe_fld (pe_fld (pv 5) rfl) rfl)) (blkOk_by (N := nTR) (sc := defScope sTR) (by decide +kernel)) (fun _ _ _ _ _ => (pg_name (i := 7) scTR.nd rfl (Or.inl rfl))) (fun _ _ _ _ _ => pts_nil) (fun _ _ _ _ _ => (pe_callTy (call_listK (K := K) rfl) (by rfl) N.list (by decide +kernel) (pa_cons (pe_fldK (K := K) rfl (pv 7) rfl) pa_nil)))) (pe_lst (pa_cons (pv 3) pa_nil)) (nomark _)) (pw_or1 (pt_cmpR (op_neD hr.units) (pe_fld (pv 5) rfl) (pe_callTy call_tupB (by rfl) N.tuple (by decide +kernel) (pa_cons (pv 4) pa_nil)) (nomark _)))))) (pss_one (ps_ret pe_bl)) pss_nil)
      (pss_cons (ps_if (PW.pt (pw_or (pt_cmpR (op_neD hr.units) (pv 3) (pe_cal G_round hr (by decide) (by rfl) (pa_cons (pv 0) pa_nil)) (nomark _)) (pw_or (pt_cmpR (op_neW EW nW mW hr (by decide)) (pe_ix ix_tup (pe_fld (pe_fld (pv 5) rfl) rfl) pe_int (fun _ _ => rfl)) (pe_w0K rfl MRd T.cl hr (by decide) (pe_word MW T hr (by decide) (by rfl) (pa_cons (pv 0) pa_nil))) (nomark _)) (pw_or1 (pt_cmpR (OE.op_n ES hr (by decide)) (pe_calX G_tightened hr (by decide) passF (by rfl) (pa_cons (pv 5) pa_nil)) (pv 5) (nomark _)))))) (pss_one (ps_ret pe_bl)) pss_nil)
      (pss_cons (ps_setLc (i := 6) (own := [("_law_some", 8)]) (g := gName 8) (tt := tYes) rfl scTR.nd rfl rfl (sw_true rfl rfl rfl (by decide +kernel)) (pi_tup (pe_tupB (pa_cons (pv 1) (pa_cons (pv 4) pa_nil)))) (blkOk_by (N := nTR) (sc := defScope sTR) (by decide +kernel)) (fun _ _ _ _ _ => (pg_name (i := 8) scTR.nd rfl (Or.inl rfl))) (fun _ _ _ _ _ => pts_nil) (fun _ _ _ _ _ => (pe_op op_sub (pe_op op_fdiv (pe_callB (call_lenK (K := K) rfl) (by rfl) N.len PySem.boot_len (pa_cons (pv 8) pa_nil)) pe_int) (pe_cal G_corners hr (by decide) (by rfl) (pa_cons (pv 8) pa_nil)))))
      (pss_one (ps_ret (pe_and (pe_cmpR op_eq (pe_fld (pv 5) rfl) (pe_ix ix_list (pv 6) pe_int (fun _ _ => rfl)) (nomark _)) (pe_and (pe_cmpR op_le (pe_ix ix_list (pv 6) pe_int (fun _ _ => rfl)) (pe_ix ix_list (pv 6) pe_int (fun _ _ => rfl)) (nomark _)) (pe_and (pe_cmpR op_eq (pe_op op_mod (pe_callTy call_int1 (by rfl) N.int (by decide +kernel) (pa_cons (pe_op op_sub (pe_ix ix_list (pv 6) pe_int (fun _ _ => rfl)) (pe_ix ix_list (pv 6) pe_int (fun _ _ => rfl))) pa_nil)) pe_int) pe_int (nomark _)) (pe_one (pe_cmpR (OE.op_e ES hr (by decide)) (pv 2) (pe_cal G_sewing hr (by decide) (by rfl) (pa_cons (pv 0) (pa_cons (pv 1) pa_nil))) (nomark _))))))))))))), ?_⟩
    obtain ⟨w', mt', etg, hpn, ernd, hw⟩ := tg_all wd.length wd mt (Nat.le_refl _) ok mok
    refine ⟨_, rfl, _, rfl, l, m, wd, mt, rfl, hl, hm, ok, mok, fun p H1 rq xs s1 S1 => ?_⟩
    have hl1 := s1 _ _ hl
    have hm1 := s1 _ _ hm
    refine ⟨_, rfl, _, rfl, l, m, wd, mt, rfl, hl1, hm1, ok, mok, fun t l' m' H2 s2 T2 gl gm => ?_⟩
    rw [etg] at gl gm
    have gl : H2 l' = some (.lst (iv w')) := gl
    have gm : H2 m' = some (.lst (iv mt')) := gm
    refine ⟨(by show 2 ≤ sizeLine; decide), fun T0 hT => ?_⟩
    have s3 := same_upd (o := .tup [.ref p, .ref t]) hT
    have gT : L2.upd H2 T0 (.tup [.ref p, .ref t]) T0 = some (.tup [.ref p, .ref t]) := upd_same
    have S3 := (S1.same s2).same s3
    have s03 := (s1.trans s2).trans s3
    have gl3 := s3 _ _ gl
    have gm3 := s3 _ _ gm
    have T3 := WR.Same.seqT s3 T2
    generalize L2.upd H2 T0 (.tup [.ref p, .ref t]) = H3 at s3 S3 s03 gl3 gm3 gT T3 ⊢
    refine ⟨T0, _, rfl, SqT.of gT, rfl, _, _, rfl, _, _, rfl, t, _, rfl, T3, rfl, _, _, rfl, _, _, rfl, rfl, rfl, ?_⟩
    have hl3 := s03 _ _ hl
    have hm3 := s03 _ _ hm
    by_cases ew : w' = []
    · subst ew
      refine ⟨_, rfl, rfl, _, rfl, .inr ⟨p, rq, xs, [wd], mt, rfl, S3, .inr ⟨wd, [], mt', rfl, ok, mok, etg, fun _ H4 s4 => ?_, fun ne => absurd rfl ne⟩⟩⟩
      show tSeq _ _ _ [some (.ref l), some (.ref m), some (.ref p), some (.ref l'), some (.ref m'), some .non, none, none, none] H4
      have s04 := s03.trans s4
      refine ⟨_, rfl, Nat.zero_le _, fun fo hfo => ?_⟩
      have s5 := same_upd (o := .lst []) hfo
      refine ⟨.list [], .list [], .lst (SqL.of (s5 _ _ (s4 _ _ gl3))) .nil, .lst (SqL.of upd_same) .nil, by rfl, by rfl, ?_⟩
      have s05 := s04.trans s5
      generalize L2.upd H4 fo (.lst []) = H5 at s5 s05 ⊢
      refine ⟨_, rfl, iteT' (by rfl) ?_⟩
      refine ⟨_, rfl, rfl, _, rfl, iteT' (by rfl) ?_⟩
      have hl5 := s05 _ _ hl
      have := ok.2.2.2.1
      rw [flat1] at this
      refine ⟨_, rfl, l, wd, rfl, hl5, by omega, fun q H6 hq s6 gq => ?_⟩
      rw [ernd] at gq
      refine ⟨Nat.zero_le _, fun go hgo => ?_⟩
      have s7 := same_upd (o := .lst []) hgo
      refine ⟨.list [], .list [], .lst (SqL.of (s7 _ _ gq)) .nil, .lst (SqL.of upd_same) .nil, by rfl, by rfl, ?_⟩
      exact k _ ((s05.trans s6).trans s7)
    refine ⟨_, rfl, rfl, _, rfl, .inr ⟨p, rq, xs, [wd], mt, rfl, S3, .inr ⟨wd, w', mt', rfl, ok, mok, etg, fun e => absurd e ew, fun _ q H4 rq2 xs2 s4 S4 => ?_⟩⟩⟩
    show tSeq _ _ _ [some (.ref l), some (.ref m), some (.ref p), some (.ref l'), some (.ref m'), some (.ref q), none, none, none] H4
    obtain ⟨c, w0, rfl⟩ := List.exists_cons_of_ne_nil ew
    obtain ⟨ok', mok', c1, c2⟩ := hw.resolve_left ew
    have s04 := s03.trans s4
    have gl4 := s4 _ _ gl3
    have gm4 := s4 _ _ gm3
    have S04 := S3.same s4
    refine ⟨_, rfl, Nat.zero_le _, fun fo hfo => ?_⟩
    have s5 := same_upd (o := .lst []) hfo
    refine ⟨.list ((c :: w0).map .int), .list [], .lst (SqL.of (s5 _ _ gl4)) (dpInts _), .lst (SqL.of upd_same) .nil, PySem.W.ke_shaped_ints _, by rfl, ?_⟩
    rw [eq_nil]
    have s05 := s04.trans s5
    have gl5 := s5 _ _ gl4
    have gm5 := s5 _ _ gm4
    have S5 := S4.same s5
    have S05 := S04.same s5
    generalize L2.upd H4 fo (.lst []) = H5 at s5 s05 gl5 gm5 S5 S05 ⊢
    refine ⟨_, rfl, iteF' (by rfl) ?_⟩
    obtain ⟨dx, tm, tc, tp, h1, R, h3, hc, hpc⟩ := id S5
    obtain ⟨dr, tw, tl, th, tn, r1, r2, r3, r4, r5, r6⟩ := id R
    refine ⟨_, rfl, .ref q, _, _, _, _, rfl, .own CS, S5.tyx T TS, kit_self CS, _, rfl, ?_⟩
    refine iteF ?_
    refine test_lcL ?_
    refine ⟨_, rfl, q, CS, dx, _, _, rfl, h1, TS.cl, TS.n1, sf_rims, rq2, CR, dr, _, _, rfl, r1, TC.cl, TC.n1, rf_words, tw, rfl, ⟨_, r2.sq⟩, ?_⟩
    have lx := r3.length
    refine lcM (walk_tup (xs := xs2.map V.ref)) [c :: w0] (fun D H v ns => ∃ q, v = V.ref q ∧ q ≠ D ∧ H q = some (.lst (iv ns))) (fun _ _ _ _ _ ⟨q, e, n, h⟩ s => ⟨q, e, n, s _ _ h⟩) ?_ (by rw [List.length_map, lx]; exact (show 1 < 40000 by decide)) (by rw [List.length_map]; exact lx) (fun H s => (SqB.same s r2).sq) ?_ (fun x σ1 H A B k h => gName_mono k h) ?_
    · rintro D3 H6 ws6 o v ns hD6 ⟨q, e, n, h⟩
      exact ⟨q, e, n, by rw [upd_ne n]; exact h⟩
    · intro i x u hx hu' D2 H6 hD2 ⟨wsD, hDD⟩ s6 Qy ky
      rw [List.getElem?_map] at hx
      obtain ⟨q', hq, rfl⟩ := Option.map_eq_some_iff.mp hx
      obtain ⟨u', hu2, dxw, tl', tk', ks', w1, w2, w3, w4⟩ := r3.at hq
      obtain rfl : u' = u := Option.some.inj (hu2.symm.trans hu')
      refine ⟨rfl, _, rfl, q', C, dxw, _, _, rfl, s6 _ _ w1, T.cl, T.nL, wf_letters, tl', _, rfl, .inr (SqB.same s6 w2).sq, fun z hz => ky _ _ (same_upd hz) ⟨z, rfl, (fun e => by rw [e, hDD] at hz; cases hz), upd_same⟩⟩
    intro D2 H6 vs2 hD2 s6 h6 q6
    have s06 := s05.trans s6
    have gl6 := s6 _ _ gl5
    have gm6 := s6 _ _ gm5
    refine ⟨_, rfl, (by show 1 ≤ sizeLine; decide), fun z hz => ?_⟩
    have s7 := same_upd (o := .lst [.ref l']) hz
    have gz : L2.upd H6 z (.lst [.ref l']) z = some (.lst [.ref l']) := upd_same
    have s07 := s06.trans s7
    have gl7 := s7 _ _ gl6
    have gm7 := s7 _ _ gm6
    have h67 := s7 _ _ h6
    obtain ⟨y0, rfl, gy⟩ : ∃ y0, vs2 = [.ref y0] ∧ H6 y0 = some (.lst (iv (c :: w0))) := by
      cases q6 with
      | cons a b =>
        cases b
        obtain ⟨y0, rfl, _, e⟩ := a
        exact ⟨y0, rfl, e⟩
    have gy := s7 _ _ gy
    have s67 := s6.trans s7
    generalize L2.upd H6 z (.lst [.ref l']) = H7 at s7 gz s07 gl7 gm7 h67 gy s67 ⊢
    have S7 := S5.same s67
    have S07 := S05.same s67
    refine ⟨.list [.list ((c :: w0).map .int)], .list [.list ((c :: w0).map .int)], .lst (SqL.of h67) (.cons (.lst (SqL.of gy) (dpInts _)) .nil), .lst (SqL.of gz) (.cons (.lst (SqL.of gl7) (dpInts _)) .nil), shapedOne _, shapedOne _, ?_⟩
    rw [SeqAt.eqv_refl _ (SeqAt.canLay_of_shaped (shapedOne _))]
    refine ⟨_, rfl, iteF ?_⟩
    refine ⟨_, rfl, q, CS, dx, _, _, rfl, s67 _ _ h1, TS.cl, TS.n2, sf_mates, _, rfl, m', _, rfl, .inl ⟨SqL.of gm7, fun t8 H8 s8 B8 => ?_⟩⟩
    have s68 := s67.trans s8
    have s08 := s07.trans s8
    have S8 := S7.same s8
    have S08 := S07.same s8
    refine ⟨.tuple (mt'.map .int), .tuple (mt'.map .int), .tup (SqB.same s68 h3).sq (dpInts mt'), .tup B8.sq (dpInts mt'), shaped_ints mt', shaped_ints mt', ?_⟩
    rw [eqv_ints, decide_eq_true rfl]
    refine ⟨_, rfl, iteF ?_⟩
    have w24 := ok.2.2.2.1
    rw [flat1] at w24
    have hl8 := s08 _ _ hl
    have gl8 := s8 _ _ gl7
    have gm8 := s8 _ _ gm7
    refine ⟨_, rfl, _, rfl, l, wd, rfl, hl8, by omega, fun u H9 hu s9 gu => ?_⟩
    rw [ernd] at gu
    refine ⟨.list ((c :: w0).map .int), .list ((c :: w0).map .int), .lst (SqL.of (s9 _ _ gl8)) (dpInts _), .lst (SqL.of gu) (dpInts _), PySem.W.ke_shaped_ints _, PySem.W.ke_shaped_ints _, ?_⟩
    rw [SeqAt.eqv_refl _ (SeqAt.canLay_of_shaped (PySem.W.ke_shaped_ints _))]
    refine ⟨_, rfl, iteF ?_⟩
    obtain ⟨x0, rfl, W0⟩ : ∃ x0, xs2 = [x0] ∧ WordAt K C H5 x0 (c :: w0) := by
      cases r3 with
      | cons a b =>
        cases b
        exact ⟨_, rfl, a⟩
    have s59 := s68.trans s9
    have s09 := s08.trans s9
    refine ⟨_, rfl, q, CS, dx, _, _, rfl, s59 _ _ h1, TS.cl, TS.n1, sf_rims, rq2, CR, dr, _, _, rfl, s59 _ _ r1, TC.cl, TC.n1, rf_words, tw, _, _, _, rfl, rfl, (SqB.same s59 r2).sq, atI_nat (j := 0) rfl, ?_⟩
    refine ⟨_, rfl, fun x1 dx1 nx1 ndx1 _ => make_at nx1 ndx1 (.inl (SqL.of (s09 _ _ hl))) (by omega) ?_ fun H10 s10 W10 => ?_⟩
    · have := ok.2.2.2.2.1
      rw [flat1] at this
      exact this
    obtain ⟨dxw, fsw, hpw, hnw⟩ := W10.at nm3.1 nm3.2.1 nm3.2.2.1 nm3.2.2.2.1 nm3.2.2.2.2
    refine ⟨x1, dxw, fsw, rfl, hpw, hnw, x1, wd, rfl, W10, by omega, ?_, fun x2 H11 s11 W11 => ?_⟩
    · have := ok.2.2.2.2.1
      rw [flat1] at this
      exact this
    rw [ernd] at W11
    have s5b := (s59.trans s10).trans s11
    have s0b := (s09.trans s10).trans s11
    refine ⟨x0, x2, c :: w0, c :: w0, rfl, rfl, W0.same s5b, W11, ?_⟩
    rw [decide_eq_true rfl]
    refine ⟨_, rfl, iteF ?_⟩
    have Sb := S5.same s5b
    refine ⟨_, rfl, _, rfl, .inr ⟨q, rq2, [x0], [c :: w0], mt', rfl, Sb, .inr ⟨c :: w0, c :: w0, mt', rfl, ok', mok', tgF_none hpn _, fun e => absurd e ew, fun _ q2 H12 rq3 xs3 s12 S12 => ?_⟩⟩⟩
    have s5c := s5b.trans s12
    have s0c := s0b.trans s12
    refine ⟨_, rfl, q2, q, true, rfl, rfl, ⟨rq3, rq2, xs3, [x0], [c :: w0], [c :: w0], mt', mt', S12, S5.same s5c, by simp⟩, ?_⟩
    refine ⟨_, rfl, iteF ?_⟩
    unfold tNext
    dsimp only
    unfold tSeq
    refine asg_lc1 ?_
    have hmc := s0c _ _ hm
    have gmc := s12 _ _ (s11 _ _ (s10 _ _ (s9 _ _ gm8)))
    refine ⟨_, rfl, _, rfl, (by show 2 ≤ sizeLine; decide), fun tt H13 s13 B13 => ⟨tt, rfl, ⟨_, B13.sq⟩, ?_⟩⟩
    have hmd := s13 _ _ hmc
    have gmd := s13 _ _ gmc
    refine lcM (walk_tup (xs := [.ref m, .ref m'])) [costF [wd] mt, costF [c :: w0] mt'] (fun _ _ v b => v = V.int b) (fun _ _ _ _ _ h s => h) (fun _ _ _ _ _ _ _ h => h) (by show 2 < 40000; decide) rfl (fun H s => (SqB.same s B13).sq) ?_ (fun x σ1 H A B k h => gName_mono k h) ?_
    · intro i x b hx hb D4 H14 hD4 _ s14 Qy ky
      obtain ⟨lm, v, nt, rfl, rfl, hlm, okv, mokv⟩ : ∃ lm v nt, x = V.ref lm ∧ b = costF [v] nt ∧ H13 lm = some (.lst (iv nt)) ∧ RimOk [v] ∧ MatOk v nt := by
        match i, hx, hb with
        | 0, hx, hb => exact ⟨m, wd, mt, (Option.some.inj hx).symm, (Option.some.inj hb).symm, hmd, ok, mok⟩
        | 1, hx, hb => exact ⟨m', c :: w0, mt', (Option.some.inj hx).symm, (Option.some.inj hb).symm, gmd, ok', mok'⟩
        | i + 2, hx, hb => simp at hx
      have lv := okv.2.2.2.1
      rw [flat1] at lv
      refine ⟨rfl, _, rfl, lm, _, rfl, .inl (SqL.of (s14 _ _ hlm)), _, _, rfl, rfl, ⟨by decide, by decide⟩, _, rfl, lm, v, nt, rfl, s14 _ _ hlm, by omega, mokv.1.1, fun H15 s15 => ⟨_, _, rfl, rfl, ky _ _ s15 ?_⟩⟩
      show V.int (((iv nt).length : Int) / 2 - ((cornF [v] nt).length : Int)) = V.int (costF [v] nt)
      unfold costF
      rw [List.length_map, mokv.1.1.1, flat1]
      rfl
    intro D4 H14 vs4 hD4 s14 h14 q14
    obtain rfl : vs4 = [.int (costF [wd] mt), .int (costF [c :: w0] mt')] := by
      cases q14 with
      | cons a b =>
        cases b with
        | cons a2 b2 =>
          cases b2
          rw [a, a2]
    unfold gName
    dsimp only [List.set]
    have s5e := (s5c.trans s13).trans s14
    have s0e := (s0c.trans s13).trans s14
    refine ⟨_, rfl, q, CS, dx, _, _, rfl, s5e _ _ h1, TS.cl, TS.n4, sf_cost, _, rfl, D4, _, _, _, rfl, rfl, SqL.of h14, atI_nat (j := 1) rfl, rfl, _, rfl, iteT' (decide_eq_true rfl) ?_⟩
    refine ⟨_, rfl, D4, _, _, _, rfl, rfl, SqL.of h14, atI_nat (j := 1) rfl, _, rfl, D4, _, _, _, rfl, rfl, SqL.of h14, atI_nat (j := 0) rfl, _, _, rfl, rfl, _, rfl, iteT' (decide_eq_true c1) ?_⟩
    refine ⟨_, rfl, D4, _, _, _, rfl, rfl, SqL.of h14, atI_nat (j := 0) rfl, _, rfl, D4, _, _, _, rfl, rfl, SqL.of h14, atI_nat (j := 1) rfl, _, _, rfl, rfl, .inl ⟨_, rfl, _, _, rfl, rfl, (show (0 : Int) < 2 by decide), rfl, _, rfl, iteT' (decide_eq_true (congrArg V.int c2)) ?_⟩⟩
    refine ⟨_, rfl, _, rfl, _, rfl, l, m, wd, mt, rfl, s0e _ _ hl, s0e _ _ hm, ok, mok, fun q9 H15 rq9 xs9 s15 S15 => ?_⟩
    exact ⟨p, q9, true, rfl, rfl, ⟨rq, rq9, xs, xs9, [wd], [wd], mt, mt, (S05.same s5e).same s15, S15, by simp⟩, k _ (s0e.trans s15)⟩
end
end W33
set_option Elab.async false
set_option linter.all false
set_option maxRecDepth 100000
set_option maxHeartbeats 4000000
namespace W33
open PySem L2 PySem.Spec PyProof.Rows WR WB WE WS
abbrev sHeard : Stmt := top 87
/-! ### the def that hears what a call refuses -/
def THeard (CB CT : Addr) : (XK → Hp → VK → Prop) → Hp → VK → Prop := fun tl H Q =>
  tl (fun cls d H' => ∃ dd : Addr, d = some dd ∧
    ((cls = .ref CB ∧ ∃ v : V, H' dd = some (.xd [(("part" : Str), v)]) ∧ ∀ t, H' t = none → Q (.ref t) (L2.upd H' t (.tup [.str "sewing", v]))) ∨
     (cls = .ref CT ∧ ∃ v : V, H' dd = some (.xd [(("part" : Str), v)]) ∧ ∀ t, H' t = none → Q (.ref t) (L2.upd H' t (.tup [.str "misfit", v]))))) H (fun _ H' => Q .non H')
theorem takes_len {X : Cx} {W : WX} (t : Takes X W) : Takes X (fun cls d σ H => σ.length = X.N.length → W cls d σ H) := fun u s' ⟨a, B, sI, pins, σ, H, cls, d, e, I, nb, up, sky, na, os, ag, w⟩ =>
  t u s' ⟨a, B, sI, pins, σ, H, cls, d, e, I, nb, up, sky, na, os, ag, w I.len⟩
abbrev nHeard : List Str := ["_law_ask", "error"]
theorem scHeard : FnScope nHeard ["_law_ask"] (defScope sHeard) := ⟨rfl, rfl, rfl, by decide +kernel, rfl, by decide +kernel, by decide +kernel⟩
/-- what the clauses ask of the two classes -/
structure Two (K : PySem.W.Frag) (mg : Str → Option Value) (CB CT : Addr) : Prop where
  gH : ∃ D : Addr, mg "HandleError" = some (.ref D)
  no : PySem.W.exmOne K (.ref CT) (.ref CB) = some false
  nB : PySem.W.findIn K (.ref CB) "part" = some none
  n1 : PySem.W.findIn K (.ref CT) "part" = some none
theorem on1 {a : Addr} {σ : L2.St} (h : σ.length = 2) : (TM.onS (some 1) a σ)[1]? = some (some (.ref a)) := by
  match σ, h with
  | [_, _], _ => rfl
theorem heard_gives {X : Cx} {g CB CT : Addr} {cdg : Value} {q : Str} {ps1 ps2 : List Str} {sp1 sp2 : Sp} {base : Heap} (EB : ErrC X.prog X.w X.K X.mg base CB "BadSewing" ps1 sp1) (ET : ErrC X.prog X.w X.K X.mg base CT "Misfit" ps2 sp2) (Z : Two X.K X.mg CB CT) :
    LamX.GivesTo X nHeard "_law_heard" (defScope sHeard) g cdg (defBody sHeard) "_law_ask" q (THeard CB CT) := by
  intro f c' s H Q tl act hc h
  obtain ⟨CH, gH⟩ := Z.gH
  refine ⟨_, pss_cons (TM.ps_try_ms (X := (cxOf C8.CX0 X.prog X.w X.K X.mg X.base nHeard "_law_heard" (defScope sHeard) g cdg X.A X.stack s H C8.E0).nox) (out := fun _ _ _ _ => False)
      (l := [⟨.ref CB, some 1, fun a cls d => tRet (tTup (tCons (tC (.str "sewing")) (tCons (tXf a cls d CB "part" (tVar 1)) tNil)))⟩,
        ⟨.ref CT, some 1, fun a cls d => tRet (tTup (tCons (tC (.str "misfit")) (tCons (tXf a cls d CT "part" (tVar 1)) tNil)))⟩,
        ⟨.ref CH, none, fun a cls d => tRet (tTup (tCons (tC (.str "refused")) tNil))⟩])
      (tb := fun W D σ H => ∃ Ech : XK, (∀ cls d σ' H', Ech cls d H' → σ'.length = 2 → W cls d σ' H') ∧ σ[0]? = some (some (.ref f)) ∧ H c' = some (LamX.CodeO c' q) ∧ tl Ech H (fun _ H' => D.nx σ H'))
      rfl rfl LamX.takes0 (fun W pn xe tk _ => ?_)
      (.cons (.named scHeard.nd rfl rfl ⟨rfl, by decide, .inl EB.g⟩ (fun a oe cls d pn hz hf => pss_one (ps_ret (pe_tup (pa_cons pe_str (pa_cons (pe_xf EB.xf Z.nB hz hf (pv 1)) pa_nil))))))
      (.cons (.named scHeard.nd rfl rfl ⟨rfl, by decide, .inl ET.g⟩ (fun a oe cls d pn hz hf => pss_one (ps_ret (pe_tup (pa_cons pe_str (pa_cons (pe_xf ET.xf Z.n1 hz hf (pv 1)) pa_nil))))))
      (.cons (.bare ⟨rfl, by decide, .inl gH⟩ (fun a oe cls d pn hz hf => pss_one (ps_ret (pe_tup (pa_cons pe_str pa_nil))))) .nil)))) (pss_one (ps_ret pe_non)), ?_⟩
  · refine ⟨fun pins s' σ H' D I h' => ?_⟩
    obtain ⟨Ech, hW, h1, h2, h3⟩ := h'
    exact (pss_one (ps_expr (act _ pn xe Ech _ _ (takes_len tk) (fun cls d σ' H' h hl => hW cls d σ' H' h hl)))).run pins s' σ H' D I ⟨h1, h2, h3⟩
  · refine ⟨_, fun cls d σ' H' h1 h2 => ?_, rfl, hc, h⟩
    obtain ⟨dd, rfl, h3⟩ := h1
    rcases h3 with ⟨rfl, v, h4, h5⟩ | ⟨rfl, v, h4, h5⟩
    · refine ⟨true, EB.te, fun _ a ha => ?_, fun z => Bool.noConfusion z⟩
      exact ⟨_, on1 h2, rfl, rfl, dd, _, v, rfl, h4, lk_eq, by show 2 ≤ sizeLine; decide, fun t ht => h5 t ht⟩
    · refine ⟨false, Z.no, fun z => Bool.noConfusion z, fun _ => ⟨true, ET.te, fun _ a ha => ?_, fun z => Bool.noConfusion z⟩⟩
      exact ⟨_, on1 h2, rfl, rfl, dd, _, v, rfl, h4, lk_eq, by show 2 ≤ sizeLine; decide, fun t ht => h5 t ht⟩
/-! ### a def that makes lambdas: its own code object is at c -/
structure FunC (K : PySem.W.Frag) (x : Str) (st : Stmt) (f c : Addr) (fd : FuncData) : Prop where
  ex : ∃ (oc : Value) (od : Option Addr) (kV doc pm : Value) (an : Option Addr) (ct : Value) (osl : Array (Option Value)),
    fd = PySem.W.fnOf x x (defArgs st) (defBody st) (defScope st) .none kV doc pm an (.ref c) ct ∧ K.lookup f = some ⟨oc, od, .func fd, osl⟩ ∧ PySem.W.codeIn K (.ref c) x = true
theorem FunC.ok {P : Program} {w : World} {K : PySem.W.Frag} {mg : Str → Option Value} {base : Heap} {x : Str} {st : Stmt} {f c : Addr} {fd : FuncData} {N ps : List Str} {k : Nat} {sp : Sp} (F : FunC K x st f c fd) (S : FnScope N ps (defScope st))
    (len : ∀ vs H Q E, sp vs H Q E → vs.length = ps.length)
    (body : ∀ (A : Around) (outer : List Env) (s : Shared) (H : Hp) (vs : List V) (Q : VK) (E : XK), Room k (A.deeper (envOfC x (defScope st) s.heap.objs.size f (.ref c))) → sp vs H Q E →
      ∃ t, PSs (cxOf CX0 P w K mg base N x (defScope st) f (.ref c) A outer s H E).nox (defBody st) t ∧ t { nx := fun _ H' => Q .non H', rt := Q } (L2.start N vs) H) : FnOk P w K mg base CX0 (k + 1) f fd ps sp := by
  obtain ⟨oc, od, kV, doc, pm, an, ct, osl, rfl, lk, cd⟩ := F.ex
  refine fn_of lk cd S len fun A outer s H vs Q E room asked => ?_
  obtain ⟨t, ht, hq⟩ := body A outer s H vs Q E room asked
  exact ⟨t, ht.nox, hq⟩
/-- what the module has written of the def that hears -/
structure HearK (K : PySem.W.Frag) (mg : Str → Option Value) (g : Addr) : Prop where
  mg : mg "_law_heard" = some (.ref g)
  kp : PySem.W.keepIn K (.ref g) = true
  ex : ∃ (oc : Value) (od : Option Addr) (kV doc pm cdv ct : Value) (an : Option Addr) (osl : Array (Option Value)),
    K.lookup g = some ⟨oc, od, .func (PySem.W.fnOf "_law_heard" "_law_heard" (defArgs sHeard) (defBody sHeard) (defScope sHeard) .none kV doc pm an cdv ct), osl⟩ ∧ PySem.W.codeIn K cdv "_law_heard" = true
theorem tabs_kept {T : List (Addr × Str)} {a c : Addr} {n : Nat} {H H' : Hp} (h : HandAt H a c n) (k : Kept a H H') (t : LamX.Tabs T H) : LamX.Tabs T H' := by
  intro p hp
  obtain ⟨ps, h1, h2, h3⟩ := t p hp
  obtain ⟨ns, i, r, ha, _⟩ := h
  have na : ∀ {b : Addr} {o : HO}, H b = some o → (∀ xs, o ≠ .lst xs) → b ≠ a := fun e z q => by
    rw [q, ha] at e
    exact z _ (Option.some.inj e).symm
  refine ⟨ps, k _ _ (na h1 fun xs q => by cases q) h1, h2, fun pos cv hc => ?_⟩
  obtain ⟨d, e1, e2⟩ := h3 pos cv hc
  exact ⟨d, e1, k _ _ (na e2 fun xs q => by
    have q2 : HO.ext _ = HO.lst xs := q
    cases q2) e2⟩
theorem HandAt.ext {H H' : Hp} {a c : Addr} {n : Nat} (h : HandAt H a c n) (s : LamX.ExtN H H') : HandAt H' a c n := by
  obtain ⟨ns, i, r, h1, h2, h3⟩ := h
  exact ⟨ns, i, r, s _ _ h1 (fun ps q => by cases q), s _ _ h2 (fun ps q => by cases q), h3⟩
end W33
set_option Elab.async false
set_option linter.all false
set_option maxRecDepth 100000
set_option maxHeartbeats 4000000
namespace W33
open PySem L2 PySem.Spec PyProof.Rows WR WB WE WS
/-! ### the rings of one or two pairs of short words -/
def chkM (ls mt : List Int) : Bool := decide (mt.length = ls.length) && (List.range mt.length).all fun i =>
  decide (0 ≤ mt.getD i 0) && decide (mt.getD i 0 < (ls.length : Int)) && decide (mt.getD i 0 ≠ (i : Int)) && decide (mt.getD (mt.getD i 0).toNat (-1) = (i : Int)) && decide (ls.getD (mt.getD i 0).toNat 0 = -ls.getD i 0)
theorem chkM_ok {ls mt : List Int} (h : chkM ls mt = true) : MatOk ls mt := by
  unfold chkM at h
  rw [Bool.and_eq_true, List.all_eq_true] at h
  obtain ⟨h1, h2⟩ := h
  have h1 := of_decide_eq_true h1
  have gm : ∀ p (hp : p < mt.length), mt.getD p 0 = mt[p] := fun p hp => by
    rw [List.getD_eq_getElem?_getD, List.getElem?_eq_getElem hp]
    rfl
  have g : ∀ i (hi : i < mt.length), 0 ≤ mt[i] ∧ mt[i] < (ls.length : Int) ∧ mt[i] ≠ (i : Int) ∧ mt.getD mt[i].toNat (-1) = (i : Int) ∧ ls.getD mt[i].toNat 0 = -ls.getD i 0 := fun i hi => by
    have := h2 i (List.mem_range.mpr hi)
    rw [gm i hi] at this
    simp only [Bool.and_eq_true, decide_eq_true_eq] at this
    obtain ⟨⟨⟨⟨a, b⟩, c⟩, d⟩, e⟩ := this
    exact ⟨a, b, c, d, e⟩
  refine ⟨⟨⟨h1, fun z hz => ?_⟩, fun i hi => ?_⟩, fun i hi => (g i hi).2.2.2.2⟩
  · obtain ⟨p, hp, rfl⟩ := List.getElem_of_mem hz
    exact ⟨(g p hp).1, (g p hp).2.1⟩
  · obtain ⟨a, b, c, d, _⟩ := g i hi
    refine ⟨c, ?_⟩
    have hl : mt[i].toNat < mt.length := by omega
    rw [List.getD_eq_getElem?_getD, List.getElem?_eq_getElem hl] at d
    rw [List.getElem?_eq_getElem hl]
    exact congrArg some d
def chkR (ls : List Int) : Bool := decide (ls ≠ []) && decide (ls.length ≤ 24) && (ls.all fun x => decide (1 ≤ x.natAbs) && decide (x.natAbs ≤ 26)) && (ls.all fun x => decide (ls.count x = ls.count (-x)))
theorem chkR_ok {ls : List Int} (h : chkR ls = true) : RimOk [ls] := by
  unfold chkR at h
  simp only [Bool.and_eq_true, decide_eq_true_eq, List.all_eq_true] at h
  obtain ⟨⟨⟨h1, h2⟩, h3⟩, h4⟩ := h
  refine ⟨by simp, by simp, fun x hx => ?_, by rw [flat1]; exact h2, by rw [flat1]; exact h3, ?_⟩
  · rw [List.mem_singleton.mp hx]
    exact h1
  · rw [flat1]
    refine bal_none fun z => ?_
    by_cases hz : z ∈ ls
    · rw [h4 z hz]
    · by_cases hy : -z ∈ ls
      · have := h4 (-z) hy
        rw [Int.neg_neg] at this
        rw [this]
      · rw [List.count_eq_zero_of_not_mem hz, List.count_eq_zero_of_not_mem hy]
def shW : List (List Int) := [[], [1], [-1], [2], [-2]]
def shP : List (List Int × List Int) := (shW.map fun a => shW.map fun b => (a ++ [1], b ++ [-2])).flatten
theorem shW_mem {l : List Int} (h : l.length ≤ 1) (k : ∀ x ∈ l, 1 ≤ x.natAbs ∧ x.natAbs ≤ 2) : l ∈ shW := by
  match l, h, k with
  | [], _, _ => simp [shW]
  | [x], _, k =>
    have := k x (by simp)
    rcases (by omega : x = 1 ∨ x = -1 ∨ x = 2 ∨ x = -2) with rfl | rfl | rfl | rfl <;> simp [shW]
  | _ :: _ :: _, h, _ => simp at h
def pr12 (p : List Int × List Int) : List Int × List Int := (p.1 ++ [1], p.2 ++ [-2])
theorem shP_mem {p : List Int × List Int} (h : okK 1 2 p) : pr12 p ∈ shP := by
  obtain ⟨h1, h2, h3, h4⟩ := h
  exact List.mem_flatten.mpr ⟨_, List.mem_map.mpr ⟨p.1, shW_mem h1 h3, rfl⟩, List.mem_map.mpr ⟨p.2, shW_mem h2 h4, rfl⟩⟩
theorem ring_one : (shP.all fun p => chkR (ringW [p]) && chkM (ringW [p]) (ringM [p])) = true := by decide +kernel
theorem ring_two : (shP.all fun p => shP.all fun q => chkR (ringW [p, q]) && chkM (ringW [p, q]) (ringM [p, q])) = true := by decide +kernel
theorem ring_ok {prs : List (List Int × List Int)} (h1 : 1 ≤ prs.length) (h2 : prs.length ≤ 2) (hk : ∀ p ∈ prs, okK 1 2 p) : RimOk [ringW (prs.map pr12)] ∧ MatOk (ringW (prs.map pr12)) (ringM (prs.map pr12)) := by
  match prs, h1, h2, hk with
  | [p], _, _, hk =>
    have := List.all_eq_true.mp ring_one _ (shP_mem (hk p (by simp)))
    rw [Bool.and_eq_true] at this
    exact ⟨chkR_ok this.1, chkM_ok this.2⟩
  | [p, q], _, _, hk =>
    have := List.all_eq_true.mp (List.all_eq_true.mp ring_two _ (shP_mem (hk p (by simp)))) _ (shP_mem (hk q (by simp)))
    rw [Bool.and_eq_true] at this
    exact ⟨chkR_ok this.1, chkM_ok this.2⟩
  | _ :: _ :: _ :: _, _, h2, _ => simp at h2
end W33
set_option Elab.async false
set_option linter.all false
set_option maxRecDepth 100000
set_option maxHeartbeats 1000000
namespace W33
open PySem L2 PySem.Spec PyProof.Rows WR WB WE WS
/-! ### the law -/
abbrev sLaw : Stmt := top 88
abbrev nLaw : List Str := ["_law_script", "_law_pen_here", "_law_turn", "_law_letters", "_law_mates", "_law_pairs_here", "_law_sewing_here", "_law_two", "_law_odd", "_law_heard_here", "_law_one", "_law_other"]
theorem scLaw : FnScope nLaw ["_law_script"] (defScope sLaw) := ⟨rfl, rfl, rfl, by decide +kernel, rfl, by decide +kernel, by decide +kernel⟩
abbrev qLaw : Str := ("law" : Str) ++ ".<locals>." ++ "<lambda>"
def spLaw (K : PySem.W.Frag) (T : List (Addr × Str)) : Sp := fun vs H Q _ => ∃ (a : Addr) (ns : List Int), vs = [.ref a] ∧ SqL K H a (ns.map V.int) ∧ ns.length ≤ 63 ∧ LamX.Tabs T H ∧ ∀ H', Q (.bl true) H'
structure XO (K : PySem.W.Frag) (C CR CS : Addr) : Prop where
  nN : PySem.W.kitOne K (.type "NoneType") (.ref CS) = some false
  nI : PySem.W.kitOne K (.type "int") (.ref CS) = some false
  nL : PySem.W.kitOne K (.type "list") (.ref CS) = some false
  nT : PySem.W.kitOne K (.type "tuple") (.ref CS) = some false
  nS : PySem.W.kitOne K (.type "str") (.ref CS) = some false
  nW : PySem.W.kitOne K (.ref C) (.ref CS) = some false
  nR : PySem.W.kitOne K (.ref CR) (.ref CS) = some false
theorem FunC.okG {P : Program} {w : World} {K : PySem.W.Frag} {mg : Str → Option Value} {base : Heap} {x : Str} {st : Stmt} {f c : Addr} {fd : FuncData} {N ps : List Str} {k : Nat} {sp : Sp} (F : FunC K x st f c fd) (S : FnScope N ps (defScope st)) (many : ∀ zs G R E, sp zs G R E → zs.length = ps.length)
    (B0 : ∀ (B : Around) (fr : List Env) (t : Shared) (G : Hp) (zs : List V) (R : VK) (E : XK), B.guards = some [] → Room k (B.deeper (envOfC x (defScope st) t.heap.objs.size f (.ref c))) → sp zs G R E →
      ∃ tb, PSs (cxOf CX0 P w K mg base N x (defScope st) f (.ref c) B fr t G E).nox (defBody st) tb ∧ tb { nx := fun _ G' => R .non G', rt := R } (L2.start N zs) G) : RG.FnG P w K mg base (k + 1) f fd ps sp := by
  obtain ⟨oc, od, kV, doc, pm, an, ct, osl, rfl, lk, cd⟩ := F.ex
  refine RG.fnG_of lk cd S many fun B fr t G zs R E hg room asked => ?_
  obtain ⟨tb, run, read⟩ := B0 B fr t G zs R E hg room asked
  exact ⟨tb, run.nox, read⟩
theorem SewAt.kept {K : PySem.W.Frag} {C CR CS : Addr} {H H' : Hp} {D p rp : Addr} {xs : List Addr} {ws : List (List Int)} {mt : List Int} {us : List V} (h : SewAt K C CR CS H p rp xs ws mt) (hD : H D = some (.lst us)) (d : Kept D H H') : SewAt K C CR CS H' p rp xs ws mt := by
  have kB : ∀ {a ys}, SqB K H a ys → SqB K H' a ys := fun h => SqB.keptL hD d h
  have kI : ∀ {a C dx fs}, H a = some (.ins C dx fs) → H' a = some (.ins C dx fs) := fun {a C dx fs} e => d _ _ (fun z => by rw [z, hD] at e; cases e) e
  have kC : ∀ {a cs}, CornAt K H a cs → CornAt K H' a cs := fun ⟨vs, h1, h2⟩ => ⟨vs, kB h1, h2.imp fun _ _ ⟨q, e, r⟩ => ⟨q, e, kB r⟩⟩
  obtain ⟨dx, tm, tc, tp, h1, ⟨d2, tw, tl, th, tn, r1, r2, r3, r4, r5, r6⟩, h3, h4, h5⟩ := h
  refine ⟨dx, tm, tc, tp, kI h1, ⟨d2, tw, tl, th, tn, kI r1, kB r2, r3.imp fun a ns wa => ?_, kB r4, kB r5, kB r6⟩, kB h3, kC h4, kC h5⟩
  obtain ⟨dx, tl, tk, ks, w1, w2, w3, w4⟩ := wa
  exact ⟨dx, tl, tk, ks, kI w1, kB w2, SqT.keptL hD d w3, w4⟩
theorem HandAt.lst {H : Hp} {a c : Addr} {n : Nat} (h : HandAt H a c n) : ∃ xs, H a = some (.lst xs) := by
  obtain ⟨ns, i, r, h1, _⟩ := h
  exact ⟨_, h1⟩
theorem SewAt.drew {K : PySem.W.Frag} {C CR CS : Addr} {H H' : Hp} {a c p rp : Addr} {xs : List Addr} {ws : List (List Int)} {mt : List Int} {n m : Nat} (h : SewAt K C CR CS H p rp xs ws mt) (hH : HandAt H a c n) (d : Drew a c m H H') : SewAt K C CR CS H' p rp xs ws mt := by
  obtain ⟨us, e⟩ := hH.lst
  exact h.kept e d.2
section
variable {K : PySem.W.Frag} {C CR CS : Addr} {H H' : Hp}
theorem SqT.extN {a : Addr} {xs : List V} (s : LamX.ExtN H H') (h : SqT K H a xs) : SqT K H' a xs :=
  h.elim (fun r => .inl (r.elim (fun r => .inl (s _ _ r fun ps q => by cases q)) fun ⟨o, r⟩ => .inr ⟨o, s _ _ r fun ps q => by cases q⟩)) fun r => .inr r
theorem SqB.extN {a : Addr} {xs : List V} (s : LamX.ExtN H H') (h : SqB K H a xs) : SqB K H' a xs :=
  ⟨SqT.extN s h.sq, let ⟨o, u, e, z⟩ := h.bare; ⟨o, u, s _ _ e (fun ps q => by cases q), z⟩⟩
theorem WordAt.extN {p : Addr} {ns : List Int} (s : LamX.ExtN H H') (h : WordAt K C H p ns) : WordAt K C H' p ns := by
  obtain ⟨dx, tl, tk, ks, h1, h2, h3, h4⟩ := h
  exact ⟨dx, tl, tk, ks, s _ _ h1 (fun ps q => by cases q), SqB.extN s h2, SqT.extN s h3, h4⟩
theorem RimsAt.extN {p : Addr} {xs : List Addr} {ws : List (List Int)} (s : LamX.ExtN H H') (h : RimsAt K C CR H p xs ws) : RimsAt K C CR H' p xs ws := by
  obtain ⟨d2, tw, tl, th, tn, r1, r2, r3, r4, r5, r6⟩ := h
  exact ⟨d2, tw, tl, th, tn, s _ _ r1 (fun ps q => by cases q), SqB.extN s r2, r3.imp fun a ns wa => WordAt.extN s wa, SqB.extN s r4, SqB.extN s r5, SqB.extN s r6⟩
theorem CornAt.extN {a : Addr} {cs : List (List Nat)} (s : LamX.ExtN H H') (h : CornAt K H a cs) : CornAt K H' a cs := by
  obtain ⟨vs, h1, h2⟩ := h
  exact ⟨vs, SqB.extN s h1, h2.imp fun _ _ ⟨q, e, r⟩ => ⟨q, e, SqB.extN s r⟩⟩
theorem SewAt.extN {p rp : Addr} {xs : List Addr} {ws : List (List Int)} {mt : List Int} (s : LamX.ExtN H H') (h : SewAt K C CR CS H p rp xs ws mt) : SewAt K C CR CS H' p rp xs ws mt := by
  obtain ⟨dx, tm, tc, tp, h1, h2, h3, h4, h5⟩ := h
  exact ⟨dx, tm, tc, tp, s _ _ h1 (fun ps q => by cases q), RimsAt.extN s h2, SqB.extN s h3, CornAt.extN s h4, CornAt.extN s h5⟩
end
theorem two_rim : RimOk [[1, 2], [-2, -1]] := ⟨by decide, by decide, by decide, by decide, by unfold Lts; decide, by decide +kernel⟩
theorem two_mat : MatOk [[1, 2], [-2, -1]].flatten [3, 2, 1, 0] := chkM_ok (by decide +kernel)
section
variable {P : Program} {w : World} {K : PySem.W.Frag} {mg : Str → Option Value} {base : Heap} {C CR CS CBS CMF : Addr}
theorem ok_Law {f cd P1 g : Addr} {fd : FuncData} {TT : List (Addr × Str)} (F : FunC K "law" sLaw f cd fd) (N : TN mg) (T : TxW K mg C) (TC : TxRC K mg CR) (TS : TxSC K mg CS) (MW : MkW P w K mg base C) (MR : MkR P w K mg base C CR) (MS : MkS P w K mg base C CR CS) (XO_ : XO K C CR CS)
    (BS : ErrC P w K mg base CBS "BadSewing" ["self", "part"] (spI1 "part" CBS)) (MF : ErrC P w K mg base CMF "Misfit" ["self", "part"] (spI1 "part" CMF)) (Z : Two K mg CBS CMF) (G : HearK K mg g) (TB : LamX.TabB base mg cd P1) (hT : (P1, qLaw) ∈ TT) (hu : ∀ p ∈ TT, p.1 = P1 → p.2 = qLaw)
    (G_pen : Cal P w K mg base "_law_pen" 1 ["_law_script"] (spHand K)) (G_draw : Cal P w K mg base "_law_draw" 1 ["_law_pen_here", "_law_many"] spTake) (G_pick : Cal P w K mg base "_law_pick" 2 ["_law_pen_here", "_law_some"] spPick) (G_sewn : Cal P w K mg base "_law_sewn" 2 ["_law_pen_here", "_law_bands", "_law_kinds"] (spSewn K))
    (G_told_right : Cal P w K mg base "_law_told_right" 12 ["_law_letters", "_law_mates"] (spTR K)) (G_pairs : Cal P w K mg base "_law_pairs" 3 ["_law_pen_here", "_law_many", "_law_most", "_law_kinds"] spPairsL) (G_made : Cal P w K mg base "_law_made" 6 ["_law_pairs_here"] (spMade K C))
    (G_sewing_of : Cal P w K mg base "sewing_of" 8 ["pairs"] (spSO K C CR CS)) (G_tightened : CalX P w K mg base "tightened" 11 ["sewing"] (spTgt K C CR CS CBS CMF)) :
    RG.FnG P w K mg base 14 f fd ["_law_script"] (spLaw K TT) := by
  refine F.okG scLaw (fun vs H Q E h => ?_) (fun A outer s H vs Q E hg hr h => ?_)
  · obtain ⟨a, ns, rfl, _⟩ := h
    rfl
  · obtain ⟨a, ns, rfl, hS, hlen, tT, k⟩ := h
    obtain ⟨oc, od, kV, doc, pm, cdv, ct, an, osl, lk, hcd⟩ := G.ex
    have bG : L2.Binds K (PySem.W.fnOf "_law_heard" "_law_heard" (defArgs sHeard) (defBody sHeard) (defScope sHeard) .none kV doc pm an cdv ct) ["_law_ask"] [] := (fun_mk (st := sHeard) lk hcd G.kp).binds (ps := ["_law_ask"]) fun _ _ _ _ _ _ us hl => match us, hl with | [_], _ => rfl
    refine ⟨_, pss_cons (ps_set (i := 1) scLaw.nd rfl (Or.inl rfl) (pe_cal G_pen hr (by decide) (by rfl) (pa_cons (pv 0) pa_nil)))
      (pss_cons (ps_for PassesOwn.never rfl (pi_range1 (by rfl) N.range (pa_cons pe_int pa_nil)) (pg_name (i := 2) scLaw.nd rfl (Or.inl rfl))
      (pss_cons (ps_asg (pe_cal G_sewn hr (by decide) (by rfl) (pa_cons (pv 1) (pa_cons (pe_cal G_pick hr (by decide) (by rfl) (pa_cons (pv 1) (pa_cons (pe_lst (pa_cons pe_int (pa_cons pe_int (pa_cons pe_int (pa_cons pe_int (pa_cons pe_int (pa_cons pe_int (pa_cons pe_int (pa_cons pe_int pa_nil))))))))) pa_nil))) (pa_cons (pe_cal G_pick hr (by decide) (by rfl) (pa_cons (pv 1) (pa_cons (pe_lst (pa_cons pe_int (pa_cons pe_int (pa_cons pe_int (pa_cons pe_int pa_nil))))) pa_nil))) pa_nil)))) (pg_tup (n := 2) rfl (pgs_cons (pg_name (i := 3) scLaw.nd rfl (Or.inl rfl)) (pgs_cons (pg_name (i := 4) scLaw.nd rfl (Or.inl rfl)) pgs_nil))))
      (pss_one (ps_if (pt_not (pt_val (pe_cal G_told_right hr (by decide) (by rfl) (pa_cons (pv 3) (pa_cons (pv 4) pa_nil))))) (pss_one (ps_ret pe_bl)) pss_nil))))
      (pss_cons (ps_setLc (i := 5) (own := [("_law_one", 10), ("_law_other", 11)]) (g := gTup K 2 (gCons (gName 10) (gCons (gName 11) gNil))) (tt := tYes) rfl scLaw.nd rfl rfl (sw_true rfl rfl rfl (by decide +kernel)) (pi_list (pe_cal G_pairs hr (by decide) (by rfl) (pa_cons (pv 1) (pa_cons (pe_op op_add pe_int (pe_cal G_draw hr (by decide) (by rfl) (pa_cons (pv 1) (pa_cons pe_int pa_nil)))) (pa_cons pe_int (pa_cons pe_int pa_nil)))))) (blkOk_by (N := nLaw) (sc := defScope sLaw) (by decide +kernel)) (fun _ _ _ _ _ => (pg_tup (n := 2) rfl (pgs_cons (pg_name (i := 10) scLaw.nd rfl (Or.inl rfl)) (pgs_cons (pg_name (i := 11) scLaw.nd rfl (Or.inl rfl)) pgs_nil)))) (fun _ _ _ _ _ => pts_nil) (fun _ _ _ _ _ => (pe_tup (pa_cons (pe_op op_cat (pv 10) (pe_lst (pa_cons pe_int pa_nil))) (pa_cons (pe_op op_cat (pv 11) (pe_lst (pa_cons (pe_un un_neg pe_int) pa_nil))) pa_nil)))))
      (pss_cons (ps_set (i := 6) scLaw.nd rfl (Or.inl rfl) (pe_cal G_sewing_of hr (by decide) (by rfl) (pa_cons (pe_cal G_made hr (by decide) (by rfl) (pa_cons (pv 5) pa_nil)) pa_nil)))
      (pss_cons (ps_if (pt_not (pt_val (pe_cal G_told_right hr (by decide) (by rfl) (pa_cons (pe_callTy call_list_of (by rfl) N.list (by decide +kernel) (pa_cons (pe_fld (pe_fld (pv 6) rfl) rfl) pa_nil)) (pa_cons (pe_callTy call_list_of (by rfl) N.list (by decide +kernel) (pa_cons (pe_fld (pv 6) rfl) pa_nil)) pa_nil))))) (pss_one (ps_ret pe_bl)) pss_nil)
      (pss_cons (ps_set (i := 7) scLaw.nd rfl (Or.inr rfl) (pe_sewK rfl MS TS hr (by decide) (by rfl) (pa_cons (pe_rims (mg := mg) MR TC hr (by decide) (by rfl) (pa_cons (pe_lst (pa_cons (pe_word MW T hr (by decide) (by rfl) (pa_cons (pe_lst (pa_cons pe_int (pa_cons pe_int pa_nil))) pa_nil)) (pa_cons (pe_word MW T hr (by decide) (by rfl) (pa_cons (pe_lst (pa_cons (pe_un un_neg pe_int) (pa_cons (pe_un un_neg pe_int) pa_nil))) pa_nil)) pa_nil))) pa_nil)) (pa_cons (pe_lst (pa_cons pe_int (pa_cons pe_int (pa_cons pe_int (pa_cons pe_int pa_nil))))) pa_nil))))
      (pss_cons (ps_set (i := 8) scLaw.nd rfl (Or.inr rfl) (pe_cal G_pick hr (by decide) (by rfl) (pa_cons (pv 1) (pa_cons (pe_lst (pa_cons pe_non (pa_cons pe_int (pa_cons (pv 3) (pa_cons (pe_tup (pa_cons (pv 3) (pa_cons (pv 4) pa_nil))) (pa_cons (pe_word MW T hr (by decide) (by rfl) (pa_cons (pv 3) pa_nil)) (pa_cons (pe_rims (mg := mg) MR TC hr (by decide) (by rfl) (pa_cons (pe_lst (pa_cons (pe_word MW T hr (by decide) (by rfl) (pa_cons (pv 3) pa_nil)) pa_nil)) pa_nil)) (pa_cons pe_str pa_nil)))))))) pa_nil))))
      (pss_cons (ps_set (i := 9) scLaw.nd rfl (Or.inl rfl) (pe_lst (pa_cons (LamX.pe_lamcall (T := TT) (k := 11) (t := fun E => tCall (spTgt K C CR CS CBS CMF) [] E (tCons (tVar 8) tNil)) (by rfl) G.mg G.kp lk hcd bG scHeard (by rfl) (Or.inl rfl) (heard_gives BS MF Z) TB rfl hT hu hr (LamX.lamS_by (sc := defScope sLaw) (by decide +kernel)) (by rfl) (fun q cl pm cv ctv => by rfl) (fun A outer s H E f c' hr2 => pe_calX G_tightened hr2 (by decide) (passes_call (takes_of rfl rfl rfl rfl) (fun _ _ _ _ h => h)) (by rfl) (pa_cons (pv 8) pa_nil))) pa_nil)))
      (pss_cons (ps_expr (pe_bm PySem.F.plainAttrs_list PySem.F.slot_list_append PySem.F.type_list_append mt_append (pv 9) (pa_cons (LamX.pe_lamcall (T := TT) (k := 11) (t := fun E => tCall (spTgt K C CR CS CBS CMF) [] E (tCons (tVar 7) tNil)) (by rfl) G.mg G.kp lk hcd bG scHeard (by rfl) (Or.inl rfl) (heard_gives BS MF Z) TB rfl hT hu hr (LamX.lamS_by (sc := defScope sLaw) (by decide +kernel)) (by rfl) (fun q cl pm cv ctv => by rfl) (fun A outer s H E f c' hr2 => pe_calX G_tightened hr2 (by decide) (passes_call (takes_of rfl rfl rfl rfl) (fun _ _ _ _ h => h)) (by rfl) (pa_cons (pv 7) pa_nil))) pa_nil)))
      (pss_one (ps_ret (pe_cmpR (op_eqD hr.units) (pv 9) (pe_lst (pa_cons (pe_tup (pa_cons pe_str (pa_cons pe_str pa_nil))) (pa_cons (pe_tup (pa_cons pe_str (pa_cons pe_str pa_nil))) pa_nil))) (nomark _)))))))))))), ?_⟩
    refine ⟨_, rfl, a, ns, rfl, hS, by omega, fun H1 h c s1 hn cn hH1 => ?_⟩
    have t1 := tT.ext s1
    refine ⟨5, rfl, by decide, by decide, for_range (lo := 0) (n := 5) (fun i σ H' => (∃ v2 v3 v4 : Option V, σ = [some (.ref a), some (.ref h), v2, v3, v4, none, none, none, none, none, none, none] ∧ (i ≠ 0 → ∃ (l m : Addr) (wd mt : List Int), v3 = some (.ref l) ∧ v4 = some (.ref m) ∧ H' l = some (.lst (iv wd)) ∧ H' m = some (.lst (iv mt)) ∧ RimOk [wd] ∧ MatOk wd mt)) ∧ HandAt H' h c (42 * i) ∧ LamX.Tabs TT H') ⟨⟨none, none, none, rfl, fun z => absurd rfl z⟩, hH1, t1⟩ ?_ ?_⟩
    · rintro i σ H2 hi ⟨⟨v2, v3, v4, rfl, _⟩, hH2, t2⟩
      have small8 : ∀ v ∈ [V.int 4, .int 3, .int 6, .int 2, .int 8, .int 1, .int 12, .int 5], ∃ j : Nat, v = .int (j : Int) ∧ 1 ≤ j ∧ j ≤ 12 := fun v hv => by
        simp only [List.mem_cons, List.mem_nil_iff, or_false] at hv
        rcases hv with rfl | rfl | rfl | rfl | rfl | rfl | rfl | rfl
        · exact ⟨4, rfl, by decide⟩
        · exact ⟨3, rfl, by decide⟩
        · exact ⟨6, rfl, by decide⟩
        · exact ⟨2, rfl, by decide⟩
        · exact ⟨8, rfl, by decide⟩
        · exact ⟨1, rfl, by decide⟩
        · exact ⟨12, rfl, by decide⟩
        · exact ⟨5, rfl, by decide⟩
      have small4 : ∀ v ∈ [V.int 1, .int 2, .int 1, .int 3], ∃ j : Nat, v = .int (j : Int) ∧ 1 ≤ j ∧ j ≤ 26 := fun v hv => by
        simp only [List.mem_cons, List.mem_nil_iff, or_false] at hv
        rcases hv with rfl | rfl | rfl | rfl
        · exact ⟨1, rfl, by decide⟩
        · exact ⟨2, rfl, by decide⟩
        · exact ⟨1, rfl, by decide⟩
        · exact ⟨3, rfl, by decide⟩
      refine ⟨_, rfl, _, rfl, by show 8 ≤ sizeLine; decide, fun l3 hl3 => ?_⟩
      have s3 := same_upd (o := .lst [.int 4, .int 3, .int 6, .int 2, .int 8, .int 1, .int 12, .int 5]) hl3
      have k3 := hH2.same s3
      have u3 := t2.ext s3
      refine ⟨h, c, l3, _, _, rfl, k3, by omega, hH2.ne hl3, upd_same, by show 0 < 8; decide, by show 8 ≤ 1000; decide, fun v4 hv4 H4 d4 => ?_⟩
      obtain ⟨j4, rfl, e4, e4'⟩ := small8 v4 hv4
      have u4 := tabs_kept k3 d4.2 u3
      refine ⟨_, rfl, by show 4 ≤ sizeLine; decide, fun l5 hl5 => ?_⟩
      have s5 := same_upd (o := .lst [.int 1, .int 2, .int 1, .int 3]) hl5
      have k5 := d4.1.same s5
      have u5 := u4.ext s5
      refine ⟨h, c, l5, _, _, rfl, k5, by omega, d4.1.ne hl5, upd_same, by show 0 < 4; decide, by show 4 ≤ 1000; decide, fun v6 hv6 H6 d6 => ?_⟩
      obtain ⟨j6, rfl, e6, e6'⟩ := small4 v6 hv6
      have u6 := tabs_kept k5 d6.2 u5
      refine ⟨h, c, j4, j6, _, rfl, d6.1, by omega, e4, e4', e6, e6', fun q l m H7 wd mt hl hm d7 T7 gl gm ro mo => ?_⟩
      have u7 := tabs_kept d6.1 d7.2 u6
      refine ⟨q, _, rfl, T7, rfl, _, _, rfl, _, _, rfl, rfl, ?_⟩
      refine ⟨_, rfl, _, rfl, l, m, wd, mt, rfl, gl, gm, ro, mo, fun H8 s8 => ⟨_, rfl, iteF ?_⟩⟩
      exact ⟨⟨_, _, _, rfl, fun _ => ⟨l, m, wd, mt, rfl, rfl, s8 _ _ gl, s8 _ _ gm, ro, mo⟩⟩, (d7.1.same s8).mono (by omega), u7.ext s8⟩
    rintro σ H2 ⟨⟨v2, v3, v4, rfl, hv⟩, hH2, t2⟩
    obtain ⟨l, m, wd, mt, rfl, rfl, gl, gm, ro, mo⟩ := hv (by decide)
    dsimp only
    unfold tSeq
    refine asg_lc1 ?_
    refine ⟨_, rfl, _, rfl, h, c, 2, _, rfl, hH2, by omega, by decide, by decide, fun H3 q3 q30 q31 hH3 hK3 => ⟨_, _, rfl, rfl, ?_⟩⟩
    have u3 := tabs_kept hH2 hK3 t2
    have gl3 := hK3 _ _ (hH2.iv_ne gl) gl
    have gm3 := hK3 _ _ (hH2.iv_ne gm) gm
    obtain ⟨j7, e7⟩ : ∃ j7 : Nat, 1 + q3 = (j7 : Int) := ⟨(1 + q3).toNat, by omega⟩
    refine ⟨h, c, j7, 1, 2, _, congrArg (fun z => [V.ref h, V.int z, V.int 1, V.int 2]) e7, hH3, by omega, by decide, by omega, by decide, by decide, fun p H4 prs hp d4 hP hlp hok => ?_⟩
    obtain ⟨ws4, g4, r4⟩ := hP
    have u4 := tabs_kept hH3 d4.2 u3
    have gl4 := d4.2 _ _ (hH3.iv_ne gl3) gl3
    have gm4 := d4.2 _ _ (hH3.iv_ne gm3) gm3
    have l4 := r4.length
    refine ⟨p, rfl, ⟨_, SqL.of g4⟩, ?_⟩
    refine lcM (walk_list (xs := ws4)) (prs.map pr12) PPrN (fun _ _ _ _ _ h s => h.same s) (fun _ _ _ _ _ _ _ h => h.put) (by omega) (by rw [List.length_map]; exact l4) (fun H6 s6 => SqL.of (s6 _ _ g4)) ?_ (fun x σ1 H A B k h => gTup_mono k h) ?_
    · intro i x b hx hb D H10 hD ⟨us, hus⟩ s10 Qy ky
      obtain ⟨pr, hpr, q, x1, y1, rfl, r1, r2, r3⟩ := r4.at hx
      rw [List.getElem?_map, hpr] at hb
      obtain rfl := Option.some.inj hb
      obtain ⟨o1, o2, _⟩ := hok pr (List.mem_of_getElem? hpr)
      refine ⟨q, _, rfl, SqT.of (s10 _ _ r1), rfl, _, _, rfl, _, _, rfl, rfl, ?_⟩
      refine ⟨rfl, ?_⟩
      have lv : (iv pr.1).length ≤ 1 := by rw [List.length_map]; exact o1
      have lv2 : (iv pr.2).length ≤ 1 := by rw [List.length_map]; exact o2
      refine ⟨_, rfl, by show 1 ≤ sizeLine; decide, fun z1 hz1 => ⟨x1, z1, _, _, rfl, rfl, (same_upd hz1) _ _ (s10 _ _ r2), upd_same, Evl.sz_of (by show _ + 1 ≤ _; omega), fun z2 hz2 => ?_⟩⟩
      have s12 := (same_upd (o := .lst [.int 1]) hz1).trans (same_upd (o := .lst (iv pr.1 ++ [V.int 1])) hz2)
      have gz2 : L2.upd (L2.upd H10 z1 (.lst [.int 1])) z2 (.lst (iv pr.1 ++ [V.int 1])) z2 = some (.lst (iv (pr.1 ++ [1]))) := by rw [upd_same]; simp [iv]
      have nz2 : z2 ≠ D := fun z => by have := (same_upd (o := .lst [.int 1]) hz1) _ _ hus; rw [← z, hz2] at this; cases this
      generalize L2.upd (L2.upd H10 z1 (.lst [.int 1])) z2 (.lst (iv pr.1 ++ [V.int 1])) = H12 at s12 gz2 ⊢
      refine ⟨_, rfl, _, rfl, by show 1 ≤ sizeLine; decide, fun z3 hz3 => ⟨y1, z3, _, _, rfl, rfl, (same_upd hz3) _ _ (s12 _ _ (s10 _ _ r3)), upd_same, Evl.sz_of (by show _ + 1 ≤ _; omega), fun z4 hz4 => ?_⟩⟩
      have s34 := (same_upd (o := .lst [.int (-2)]) hz3).trans (same_upd (o := .lst (iv pr.2 ++ [V.int (-2)])) hz4)
      have gz4 : L2.upd (L2.upd H12 z3 (.lst [.int (-2)])) z4 (.lst (iv pr.2 ++ [V.int (-2)])) z4 = some (.lst (iv (pr.2 ++ [-2]))) := by rw [upd_same]; simp [iv]
      have nz4 : z4 ≠ D := fun z => by have := (same_upd (o := .lst [.int (-2)]) hz3) _ _ (s12 _ _ hus); rw [← z, hz4] at this; cases this
      generalize L2.upd (L2.upd H12 z3 (.lst [.int (-2)])) z4 (.lst (iv pr.2 ++ [V.int (-2)])) = H14 at s34 gz4 ⊢
      refine ⟨by show 2 ≤ sizeLine; decide, fun tq htq => ?_⟩
      have s15 := same_upd (o := .tup [.ref z2, .ref z4]) htq
      have hus14 := s34 _ _ (s12 _ _ hus)
      exact ky (.ref tq) _ ((s12.trans s34).trans s15) ⟨tq, z2, z4, ⟨(fun z => by rw [z, hus14] at htq; cases htq), nz2, nz4⟩, rfl, upd_same, s15 _ _ (s34 _ _ gz2), s15 _ _ gz4⟩
    intro D5 H5 ws5 hD5 s5 g5 r5
    unfold gName
    dsimp only [List.set]
    have hlr : (prs.map pr12).length = prs.length := List.length_map ..
    obtain ⟨ro5, mo5⟩ := ring_ok (prs := prs) (by omega) (by omega) hok
    have okp : ∀ q ∈ prs.map pr12, q.1 ≠ [] ∧ q.2 ≠ [] ∧ Lts q.1 ∧ Lts q.2 ∧ q.1.length ≤ 2 ∧ q.2.length ≤ 2 := fun q hq => by
      obtain ⟨pp, hpp, rfl⟩ := List.mem_map.mp hq
      obtain ⟨o1, o2, o3, o4⟩ := hok pp hpp
      have x1 : Lts (pp.1 ++ [1]) := fun z hz => by
        rcases List.mem_append.mp hz with hz | hz
        · have := o3 z hz
          exact ⟨this.1, by omega⟩
        · rw [List.mem_singleton.mp hz]
          decide
      have x2 : Lts (pp.2 ++ [-2]) := fun z hz => by
        rcases List.mem_append.mp hz with hz | hz
        · have := o4 z hz
          exact ⟨this.1, by omega⟩
        · rw [List.mem_singleton.mp hz]
          decide
      exact ⟨by simp [pr12], by simp [pr12], x1, x2, by show (pp.1 ++ [1]).length ≤ 2; rw [List.length_append]; show _ + 1 ≤ 2; omega, by show (pp.2 ++ [-2]).length ≤ 2; rw [List.length_append]; show _ + 1 ≤ 2; omega⟩
    refine ⟨_, rfl, D5, prs.map pr12, rfl, ⟨ws5, g5, r5.imp fun _ _ r => r.to⟩, by omega, fun q hq => ⟨by have := okp q hq; omega, by have := okp q hq; omega, (okp q hq).2.2.1, (okp q hq).2.2.2.1⟩, fun p6 H6 ws6 hp6 s6 g6 m6 => ?_⟩
    refine ⟨p6, ws6, prs.map pr12, rfl, g6, m6.imp fun _ _ r => ?_, by omega, by omega, fun q hq => ⟨(okp q hq).1, (okp q hq).2.1, (okp q hq).2.2.1, (okp q hq).2.2.2.1⟩, ro5, mo5, fun sw H7 rq xs s7 S7 => ?_⟩
    · obtain ⟨q, x, y, e, h1, h2, h3⟩ := r
      exact ⟨q, x, y, e, SqT.of h1, h2, h3⟩
    have s57 := (s5.trans s6).trans s7
    have d7 := d4.1.same s57
    have u7 := u4.ext s57
    have gl7 := s57 _ _ gl4
    have gm7 := s57 _ _ gm4
    dsimp only [List.set]
    obtain ⟨dx, tm, tc, tp, h1, R, h3, hc, hpc⟩ := id S7
    obtain ⟨dr, tw, tl, th, tn, r1, r2, r3, r4, r5, r6⟩ := id R
    rw [flat1] at r4
    refine ⟨_, rfl, sw, CS, dx, _, _, rfl, h1, TS.cl, TS.n1, sf_rims, rq, CR, dr, _, _, rfl, r1, TC.cl, TC.n2, rf_letters, tl, _, rfl, .inr r4.sq, fun z1 hz1 => ?_⟩
    have s8 := same_upd (o := .lst (iv (ringW (prs.map pr12)))) hz1
    have g8 : L2.upd H7 z1 (.lst (iv (ringW (prs.map pr12)))) z1 = some (.lst (iv (ringW (prs.map pr12)))) := upd_same
    generalize L2.upd H7 z1 (.lst (iv (ringW (prs.map pr12)))) = H8 at s8 g8 ⊢
    refine ⟨_, rfl, sw, CS, dx, _, _, rfl, s8 _ _ h1, TS.cl, TS.n2, sf_mates, tm, _, rfl, .inr (SqB.same s8 h3).sq, fun z2 hz2 => ?_⟩
    have s9 := same_upd (o := .lst (iv (ringM (prs.map pr12)))) hz2
    refine ⟨z1, z2, ringW (prs.map pr12), ringM (prs.map pr12), rfl, s9 _ _ g8, upd_same, ro5, mo5, fun H9 s10 => ⟨_, rfl, iteF ?_⟩⟩
    have s79 := (s8.trans s9).trans s10
    have d9 := d7.same s79
    have u9 := u7.ext s79
    have gl9 := s79 _ _ gl7
    have gm9 := s79 _ _ gm7
    unfold tNext
    dsimp only
    refine mk_args ?_
    refine ⟨by show 2 ≤ sizeLine; decide, fun l1 hl1 => ?_⟩
    have sa1 := same_upd (o := .lst [.int 1, .int 2]) hl1
    intro x1 dx1 nx1 ndx1 _
    refine make_at (ms := [1, 2]) nx1 ndx1 (.inl (SqL.of upd_same)) (by decide) (fun z hz => by simp at hz; rcases hz with rfl | rfl <;> decide) fun Ha sa Wa => ?_
    refine ⟨_, rfl, _, rfl, by show 2 ≤ sizeLine; decide, fun l2 hl2 => ?_⟩
    have sa2 := same_upd (o := .lst [.int (-2), .int (-1)]) hl2
    intro x2 dx2 nx2 ndx2 _
    refine make_at (ms := [-2, -1]) nx2 ndx2 (.inl (SqL.of upd_same)) (by decide) (fun z hz => by simp at hz; rcases hz with rfl | rfl <;> decide) fun Hb sb Wb => ?_
    refine ⟨by show 2 ≤ sizeLine; decide, fun O hO => ?_⟩
    have sO := same_upd (o := .lst [.ref x1, .ref x2]) hO
    intro px dpx npx ndpx _
    refine rims_at npx ndpx (SqL.of (show L2.upd Hb O (.lst [.ref x1, .ref x2]) O = some (.lst ([x1, x2].map V.ref)) from upd_same)) (.cons (((Wa.same sa2).same sb).same sO) (.cons (Wb.same sO) .nil)) two_rim fun Hr sr Rr => ?_
    refine ⟨by show 4 ≤ sizeLine; decide, fun M hM => ?_⟩
    have sM := same_upd (o := .lst [.int 3, .int 2, .int 1, .int 0]) hM
    intro y dy ny ndy _
    refine sew_at (mt := [3, 2, 1, 0]) ny ndy (Rr.same sM) two_rim (.inl (SqL.of upd_same)) two_mat fun Hs ss Ss => ?_
    have s9s := (((sa1.trans sa).trans (sa2.trans sb)).trans (sO.trans sr)).trans (sM.trans ss)
    have ds := d9.same s9s
    have us := u9.ext s9s
    have gls := s9s _ _ gl9
    have gms := s9s _ _ gm9
    clear sa1 sa sa2 sb sO sr sM ss s9s Rr Wa Wb hl1 hl2 hO hM nx1 ndx1 nx2 ndx2 npx ndpx ny ndy
    dsimp only [List.set]
    have wl := ro.2.2.2.1
    have wk := ro.2.2.2.2.1
    rw [flat1] at wl wk
    refine ⟨_, rfl, _, rfl, _, rfl, _, rfl, by show 2 ≤ sizeLine; decide, fun t8 ht8 => ?_⟩
    have b1 := same_upd (o := .tup [.ref l, .ref m]) ht8
    have gt8 : L2.upd Hs t8 (.tup [.ref l, .ref m]) t8 = some (.tup [.ref l, .ref m]) := upd_same
    generalize L2.upd Hs t8 (.tup [.ref l, .ref m]) = Hc at b1 gt8 ⊢
    refine ⟨_, rfl, ?_⟩
    intro x8 dx8 nx8 ndx8 _
    refine make_at nx8 ndx8 (.inl (SqL.of (b1 _ _ gls))) (by omega) wk fun Hd b2 W8 => ?_
    refine ⟨_, rfl, ?_⟩
    intro x9 dx9 nx9 ndx9 _
    refine make_at nx9 ndx9 (.inl (SqL.of (b2 _ _ (b1 _ _ gls)))) (by omega) wk fun He b3 W9 => ?_
    refine ⟨by show 1 ≤ sizeLine; decide, fun O9 hO9 => ?_⟩
    have b4 := same_upd (o := .lst [.ref x9]) hO9
    intro pr dpr npr ndpr _
    refine rims_at npr ndpr (SqL.of (show L2.upd He O9 (.lst [.ref x9]) O9 = some (.lst ([x9].map V.ref)) from upd_same)) (.cons (W9.same b4) .nil) ro fun Hf b5 R9 => ?_
    refine ⟨by show 7 ≤ sizeLine; decide, fun pl hpl => ?_⟩
    have b6 := same_upd (o := .lst [.non, .int 5, .ref l, .ref t8, .ref x8, .ref pr, .str "a a'"]) hpl
    have gpl : L2.upd Hf pl (.lst [.non, .int 5, .ref l, .ref t8, .ref x8, .ref pr, .str "a a'"]) pl = some (.lst [.non, .int 5, .ref l, .ref t8, .ref x8, .ref pr, .str "a a'"]) := upd_same
    generalize L2.upd Hf pl (.lst [.non, .int 5, .ref l, .ref t8, .ref x8, .ref pr, .str "a a'"]) = Hg at b6 gpl ⊢
    have b36 := (b3.trans (b4.trans b5)).trans b6
    have dg := ((ds.same b1).same b2).same b36
    have npl : pl ≠ h := (((ds.same b1).same b2).same (b3.trans (b4.trans b5))).ne hpl
    have ug := ((us.ext b1).ext b2).ext b36
    refine ⟨h, c, pl, _, _, rfl, dg, by omega, npl, gpl, by show 0 < 7; decide, by show 7 ≤ 1000; decide, fun v hv Hh dh => ?_⟩
    have uh := tabs_kept dg dh.2 ug
    have b16 := (b1.trans b2).trans b36
    have Sh := (Ss.same b16).drew dg dh
    have hN : ∀ H2, LamX.ExtN Hh H2 → NotC K CS H2 v := by
      have gl' := dh.2 _ _ (dg.iv_ne (b16 _ _ gls)) (b16 _ _ gls)
      have gt' := dh.2 _ _ (dg.tup_ne (b36 _ _ (b2 _ _ gt8))) (b36 _ _ (b2 _ _ gt8))
      obtain ⟨dw, _, _, _, w1, _⟩ := W8.same b36
      obtain ⟨dr9, _, _, _, _, p1, _⟩ := R9.same b6
      have w1' := dh.2 _ _ (fun z => by obtain ⟨ns', i', r', e', _⟩ := dg; rw [z, e'] at w1; cases w1) w1
      have p1' := dh.2 _ _ (fun z => by obtain ⟨ns', i', r', e', _⟩ := dg; rw [z, e'] at p1; cases p1) p1
      intro H2 x2
      simp only [List.mem_cons, List.mem_nil_iff, or_false] at hv
      rcases hv with rfl | rfl | rfl | rfl | rfl | rfl | rfl
      · exact ⟨_, .base .non, XO_.nN⟩
      · exact ⟨_, .base (.int _), XO_.nI⟩
      · exact ⟨_, .base (.lst (x2 _ _ gl' fun ps q => by cases q)), XO_.nL⟩
      · exact ⟨_, .base (.tup (x2 _ _ gt' fun ps q => by cases q)), XO_.nT⟩
      · exact ⟨_, .base (.ins (x2 _ _ w1' fun ps q => by cases q) T.cl T.ca T.cn T.ct T.cm), XO_.nW⟩
      · exact ⟨_, .base (.ins (x2 _ _ p1' fun ps q => by cases q) TC.cl TC.ca T.cn T.ct TC.cm), XO_.nR⟩
      · exact ⟨_, .base (.str _), XO_.nS⟩
    clear hv
    dsimp only [List.set]
    refine ⟨uh, fun Hi xi ti => ?_⟩
    refine ⟨_, rfl, v, rfl, .inl ⟨hN Hi xi, fun Hj sj d hd => ⟨d, rfl, .inl ⟨rfl, _, upd_same, fun t1' ht1 => ?_⟩⟩⟩⟩
    have c1 := same_upd (o := .xd [(("part" : Str), V.str "sewing")]) hd
    have c2 := same_upd (o := .tup [.str "sewing", .str "sewing"]) ht1
    have gt1 : L2.upd (L2.upd Hj d (.xd [(("part" : Str), V.str "sewing")])) t1' (.tup [.str "sewing", .str "sewing"]) t1' = some (.tup [.str "sewing", .str "sewing"]) := upd_same
    generalize L2.upd (L2.upd Hj d (.xd [(("part" : Str), V.str "sewing")])) t1' (.tup [.str "sewing", .str "sewing"]) = Hk at c2 gt1 ⊢
    refine ⟨by show 1 ≤ sizeLine; decide, fun hl hhl => ?_⟩
    have c3 := same_upd (o := .lst [.ref t1']) hhl
    have ghl : L2.upd Hk hl (.lst [.ref t1']) hl = some (.lst [.ref t1']) := upd_same
    generalize L2.upd Hk hl (.lst [.ref t1']) = Hl at c3 ghl ⊢
    dsimp only [List.set]
    have cc := ((sj.trans c1).trans c2).trans c3
    have Sl := (SewAt.extN xi Sh).same cc
    have ul := ti.ext cc
    have gt1l := c3 _ _ gt1
    refine ⟨_, rfl, .inl ⟨rfl, _, SqL.of ghl⟩, ul, fun Hm xm tm' => ?_⟩
    have ghm := xm _ _ ghl fun ps q => by cases q
    have gtm := xm _ _ gt1l fun ps q => by cases q
    refine ⟨_, rfl, V.ref y, rfl, .inr ⟨y, px, [x1, x2], [[1, 2], [-2, -1]], [3, 2, 1, 0], rfl, SewAt.extN xm Sl, .inl ⟨by decide, fun Hn sn d2 hd2 => ⟨d2, rfl, .inr ⟨rfl, _, upd_same, fun t2' ht2 => ?_⟩⟩⟩⟩⟩
    have e1 := same_upd (o := .xd [(("part" : Str), V.str "rims")]) hd2
    have e2 := same_upd (o := .tup [.str "misfit", .str "rims"]) ht2
    have gt2 : L2.upd (L2.upd Hn d2 (.xd [(("part" : Str), V.str "rims")])) t2' (.tup [.str "misfit", .str "rims"]) t2' = some (.tup [.str "misfit", .str "rims"]) := upd_same
    generalize L2.upd (L2.upd Hn d2 (.xd [(("part" : Str), V.str "rims")])) t2' (.tup [.str "misfit", .str "rims"]) = Ho at e2 gt2 ⊢
    have ee := (sn.trans e1).trans e2
    have gho := ee _ _ ghm
    have gto := ee _ _ gtm
    refine ⟨hl, _, _, rfl, rfl, gho, Evl.sz_lt (by show 1 < 100000; decide), ?_⟩
    have gh : L2.upd Ho hl (.lst ([.ref t1'] ++ [.ref t2'])) hl = some (.lst [.ref t1', .ref t2']) := upd_same
    have gt1p : L2.upd Ho hl (.lst ([.ref t1'] ++ [.ref t2'])) t1' = some (.tup [.str "sewing", .str "sewing"]) := by rw [upd_ne (fun z => by rw [z, gho] at gto; cases gto)]; exact gto
    have gt2p : L2.upd Ho hl (.lst ([.ref t1'] ++ [.ref t2'])) t2' = some (.tup [.str "misfit", .str "rims"]) := by rw [upd_ne (fun z => by rw [z, gho] at gt2; cases gt2)]; exact gt2
    generalize L2.upd Ho hl (.lst ([.ref t1'] ++ [.ref t2'])) = Hp1 at gh gt1p gt2p ⊢
    refine ⟨_, rfl, by show 2 ≤ sizeLine; decide, fun q1 hq1 => ?_⟩
    have f1 := same_upd (o := .tup [.str "sewing", .str "sewing"]) hq1
    refine ⟨by show 2 ≤ sizeLine; decide, fun q2 hq2 => ?_⟩
    have f2 := same_upd (o := .tup [.str "misfit", .str "rims"]) hq2
    refine ⟨by show 2 ≤ sizeLine; decide, fun q3 hq3 => ?_⟩
    have f3 := same_upd (o := .lst [.ref q1, .ref q2]) hq3
    have ff := (f1.trans f2).trans f3
    refine ⟨.list [.tuple [.str "sewing", .str "sewing"], .tuple [.str "misfit", .str "rims"]], .list [.tuple [.str "sewing", .str "sewing"], .tuple [.str "misfit", .str "rims"]],
      .lst (SqL.of (ff _ _ gh)) (.cons (.tup (SqT.of (ff _ _ gt1p)) (.cons (.str _) (.cons (.str _) .nil))) (.cons (.tup (SqT.of (ff _ _ gt2p)) (.cons (.str _) (.cons (.str _) .nil))) .nil)),
      .lst (SqL.of upd_same) (.cons (.tup (SqT.of (f3 _ _ (f2 _ _ upd_same))) (.cons (.str _) (.cons (.str _) .nil))) (.cons (.tup (SqT.of (f3 _ _ upd_same)) (.cons (.str _) (.cons (.str _) .nil))) .nil)), by decide +kernel, by decide +kernel, ?_⟩
    rw [SeqAt.eqv_refl _ (by decide +kernel)]
    exact k _
end
end W33
set_option Elab.async false
set_option linter.all false
set_option maxRecDepth 100000
set_option maxHeartbeats 1000000
/-! the law's own call: no repr is under way, and lambdas' tables stand empty. -/
namespace RG
open PySem L2 PySem.Spec PyProof.Rows
section
variable {P : Program} {w : World} {K : PySem.W.Frag} {s : Shared} {a : Addr} {vs : List Value} {ns : List Int} {cs : List (Addr × Addr)}
def tblO : Obj := { cls := .none, data := .fields #[] }
/-- the script and the tables -/
def startT (K : PySem.W.Frag) (cs : List (Addr × Addr)) (a : Addr) (vs : List Value) (ns : List Int) : Hp := fun b => if b ∈ cs.map (·.2) then some (.tbl #[]) else startH K a vs ns b
structure Tbls (K : PySem.W.Frag) (h : Heap) (cs : List (Addr × Addr)) : Prop where
  at_ : ∀ p ∈ cs, h.get? p.2 = some tblO
  out : ∀ p ∈ cs, K.lookup p.2 = none
  hd : ∀ p ∈ cs, PySem.W.CodeHd h p.1 p.2
theorem startT_in {b : Addr} (h : b ∈ cs.map (·.2)) : startT K cs a vs ns b = some (.tbl #[]) := if_pos h
theorem startT_out {b : Addr} (h : b ∉ cs.map (·.2)) : startT K cs a vs ns b = startH K a vs ns b := if_neg h
theorem Tbls.mem {h : Heap} (T : Tbls K h cs) {b : Addr} (hb : b ∈ cs.map (·.2)) : h.get? b = some tblO ∧ K.lookup b = none := by
  obtain ⟨p, hp, rfl⟩ := List.mem_map.mp hb
  exact ⟨T.at_ p hp, T.out p hp⟩
/-- what is neither a list nor a table is not told of -/
theorem startT_no (T : Tbls K s.heap cs) (at_ : s.heap.get? a = some (scriptO vs)) {b : Addr} {o : Obj} (e : s.heap.get? b = some o) (n1 : ∀ xs n, o.data ≠ .seq xs n) (n2 : o.data ≠ .fields #[]) : startT K cs a vs ns b = none := by
  by_cases hb : b ∈ cs.map (·.2)
  · have := (T.mem hb).1
    rw [e] at this
    cases this
    exact absurd rfl n2
  · rw [startT_out hb]
    cases q : startH K a vs ns b with
    | none => rfl
    | some u =>
      obtain ⟨rfl, _⟩ := startH_some q
      rw [at_] at e
      cases e
      exact absurd rfl (n1 _ _)
theorem startT_ns (T : Tbls K s.heap cs) (at_ : s.heap.get? a = some (scriptO vs)) {b : Addr} {m : Str → Option Value} (h : s.heap.Ns b m) : (hidT s.heap (startT K cs a vs ns)).Ns b m := by
  obtain ⟨o, es, ep, get, data, rest⟩ := h
  exact ⟨o, es, ep, hidT_get get (startT_no T at_ get (fun xs n z => by rw [data] at z; cases z) fun z => by rw [data] at z; cases z), data, rest⟩
theorem startT_kin (T : Tbls K s.heap cs) (KX : K.In s.heap) : K.In (hidT s.heap (startT K cs a vs ns)) := fun b o e => by
  refine hidT_get (KX b o e) ?_
  have hb : b ∉ cs.map (·.2) := fun z => by
    rw [(T.mem z).2] at e
    cases e
  rw [startT_out hb]
  cases q : startH K a vs ns b with
  | none => rfl
  | some u =>
    obtain ⟨rfl, none_, _⟩ := startH_some q
    rw [none_] at e
    cases e
theorem startT_ok (T : Tbls K s.heap cs) (at_ : s.heap.get? a = some (scriptO vs)) (whole : IntsAre vs ns) (few : ns.length ≤ sizeLine) : HOk P w (startT K cs a vs ns) s.heap := fun b u h => by
  by_cases hb : b ∈ cs.map (·.2)
  · rw [startT_in hb] at h
    cases h
    exact (T.mem hb).1
  · rw [startT_out hb] at h
    obtain ⟨rfl, _, rfl⟩ := startH_some h
    exact ⟨at_, (by rw [List.length_map]; exact few), vs, _, vals_ints whole, at_⟩
theorem startT_seq (T : Tbls K s.heap cs) (KX : K.In s.heap) (at_ : s.heap.get? a = some (scriptO vs)) (whole : IntsAre vs ns) (few : ns.length ≤ sizeLine) : SqL K (startT K cs a vs ns) a (ns.map V.int) := by
  have ha : a ∉ cs.map (·.2) := fun z => by
    have := (T.mem z).1
    rw [at_] at this
    have z' : Data.seq vs.toArray _ = Data.fields #[] := congrArg Obj.data (Option.some.inj this)
    cases z'
  rcases startH_seq KX at_ whole few with h | h
  · refine .inl ?_
    rcases h with h | ⟨o, h⟩
    · exact .inl ((startT_out ha).trans h)
    · exact .inr ⟨o, (startT_out ha).trans h⟩
  · exact .inr h
theorem startT_tab (T : Tbls K s.heap cs) (at_ : s.heap.get? a = some (scriptO vs)) {mg : Str → Option Value} (top : s.heap.Ns mainGlobals mg)
    (hbm : ∃ (bm : Addr) (ob : Obj), mg "__builtins__" = some (.ref bm) ∧ bm ≠ builtinsNs ∧ s.heap.get? bm = some ob ∧ ob.cls = .type "module" ∧ ob.dict = some builtinsNs ∧ ob.data = .plain) : ∀ p ∈ cs, LamX.TabB (hidT s.heap (startT K cs a vs ns)) mg p.1 p.2 := fun p hp => by
  have tp := T.at_ p hp
  obtain ⟨go, ges, gep, gget, gdata, _⟩ := top
  obtain ⟨bm, ob, b1, b2, b3, b4, b5, b6⟩ := hbm
  constructor
  · obtain ⟨o, us, file, tf, flags, tg, inF, text, tt, e1, r1, r2, r3, rest⟩ := T.hd p hp
    refine ⟨o, us, file, tf, flags, tg, inF, text, tt, hidT_get e1 (startT_no T at_ e1 (fun xs n z => by rw [r2] at z; cases z) fun z => ?_), r1, r2, r3, rest⟩
    rw [r2] at z
    cases z
    simp at r3
  · refine ⟨bm, ob, b1, b2, fun q => ?_, fun q => ?_, hidT_get b3 (startT_no T at_ b3 (fun xs n z => by rw [b6] at z; cases z) fun z => by rw [b6] at z; cases z), b4, b5, b6⟩
    · rw [q, gget] at b3
      cases b3
      rw [gdata] at b6
      cases b6
    · rw [q, tp] at b3
      cases b3
      cases b6
  · intro z
    rw [z, tp] at gget
    cases gget
    cases gdata
theorem law_callGT {mg mb : Str → Option Value} {k : Nat} {fa : Addr} {fd : FuncData} {x : Str} {sp : Sp} (KX : K.In s.heap) (top : s.heap.Ns mainGlobals mg) (bi : s.heap.Ns builtinsNs mb) (bib : ∀ x : Str, x ≠ "__name__" → mb x = bootBuiltins x) (lim : s.heap.NoLimit) (gens : s.gens = #[])
    (T : Tbls K s.heap cs) (hbm : ∃ (bm : Addr) (ob : Obj), mg "__builtins__" = some (.ref bm) ∧ bm ≠ builtinsNs ∧ s.heap.get? bm = some ob ∧ ob.cls = .type "module" ∧ ob.dict = some builtinsNs ∧ ob.data = .plain)
    (at_ : s.heap.get? a = some (scriptO vs)) (whole : IntsAre vs ns) (few : ns.length ≤ sizeLine) (room : Room k callerA) (F : ∀ base : Heap, K.In base → base.Ns mainGlobals mg → (∀ p ∈ cs, LamX.TabB base mg p.1 p.2) → FnG P w K mg base k fa fd [x] sp)
    (bind : ∀ (s : Shared) (u : Value), BindsTo s fd ⟨[u], []⟩ [(x, u)]) (ask : ∀ H : Hp, (∀ p ∈ cs, H p.2 = some (.tbl #[])) → SqL K H a (ns.map V.int) → sp [.ref a] H (fun v _ => v = .bl true) E0) :
    codeAny (model P w) callerA (.call (.ref fa) ⟨[.ref a], []⟩) (fun r s' => r = .ok (.ret (.bool true)) ∧ OldK s.heap s'.heap ∧ s'.os = s.os ∧ AllBare s'.gens) s := by
  have kin := startT_kin (a := a) (vs := vs) (ns := ns) T KX
  have top' := startT_ns (ns := ns) T at_ top
  obtain ⟨mc, l1, l2⟩ := lim
  have env : Env0 P w K mg (hidT s.heap (startT K cs a vs ns)) callerA [] s (startT K cs a vs ns) :=
    { frames := rfl, mod := ⟨kin, top', ⟨mb, startT_ns T at_ bi, bib⟩, ⟨mc, startT_ns T at_ l1, l2⟩⟩, bs := fun _ _ => of_hidT, bsz := Nat.le_of_eq (hidT_size _ _), funs := trivial, frf := (fun b hb => nomatch (show b ∈ ([] : List Addr) from hb)), hok := startT_ok T at_ whole few, bare := AllBare.of_eq gens }
  refine codeAny_mono ((F _ kin top' (startT_tab T at_ top hbm)).does callerA [] s _ ⟨[.ref a], []⟩ [.ref a] [.ref a] _ _ rfl room env (bind s (.ref a)) (.cons rfl .nil) (ask _ (fun p hp => startT_in (List.mem_map.mpr ⟨p, hp, rfl⟩)) (startT_seq T KX at_ whole few))) ?_
  intro r t z
  match r, z with
  | .ok (.ret u), ⟨v, G, os, bare, un, ok', rel, (q : v = .bl true)⟩ =>
    subst q
    obtain rfl : u = Value.bool true := rel
    -- what is told of at the end stands as it is told
    have stay : ∀ b o, b ∉ cs.map (·.2) → s.heap.get? b = some o → t.heap.get? b = some o := fun b o hb get => by
      cases c : startT K cs a vs ns b with
      | none => exact un.keep b o get c (fun m => nomatch (show b ∈ ([] : List Addr) from m)) (fun m => nomatch m)
      | some u =>
        have c2 := (startT_out hb).symm.trans c
        obtain ⟨rfl, _, rfl⟩ := startH_some c2
        have eo : o = scriptO vs := Option.some.inj (get.symm.trans at_)
        rw [eo]
        exact (ok' b _ (un.frzs b _ _ c)).1
    have more : ∀ p ∈ cs, ∃ es : Array Value, t.heap.get? p.2 = some { cls := .none, data := .fields es } := fun p hp => by
      obtain ⟨es, z⟩ := un.tbls p.2 #[] (startT_in (List.mem_map.mpr ⟨p, hp, rfl⟩))
      exact ⟨_, ok' p.2 _ z⟩
    refine ⟨rfl, ⟨fun b o get => ?_, fun b o get => ?_⟩, os, bare⟩
    · by_cases hb : b ∈ cs.map (·.2)
      · obtain ⟨p, hp, rfl⟩ := List.mem_map.mp hb
        obtain ⟨es, he⟩ := more p hp
        have e2 := T.at_ p hp
        rw [get] at e2
        cases e2
        exact .inr (.inl ⟨((T.hd p hp).tab get).isCodeTable, rfl, #[], es, rfl, by rw [Array.empty_append]; exact he⟩)
      · exact .inl (stay b o hb get)
    · by_cases hb : b ∈ cs.map (·.2)
      · obtain ⟨p, hp, rfl⟩ := List.mem_map.mp hb
        obtain ⟨es, he⟩ := more p hp
        exact ⟨_, he⟩
      · exact ⟨o, stay b o hb get⟩
end
/-- what is known of the law at the head's heap h -/
def LawAtG (l : PySem.W.OpenLaw) (w : World) (K : PySem.W.Frag) (k n : Nat) (x : Str) (mg : Str → Option Value) (fa : Addr) (h : Heap) : Prop :=
  ∃ (fd : FuncData) (cs : List (Addr × Addr)) (sp : Sp), Tbls K h cs ∧ (∀ (s : Shared) (u : Value), BindsTo s fd ⟨[u], []⟩ [(x, u)]) ∧
    (∀ (H : Hp) (a : Addr) (ns : List Int), ns.length ≤ n → (∀ p ∈ cs, H p.2 = some (.tbl #[])) → SqL K H a (ns.map V.int) → sp [.ref a] H (fun v _ => v = .bl true) E0) ∧
    ∀ base : Heap, K.In base → base.Ns mainGlobals mg → (∀ p ∈ cs, LamX.TabB base mg p.1 p.2) → FnG l.prog w K mg base k fa fd [x] sp
theorem walkGT {l : PySem.W.OpenLaw} {n k : Nat} {q : Program} {loose : List Str} {XP : (Str → Option Value) → Heap → Prop} {YP : World → Heap → Prop} {d : DefRec} {K : Params → PySem.W.Frag} {x : Str} (hn : l.most = some n) (hz : n ≤ sizeLine) (hdf : d.params.defaults = []) (room : Room k callerA)
    (hY : ∀ (w : World) (h : Heap), YP w h → (K w.params).In h)
    (F : ∀ (w : World) (mg : Str → Option Value) (fa : Addr) (h : Heap), YP w h → (K w.params).In h → h.Ns mainGlobals mg → mg d.name = some (.ref fa) → LawAtG l w (K w.params) k n x mg fa h) : PySem.W.WalkO q loose XP YP l.row.toRowW d [] (fun f vs => PySem.call f vs) := by
  refine Att.attach_callB hn hdf fun w s0 s mg mb fa o pm cd doc a vs ns G Y _ _ _ hm at_ whole few _ gens => ?_
  obtain ⟨fd, cs, sp, T, bind, ask, B⟩ := F w mg fa _ Y (hY w _ Y) G.T.g hm
  exact law_callGT (hY w _ Y) G.T.g G.T.b G.T.builtins G.T.nolimit gens T G.T.bmain at_ whole (Nat.le_trans few hz) room B bind fun H hH hS => ask H a ns few hH hS
end RG
set_option Elab.async false
set_option linter.all false
set_option maxRecDepth 100000
set_option maxHeartbeats 1000000
namespace W33
open PySem L2 PySem.Spec PyProof.Rows WR WB WE WS
/-! ### what the top has written -/
structure FF (K : PySem.W.Frag) (mg : Str → Option Value) (x : Str) (st : Stmt) : Prop where
  ex : ∃ (f : Addr) (oc : Value) (od : Option Addr) (kV doc pm cdv ct : Value) (an : Option Addr) (osl : Array (Option Value)),
    K.lookup f = some ⟨oc, od, .func (PySem.W.fnOf x x (defArgs st) (defBody st) (defScope st) .none kV doc pm an cdv ct), osl⟩ ∧ PySem.W.codeIn K cdv x = true ∧ PySem.W.keepIn K (.ref f) = true ∧ mg x = some (.ref f)
theorem ff_mk {K : PySem.W.Frag} {mg : Str → Option Value} {h : Heap} {x : Str} {st : Stmt} {f : Addr} {oc : Value} {od an : Option Addr} {kV doc pm cdv ct : Value} {osl : Array (Option Value)} (X : K.In h) (G : h.Ns mainGlobals mg)
    (a : PySem.W.nsIn K mainGlobals x = some (some (.ref f))) (l : K.lookup f = some ⟨oc, od, .func (PySem.W.fnOf x x (defArgs st) (defBody st) (defScope st) .none kV doc pm an cdv ct), osl⟩) (c : PySem.W.codeIn K cdv x = true) (k : PySem.W.keepIn K (.ref f) = true) : FF K mg x st :=
  ⟨f, oc, od, kV, doc, pm, cdv, ct, an, osl, l, c, k, PySem.W.mg_of X G a⟩
/-- a def in the class's body, held by the class -/
structure FM (K : PySem.W.Frag) (C : Addr) (m q : Str) (st : Stmt) : Prop where
  ex : ∃ (f : Addr) (oc : Value) (od : Option Addr) (kV doc pm cdv ct : Value) (an : Option Addr) (osl : Array (Option Value)),
    PySem.W.findIn K (.ref C) m = some (some (.ref f)) ∧ PySem.W.isFn K (.ref f) = true ∧
    K.lookup f = some ⟨oc, od, .func (PySem.W.fnOf m q (defArgs st) (defBody st) (defScope st) .none kV doc pm an cdv ct), osl⟩ ∧ PySem.W.codeIn K cdv q = true ∧ PySem.W.keepIn K (.ref f) = true
theorem fm_mk {K : PySem.W.Frag} {C : Addr} {m q : Str} {st : Stmt} {f : Addr} {oc : Value} {od an : Option Addr} {kV doc pm cdv ct : Value} {osl : Array (Option Value)}
    (a : PySem.W.findIn K (.ref C) m = some (some (.ref f))) (i : PySem.W.isFn K (.ref f) = true) (l : K.lookup f = some ⟨oc, od, .func (PySem.W.fnOf m q (defArgs st) (defBody st) (defScope st) .none kV doc pm an cdv ct), osl⟩) (c : PySem.W.codeIn K cdv q = true) (k : PySem.W.keepIn K (.ref f) = true) : FM K C m q st :=
  ⟨f, oc, od, kV, doc, pm, cdv, ct, an, osl, a, i, l, c, k⟩
section
variable {P : Program} {w : World} {K : PySem.W.Frag} {mg : Str → Option Value} {base : Heap} {x m q : Str} {C : Addr} {st : Stmt} {k : Nat} {ps ks : List Str} {sp : Sp}
theorem FF.cal (F : FF K mg x st) (ok : ∀ f fd, Fun K x x st f fd → FnOk P w K mg base CX0 k f fd ps sp)
    (hb : ∀ (kV doc pm : Value) (an : Option Addr) (cdv ct : Value) (us : List Value), us.length = ps.length → bindArgs (PySem.W.fnOf x x (defArgs st) (defBody st) (defScope st) .none kV doc pm an cdv ct) ⟨us, []⟩ = pure (ps.zip us)) : Cal P w K mg base x k ps sp := by
  obtain ⟨f, oc, od, kV, doc, pm, cdv, ct, an, osl, l, c, kp, m⟩ := F.ex
  exact ⟨f, _, ok f _ (fun_mk l c kp), m, kp, (fun_mk l c kp).binds hb⟩
/-- a class's __init__ -/
theorem FM.made (F : FM K C m q st) (hm : m = "__init__") (mks : PySem.W.makesIn K C = true) (kc : PySem.W.keepIn K (.ref C) = true) (ok : ∀ f fd, Fun K m q st f fd → FnOk P w K mg base CX0 k f fd ps sp)
    (hb : ∀ (kV doc pm : Value) (an : Option Addr) (cdv ct : Value) (us : List Value), us.length = ps.length → bindArgs (PySem.W.fnOf m q (defArgs st) (defBody st) (defScope st) .none kV doc pm an cdv ct) ⟨us, []⟩ = pure (ps.zip us)) : ∃ (f : Addr) (fd : FuncData), Mk K C f ∧ FnOk P w K mg base CX0 k f fd ps sp ∧ Binds K fd ps [] := by
  subst hm
  obtain ⟨f, oc, od, kV, doc, pm, cdv, ct, an, osl, a, i, l, c, kp⟩ := F.ex
  exact ⟨f, _, ⟨mks, a, i, kc⟩, ok f _ (fun_mk l c kp), (fun_mk l c kp).binds hb⟩
theorem FF.calX (F : FF K mg x st) (ok : ∀ f fd, Fun K x x st f fd → FnOk P w K mg base (L2.CX P w) k f fd ps sp)
    (hb : ∀ (kV doc pm : Value) (an : Option Addr) (cdv ct : Value) (us : List Value), us.length = ps.length → bindArgs (PySem.W.fnOf x x (defArgs st) (defBody st) (defScope st) .none kV doc pm an cdv ct) ⟨us, []⟩ = pure (ps.zip us)) : CalX P w K mg base x k ps sp := by
  obtain ⟨f, oc, od, kV, doc, pm, cdv, ct, an, osl, l, c, kp, m⟩ := F.ex
  exact ⟨f, _, ok f _ (fun_mk l c kp), m, kp, (fun_mk l c kp).binds hb⟩
theorem FF.calKX (F : FF K mg x st) (g : List Value → List Value) (gV : List V → List V) (ok : ∀ f fd, Fun K x x st f fd → FnOk P w K mg base (L2.CX P w) k f fd ps sp)
    (hb : ∀ (kV doc pm : Value) (an : Option Addr) (cdv ct : Value) (ws : List Value), ws.length = ks.length → bindArgs (PySem.W.fnOf x x (defArgs st) (defBody st) (defScope st) .none kV doc pm an cdv ct) ⟨[], ks.zip ws⟩ = pure (ps.zip (g ws)))
    (hr : ∀ {zs : List V} {ws : List Value}, Vals zs ws → Vals (gV zs) (g ws)) : CalKX P w K mg base x k ps ks gV sp := by
  obtain ⟨f, oc, od, kV, doc, pm, cdv, ct, an, osl, l, c, kp, m⟩ := F.ex
  refine ⟨f, _, g, ok f _ (fun_mk l c kp), m, kp, ⟨fun s us ws _ h0 h1 => ?_, fun _ r => hr r⟩⟩
  obtain rfl : us = [] := List.length_eq_zero_iff.mp h0
  exact .of_eq (hb kV doc pm an cdv ct ws h1)
end
/-- what is to be known of an error's class -/
structure ErrW (K : PySem.W.Frag) (mg : Str → Option Value) (C : Addr) (x q : Str) (st : Stmt) : Prop where
  oex : OexC K C
  xf : XfC K C
  ini : FM K C "__init__" q st
  ty : ∀ f : Addr, PySem.W.findIn K (.ref C) "__init__" = some (some (.ref f)) → PySem.W.typeIn K (.ref f) = some (.type "function")
  g : mg x = some (.ref C)
  te : PySem.W.exmOne K (.ref C) (.ref C) = some true
structure Names (mg : Str → Option Value) : Prop where
  isinstance : mg "isinstance" = none
  int : mg "int" = none
  bool : mg "bool" = none
  str : mg "str" = none
  list : mg "list" = none
  tuple : mg "tuple" = none
  all : mg "all" = none
  len : mg "len" = none
  abs : mg "abs" = none
  range : mg "range" = none
  sorted : mg "sorted" = none
  set : mg "set" = none
  enumerate : mg "enumerate" = none
  max : mg "max" = none
  min : mg "min" = none
  zip : mg "zip" = none
  repr : mg "repr" = none
  sum : mg "sum" = none
  kind : ∃ t, mg "MOST_KIND" = some (.int 26 t)
  most : ∃ t, mg "MOST_LETTERS" = some (.int 500 t)
  words : ∃ t, mg "MOST_WORDS" = some (.int 4 t)
  places : ∃ t, mg "MOST_PLACES" = some (.int 24 t)
  pairs : ∃ t, mg "MOST_PAIRS" = some (.int 12 t)
structure Defs (K : PySem.W.Frag) (mg : Str → Option Value) (C CR CS : Addr) : Prop where
  d_sIsInt : FF K mg "is_integer" sIsInt
  d_sWithin : FF K mg "is_within" sWithin
  d_sLetter : FF K mg "is_letter" sLetter
  d_sListed : FF K mg "is_listed" sListed
  d_sAreI : FF K mg "are_integers" sAreI
  d_sCon : FF K mg "contrary_letters" sCon
  d_sShr : FF K mg "shortened_letters" sShr
  d_sRnd : FF K mg "rounded_letters" sRnd
  d_sKinds : FF K mg "kinds_of" sKinds
  d_sBalOf : FF K mg "balance_of" sBalOf
  d_sPaired : FF K mg "are_paired" sPaired
  d_sJoined : FF K mg "joined" sJoined
  d_sFilled : FF K mg "is_filled" sFilled
  d_sFew : FF K mg "need_few_letters" sFew
  d_sNeedB : FF K mg "need_balanced" sNeedB
  d_sNeedR : FF K mg "need_rims" sNeedR
  d_sFewP : FF K mg "need_few_places" sFewP
  d_sNexts : FF K mg "nexts_of" sNexts
  d_sAreM : FF K mg "are_mates" sAreM
  d_sCorn : FF K mg "corners_of" sCorn
  d_sPieces : FF K mg "pieces_of" sPieces
  d_sNeedS : FF K mg "need_sewing" sNeedS
  d_sNeedPX : FF K mg "need_place" sNeedPX
  d_sMam : FF K mg "mates_among" sMam
  d_sRF : FF K mg "rims_from" sRF
  d_sWO : FF K mg "without_pair" sWO
  d_sNRS : FF K mg "need_ring_sewing" sNRS
  d_sPTT : FF K mg "place_to_tighten" sPTT
  d_sTgt : FF K mg "tightened" sTgt
  d_sIWP : FF K mg "is_word_pair" sIWP
  d_sAWP : FF K mg "are_word_pairs" sAWP
  d_sNWP : FF K mg "need_word_pairs" sNWP
  d_sWOE : FF K mg "words_of_exchanges" sWOE
  d_sMOE : FF K mg "mates_of_exchanges" sMOE
  d_sSO : FF K mg "sewing_of" sSO
  d_sJar : FF K mg "_law_pen" sJar
  d_sDraw : FF K mg "_law_draw" sDraw
  d_sPick : FF K mg "_law_pick" sPick
  d_sShL : FF K mg "_law_short" sShL
  d_sWordL : FF K mg "_law_word" sWordL
  d_sPairsL : FF K mg "_law_pairs" sPairsL
  d_sMade : FF K mg "_law_made" sMade
  d_sRdL : FF K mg "_law_round" sRdL
  d_sCo : FF K mg "_law_corners" sCo
  d_sSw : FF K mg "_law_sewn" sSw
  d_sSwL : FF K mg "_law_sewing" sSwL
  d_sLeft : FF K mg "_law_left" sLeft
  d_sTR : FF K mg "_law_told_right" sTR
  d_sHeard : FF K mg "_law_heard" sHeard
  m_sInit : FM K C "__init__" "Word.__init__" sInit
  m_sEq : FM K C "__eq__" "Word.__eq__" sEq
  m_sContrary : FM K C "contrary" "Word.contrary" sContrary
  m_sRound : FM K C "shortened_round" "Word.shortened_round" sRound
  m_sInitR : FM K CR "__init__" "Rims.__init__" sInitR
  m_sEqR : FM K CR "__eq__" "Rims.__eq__" sEqR
  m_sInitS : FM K CS "__init__" "Sewing.__init__" sInitS
  m_sEqSx : FM K CS "__eq__" "Sewing.__eq__" sEqSx
structure ClsC (K : PySem.W.Frag) (mg : Str → Option Value) (C : Addr) : Prop where
  cl : Cls K C
  n1 : NoAttr K C "letters"
  n2 : NoAttr K C "length"
  n3 : NoAttr K C "kinds"
  n4 : NoAttr K C "is_short"
  n5 : NoAttr K C "is_short_round"
  ca : PySem.W.findIn K (.ref C) "__class__" = some (some (.builtin "object.__class__"))
  cm : PySem.W.mroIn K C (.type "object") = some true
  mks : PySem.W.makesIn K C = true
  kc : PySem.W.keepIn K (.ref C) = true
  mgC : mg "Word" = some (.ref C)
  cn : PySem.W.specialIn K (.builtin "object.__class__") "__get__" = some (some (.builtin "getset_descriptor.__get__"))
  ct : PySem.W.takesIn K (.builtin "object.__class__") = some true
structure ClsCR (K : PySem.W.Frag) (mg : Str → Option Value) (C : Addr) : Prop where
  cl : Cls K C
  n1 : NoAttr K C "words"
  n2 : NoAttr K C "letters"
  n3 : NoAttr K C "many"
  n4 : NoAttr K C "bands"
  n5 : NoAttr K C "is_short"
  n6 : NoAttr K C "homes"
  n7 : NoAttr K C "nexts"
  ca : PySem.W.findIn K (.ref C) "__class__" = some (some (.builtin "object.__class__"))
  cm : PySem.W.mroIn K C (.type "object") = some true
  mks : PySem.W.makesIn K C = true
  kc : PySem.W.keepIn K (.ref C) = true
  mgC : mg "Rims" = some (.ref C)
structure ClsCS (K : PySem.W.Frag) (mg : Str → Option Value) (C : Addr) : Prop where
  cl : Cls K C
  n1 : NoAttr K C "rims"
  n2 : NoAttr K C "mates"
  n3 : NoAttr K C "corners"
  n4 : NoAttr K C "cost"
  n5 : NoAttr K C "pieces"
  n6 : NoAttr K C "handles"
  ca : PySem.W.findIn K (.ref C) "__class__" = some (some (.builtin "object.__class__"))
  cm : PySem.W.mroIn K C (.type "object") = some true
  mks : PySem.W.makesIn K C = true
  kc : PySem.W.keepIn K (.ref C) = true
  mgC : mg "Sewing" = some (.ref C)
/-- the facts of an error's class -/
structure ErrF (K : PySem.W.Frag) (C : Addr) : Prop where
  oex : OexC K C
  xf : XfC K C
  sub : PySem.W.subIn K (.ref C) (.type "BaseException") = some true
  icl : PySem.W.isClsIn K C = true
  tyC : PySem.W.typeIn K (.ref C) = some (.type "type")
/-- and of what is asked of it -/
structure ErrX (K : PySem.W.Frag) (mg : Str → Option Value) (CH C : Addr) (x q : Str) (st : Stmt) (fl : Str) : Prop where
  w : ErrW K mg C x q st
  f : ErrF K C
  fl : PySem.W.findIn K (.ref C) fl = some none
  nt : PySem.W.kitOne K (.type "NoneType") (.ref C) = some false
  cc : PySem.W.findIn K (.ref C) "__class__" = some (some (.builtin "object.__class__"))
  mo : PySem.W.mroIn K C (.type "object") = some true
  sb : PySem.W.subIn K (.ref C) (.ref CH) = some true
theorem exm_two {K : PySem.W.Frag} {S U : Addr} {b : Bool} (g1 : PySem.W.subIn K (.ref U) (.type "BaseException") = some true) (g2 : PySem.W.isClsIn K U = true) (g3 : PySem.W.typeIn K (.ref U) = some (.type "type")) (h4 : PySem.W.subIn K (.ref S) (.ref U) = some b) :
    PySem.W.exmOne K (.ref S) (.ref U) = some b := by
  have e1 : (PySem.W.subIn K (.ref U) (.type "BaseException") == some true) = true := by rw [g1] <;> rfl
  have e2 : ((PySem.W.clsIn K U).isSome && PySem.W.typeIn K (.ref U) == some (.type "type")) = true := by
    have h2' : (PySem.W.clsIn K U).isSome = true := g2
    rw [h2', g3] <;> rfl
  show (if (PySem.W.subIn K (.ref U) (.type "BaseException") == some true) = true then (if ((PySem.W.clsIn K U).isSome && PySem.W.typeIn K (.ref U) == some (.type "type")) = true then PySem.W.subIn K (.ref S) (.ref U) else none) else none) = some b
  rw [if_pos e1, if_pos e2]
  exact h4
/-- Missing's own __init__ -/
structure MissF (K : PySem.W.Frag) (mg : Str → Option Value) (CM g : Addr) (mc : Value) : Prop where
  at_ : mg "Missing" = some (.ref CM)
  c : CF.CFn K CM mc "__init__" g
  ex : ∃ (oc : Value) (od : Option Addr) (kV doc pm cdv ct : Value) (an : Option Addr) (osl : Array (Option Value)), K.lookup g = some ⟨oc, od, .func (PySem.W.fnOf "__init__" "Missing.__init__" (defArgs sInitMi) (defBody sInitMi) (defScope sInitMi) .none kV doc pm an cdv ct), osl⟩ ∧ PySem.W.codeIn K cdv "Missing.__init__" = true
theorem ls1 {us : List Value} (h : us.length = 1) : ∃ a, us = [a] := match us, h with | [a], _ => ⟨a, rfl⟩
theorem ls2 {us : List Value} (h : us.length = 2) : ∃ a b, us = [a, b] := match us, h with | [a, b], _ => ⟨a, b, rfl⟩
theorem ls3 {us : List Value} (h : us.length = 3) : ∃ a b c, us = [a, b, c] := match us, h with | [a, b, c], _ => ⟨a, b, c, rfl⟩
theorem ls4 {us : List Value} (h : us.length = 4) : ∃ a b c d, us = [a, b, c, d] := match us, h with | [a, b, c, d], _ => ⟨a, b, c, d, rfl⟩
theorem law_mk {P : Program} {w : World} {K : PySem.W.Frag} {mg : Str → Option Value} {base : Heap} {C CR CS CBS CMF CTM CNP CH CM gM fL cL P1 : Addr} {mcM : Value} {fdL : FuncData} (N : Names mg) (D : Defs K mg C CR CS) (WC : ClsC K mg C) (WCR : ClsCR K mg CR) (WCS : ClsCS K mg CS) (X1 : XO K C CR CS)
    (neW : PySem.W.findIn K (.ref C) "__ne__" = some (some (.builtin "object.__ne__"))) (neS : PySem.W.findIn K (.ref CS) "__ne__" = some (some (.builtin "object.__ne__")))
    (EBS : ErrX K mg CH CBS "BadSewing" "BadSewing.__init__" sInitBS "part") (EMF : ErrX K mg CH CMF "Misfit" "Misfit.__init__" sInitMF "part") (ENP : ErrX K mg CH CNP "NoPlace" "NoPlace.__init__" sInitNP "value") (ETM : ErrX K mg CH CTM "TooMany" "TooMany.__init__" sInitTM "what") (mst : PySem.W.findIn K (.ref CTM) "most" = some none)
    (MI : MissF K mg CM gM mcM) (Z : Two K mg CBS CMF)
    (FL : FunC K "law" sLaw fL cL fdL) (TB : LamX.TabB base mg cL P1) : RG.FnG P w K mg base 14 fL fdL ["_law_script"] (spLaw K [(P1, qLaw)]) := by
  have tA : TxA mg := ⟨N.tuple, N.len⟩
  have tB : TxB mg := ⟨N.sorted, N.abs⟩
  have tC : TxC mg := ⟨N.kind, N.all⟩
  have tI : TxI mg := ⟨N.isinstance, N.int, N.bool, N.str, N.list, N.tuple⟩
  have tL : TxL mg := ⟨N.int, N.len, N.abs⟩
  have tR : TxR mg := ⟨N.words, N.places, N.range, N.enumerate⟩
  have tW : TxW K mg C := ⟨WC.cl, WC.n1, WC.n2, WC.n3, WC.n4, WC.n5, WC.ca, WC.cn, WC.ct, WC.cm, WC.mgC, N.most, N.isinstance, N.all⟩
  have tRC : TxRC K mg CR := ⟨WCR.cl, WCR.n1, WCR.n2, WCR.n3, WCR.n4, WCR.n5, WCR.n6, WCR.n7, WCR.mgC, WCR.ca, WCR.cm⟩
  have tSC : TxSC K mg CS := ⟨WCS.cl, WCS.n1, WCS.n2, WCS.n3, WCS.n4, WCS.n5, WCS.n6, WCS.mgC, WCS.ca, WCS.cm⟩
  have cInt : Cal P w K mg base "is_integer" 1 ["value"] spIsInt := D.d_sIsInt.cal (fun f fd F => ok_isInt F tI) (fun _ _ _ _ _ _ us hl => by obtain ⟨_, rfl⟩ := ls1 hl; rfl)
  have cWithin : Cal P w K mg base "is_within" 2 ["value", "least", "most"] spWithin := D.d_sWithin.cal (fun f fd F => ok_within F cInt) (fun _ _ _ _ _ _ us hl => by obtain ⟨_, _, _, rfl⟩ := ls3 hl; rfl)
  have cLetter : Cal P w K mg base "is_letter" 3 ["value"] spLetter := D.d_sLetter.cal (fun f fd F => ok_letter F cWithin tC) (fun _ _ _ _ _ _ us hl => by obtain ⟨_, rfl⟩ := ls1 hl; rfl)
  have cListE : Cal P w K mg base "is_listed" 1 ["value"] (spListE K) := D.d_sListed.cal (fun f fd F => ok_listE F tI) (fun _ _ _ _ _ _ us hl => by obtain ⟨_, rfl⟩ := ls1 hl; rfl)
  have cFew : Cal P w K mg base "need_few_letters" 1 ["many"] spFew := D.d_sFew.cal (fun f fd F => ok_few F tW) (fun _ _ _ _ _ _ us hl => by obtain ⟨_, rfl⟩ := ls1 hl; rfl)
  have cKinds : Cal P w K mg base "kinds_of" 1 ["letters"] (spKinds K) := D.d_sKinds.cal (fun f fd F => ok_kinds F tA tB) (fun _ _ _ _ _ _ us hl => by obtain ⟨_, rfl⟩ := ls1 hl; rfl)
  have cShr : Cal P w K mg base "shortened_letters" 1 ["letters"] (spShr K) := D.d_sShr.cal (fun f fd F => ok_shr F tA) (fun _ _ _ _ _ _ us hl => by obtain ⟨_, rfl⟩ := ls1 hl; rfl)
  have cRnd : Cal P w K mg base "rounded_letters" 2 ["letters"] (spRnd K) := D.d_sRnd.cal (fun f fd F => ok_rnd F cShr tA) (fun _ _ _ _ _ _ us hl => by obtain ⟨_, rfl⟩ := ls1 hl; rfl)
  have mW : MkW P w K mg base C := ⟨D.m_sInit.made rfl WC.mks WC.kc (fun f fd F => ok_init F tW tA cListE cLetter cFew cKinds cShr cRnd) (fun _ _ _ _ _ _ us hl => by obtain ⟨_, _, rfl⟩ := ls2 hl; rfl)⟩
  have cBal : Cal P w K mg base "balance_of" 2 ["letters"] (spBalOf K) := D.d_sBalOf.cal (fun f fd F => ok_balOf F tA cKinds) (fun _ _ _ _ _ _ us hl => by obtain ⟨_, rfl⟩ := ls1 hl; rfl)
  have cFilled : Cal P w K mg base "is_filled" 1 ["value"] (spFilled K C) := D.d_sFilled.cal (fun f fd F => ok_filled F tW) (fun _ _ _ _ _ _ us hl => by obtain ⟨_, rfl⟩ := ls1 hl; rfl)
  have cFewP : Cal P w K mg base "need_few_places" 1 ["many"] spFewP := D.d_sFewP.cal (fun f fd F => ok_fewP F tR) (fun _ _ _ _ _ _ us hl => by obtain ⟨_, rfl⟩ := ls1 hl; rfl)
  have cNeedB : Cal P w K mg base "need_balanced" 3 ["letters"] (spNeedB K) := D.d_sNeedB.cal (fun f fd F => ok_needB F cBal) (fun _ _ _ _ _ _ us hl => by obtain ⟨_, rfl⟩ := ls1 hl; rfl)
  have cNexts : Cal P w K mg base "nexts_of" 1 ["words"] (spNexts K C) := D.d_sNexts.cal (fun f fd F => ok_nexts F tW tA tR) (fun _ _ _ _ _ _ us hl => by obtain ⟨_, rfl⟩ := ls1 hl; rfl)
  have mR : MkR P w K mg base C CR := ⟨D.m_sInitR.made rfl WCR.mks WCR.kc (fun f fd F => ok_initR F tW tRC tA tR cListE cFilled cFewP cNeedB cNexts) (fun _ _ _ _ _ _ us hl => by obtain ⟨_, _, rfl⟩ := ls2 hl; rfl)⟩
  have cNeedR : Cal P w K mg base "need_rims" 1 ["value", "part"] (spNeedR K C CR) := D.d_sNeedR.cal (fun f fd F => ok_needR F tW tRC) (fun _ _ _ _ _ _ us hl => by obtain ⟨_, _, rfl⟩ := ls2 hl; rfl)
  have cAreI : Cal P w K mg base "are_integers" 2 ["value"] (spAreI K) := D.d_sAreI.cal (fun f fd F => ok_areI F N.all cListE cInt) (fun _ _ _ _ _ _ us hl => by obtain ⟨_, rfl⟩ := ls1 hl; rfl)
  have cPaired : Cal P w K mg base "are_paired" 3 ["value", "many"] (spPaired K) := D.d_sPaired.cal (fun f fd F => ok_paired F tA tR cAreI) (fun _ _ _ _ _ _ us hl => by obtain ⟨_, _, rfl⟩ := ls2 hl; rfl)
  have cAreM : Cal P w K mg base "are_mates" 4 ["letters", "value"] (spAreM K) := D.d_sAreM.cal (fun f fd F => ok_areM F tA tR N.all cPaired) (fun _ _ _ _ _ _ us hl => by obtain ⟨_, _, rfl⟩ := ls2 hl; rfl)
  have cCorn : Cal P w K mg base "corners_of" 1 ["rims", "mates"] (spCorn K C CR) := D.d_sCorn.cal (fun f fd F => ok_corn F tRC tA tR N.set) (fun _ _ _ _ _ _ us hl => by obtain ⟨_, _, rfl⟩ := ls2 hl; rfl)
  have cJoined : Cal P w K mg base "joined" 1 ["many", "pairs"] (spJoined K) := D.d_sJoined.cal (fun f fd F => ok_joined F tA tR N.list N.max N.min) (fun _ _ _ _ _ _ us hl => by obtain ⟨_, _, rfl⟩ := ls2 hl; rfl)
  have cPieces : Cal P w K mg base "pieces_of" 2 ["rims", "mates"] (spPieces K C CR) := D.d_sPieces.cal (fun f fd F => ok_pieces F tRC tA tR cJoined) (fun _ _ _ _ _ _ us hl => by obtain ⟨_, _, rfl⟩ := ls2 hl; rfl)
  have mS : MkS P w K mg base C CR CS := ⟨D.m_sInitS.made rfl WCS.mks WCS.kc (fun f fd F => ok_initS F tRC tSC tA cNeedR cAreM cCorn cPieces) (fun _ _ _ _ _ _ us hl => by obtain ⟨_, _, _, rfl⟩ := ls3 hl; rfl)⟩
  have N_ : TN mg := ⟨N.len, N.range, N.list, N.tuple, N.int, N.abs, N.min, N.sorted, N.set, N.enumerate, N.zip, N.isinstance, N.repr⟩
  have eW : EqW P w K mg base C := by
    obtain ⟨f, oc, od, kV, doc, pm, cdv, ct, an, osl, a, i, l, c, kp⟩ := D.m_sEq.ex
    exact ⟨f, _, ok_eq (fun_mk l c kp) tW, a, i, (fun_mk l c kp).binds (fun _ _ _ _ _ _ us hl => by obtain ⟨_, _, rfl⟩ := ls2 hl; rfl)⟩
  have eR : EqR P w K mg base C CR := by
    obtain ⟨f, oc, od, kV, doc, pm, cdv, ct, an, osl, a, i, l, c, kp⟩ := D.m_sEqR.ex
    exact ⟨f, _, ok_eqR (fun_mk l c kp) tW tRC eW, a, i, (fun_mk l c kp).binds (fun _ _ _ _ _ _ us hl => by obtain ⟨_, _, rfl⟩ := ls2 hl; rfl)⟩
  have eS : OE.Eq P w K mg base CS 4 (SewEq K C CR CS) := by
    obtain ⟨f, oc, od, kV, doc, pm, cdv, ct, an, osl, a, i, l, c, kp⟩ := D.m_sEqSx.ex
    refine ⟨⟨f, _, ok_EqSx (fun_mk l c kp) N_ tW tRC tSC eR, a, i, (fun_mk l c kp).binds (fun _ _ _ _ _ _ us hl => by obtain ⟨_, _, rfl⟩ := ls2 hl; rfl)⟩, fun H p q b h => ?_, neS, WCS.cm⟩
    obtain ⟨_, _, _, _, _, _, _, _, ⟨dx, _, _, _, h1, _⟩, ⟨dy, _, _, _, h2, _⟩, _⟩ := h
    exact ⟨⟨dx, _, h1⟩, dy, _, h2⟩
  have BS : ErrC P w K mg base CBS "BadSewing" ["self", "part"] (spI1 "part" CBS) := by
    obtain ⟨f, oc, od, kV, doc, pm, cdv, ct, an, osl, a, i, l, c, kp⟩ := EBS.w.ini.ex
    exact ⟨EBS.w.oex, ⟨f, _, a, EBS.w.ty f a, (ok_initBS (fun_mk l c kp) EBS.w.oex EBS.fl).mono (by decide), (fun_mk l c kp).binds (fun _ _ _ _ _ _ us hl => by obtain ⟨_, _, rfl⟩ := ls2 hl; rfl)⟩, EBS.w.g, EBS.w.xf, EBS.w.te⟩
  have MF : ErrC P w K mg base CMF "Misfit" ["self", "part"] (spI1 "part" CMF) := by
    obtain ⟨f, oc, od, kV, doc, pm, cdv, ct, an, osl, a, i, l, c, kp⟩ := EMF.w.ini.ex
    exact ⟨EMF.w.oex, ⟨f, _, a, EMF.w.ty f a, (ok_initMF (fun_mk l c kp) EMF.w.oex EMF.fl).mono (by decide), (fun_mk l c kp).binds (fun _ _ _ _ _ _ us hl => by obtain ⟨_, _, rfl⟩ := ls2 hl; rfl)⟩, EMF.w.g, EMF.w.xf, EMF.w.te⟩
  have TM : ErrC P w K mg base CTM "TooMany" ["self", "what", "most"] (spI2 CTM) := by
    obtain ⟨f, oc, od, kV, doc, pm, cdv, ct, an, osl, a, i, l, c, kp⟩ := ETM.w.ini.ex
    exact ⟨ETM.w.oex, ⟨f, _, a, ETM.w.ty f a, (ok_initTM (fun_mk l c kp) ETM.w.oex ETM.fl mst).mono (by decide), (fun_mk l c kp).binds (fun _ _ _ _ _ _ us hl => by obtain ⟨_, _, _, rfl⟩ := ls3 hl; rfl)⟩, ETM.w.g, ETM.w.xf, ETM.w.te⟩
  have NP : ErrC P w K mg base CNP "NoPlace" ["self", "value"] (spI1 "value" CNP) := by
    obtain ⟨f, oc, od, kV, doc, pm, cdv, ct, an, osl, a, i, l, c, kp⟩ := ENP.w.ini.ex
    obtain ⟨oc2, od2, kV2, doc2, pm2, cdv2, ct2, an2, osl2, l2, c2⟩ := MI.ex
    exact ⟨ENP.w.oex, ⟨f, _, a, ENP.w.ty f a, ok_initNP (fun_mk l c kp) MI.at_ MI.c (ok_initMi (fun_mk (st := sInitMi) l2 c2 MI.c.kp) ENP.w.oex ENP.fl) ((fun_mk (st := sInitMi) l2 c2 MI.c.kp).binds (fun _ _ _ _ _ _ us hl => by obtain ⟨_, _, rfl⟩ := ls2 hl; rfl)), (fun_mk l c kp).binds (fun _ _ _ _ _ _ us hl => by obtain ⟨_, _, rfl⟩ := ls2 hl; rfl)⟩, ENP.w.g, ENP.w.xf, ENP.w.te⟩
  have cPen : Cal P w K mg base "_law_pen" 1 ["_law_script"] (spHand K) := D.d_sJar.cal (fun f fd F => ok_hand F tL) (fun _ _ _ _ _ _ us hl => by obtain ⟨_, rfl⟩ := ls1 hl; rfl)
  have cDraw : Cal P w K mg base "_law_draw" 1 ["_law_pen_here", "_law_many"] spTake := D.d_sDraw.cal (fun f fd F => ok_take F tL) (fun _ _ _ _ _ _ us hl => by obtain ⟨_, _, rfl⟩ := ls2 hl; rfl)
  have cPick : Cal P w K mg base "_law_pick" 2 ["_law_pen_here", "_law_some"] spPick := D.d_sPick.cal (fun f fd F => ok_pick F cDraw tL) (fun _ _ _ _ _ _ us hl => by obtain ⟨_, _, rfl⟩ := ls2 hl; rfl)
  have cCon : Cal P w K mg base "contrary_letters" 1 ["letters"] (spCon K) := D.d_sCon.cal (fun f fd F => ok_con F tA) (fun _ _ _ _ _ _ us hl => by obtain ⟨_, rfl⟩ := ls1 hl; rfl)
  have MC : MethW P w K mg base C "contrary" ["self"] (spOne K C Fr.con) := by
    obtain ⟨f, oc, od, kV, doc, pm, cdv, ct, an, osl, a, i, l, c, kp⟩ := D.m_sContrary.ex
    exact ⟨f, _, ⟨a, i, kp⟩, ok_contrary (fun_mk l c kp) tW mW cCon, (fun_mk l c kp).binds (fun _ _ _ _ _ _ us hl => by obtain ⟨_, rfl⟩ := ls1 hl; rfl)⟩
  have MRd : MethW P w K mg base C "shortened_round" ["self"] (spOne K C Fr.rnd) := by
    obtain ⟨f, oc, od, kV, doc, pm, cdv, ct, an, osl, a, i, l, c, kp⟩ := D.m_sRound.ex
    exact ⟨f, _, ⟨a, i, kp⟩, ok_round (fun_mk l c kp) tW mW cRnd, (fun_mk l c kp).binds (fun _ _ _ _ _ _ us hl => by obtain ⟨_, rfl⟩ := ls1 hl; rfl)⟩
  have cNeedS : CalX P w K mg base "need_sewing" 4 ["value", "part"] (spNeedS K C CR CS CBS) := D.d_sNeedS.calX (fun f fd F => ok_NeedS F N_ tW tSC BS) (fun _ _ _ _ _ _ us hl => by obtain ⟨_, _, rfl⟩ := ls2 hl; rfl)
  have cNeedP : CalX P w K mg base "need_place" 4 ["rims", "value"] (spNeedPX K C CR CNP) := D.d_sNeedPX.calX (fun f fd F => ok_NeedPX F N_ tRC NP cWithin) (fun _ _ _ _ _ _ us hl => by obtain ⟨_, _, rfl⟩ := ls2 hl; rfl)
  have cFewPX : CalX P w K mg base "need_few_places" 4 ["many"] (spFewPX CTM) := D.d_sFewP.calX (fun f fd F => ok_fewPX F tR TM) (fun _ _ _ _ _ _ us hl => by obtain ⟨_, rfl⟩ := ls1 hl; rfl)
  have mRX : MkRX P w K mg base C CR CTM := by
    obtain ⟨f, oc, od, kV, doc, pm, cdv, ct, an, osl, a, i, l, c, kp⟩ := D.m_sInitR.ex
    exact ⟨⟨f, _, ⟨WCR.mks, a, i, WCR.kc⟩, fn_or ((ok_initR (fun_mk l c kp) tW tRC tA tR cListE cFilled cFewP cNeedB cNexts).mono (by decide)) (ok_initRX (fun_mk l c kp) tW tRC tA tR cListE cFilled cFewPX cNeedB cNexts), (fun_mk l c kp).binds (fun _ _ _ _ _ _ us hl => by obtain ⟨_, _, rfl⟩ := ls2 hl; rfl)⟩, WCR.mgC⟩
  have cMam : Cal P w K mg base "mates_among" 1 ["mates", "places"] spMam := D.d_sMam.cal (fun f fd F => ok_Mam F N_) (fun _ _ _ _ _ _ us hl => by obtain ⟨_, _, rfl⟩ := ls2 hl; rfl)
  have cRF : CalX P w K mg base "rims_from" 8 ["letters", "homes"] (spRF K C CR CTM) := D.d_sRF.calX (fun f fd F => ok_RF F N_ tW tRC mW mRX) (fun _ _ _ _ _ _ us hl => by obtain ⟨_, _, rfl⟩ := ls2 hl; rfl)
  have cWO : CalX P w K mg base "without_pair" 10 ["sewing", "place"] (spWO K C CR CS CBS CNP CMF) := D.d_sWO.calX (fun f fd F => ok_WO F N_ tW tRC tSC mS MF cNeedS cNeedP cRF cMam) (fun _ _ _ _ _ _ us hl => by obtain ⟨_, _, rfl⟩ := ls2 hl; rfl)
  have cNRS : CalX P w K mg base "need_ring_sewing" 5 ["value", "part"] (spNRS K C CR CS CBS CMF) := D.d_sNRS.calX (fun f fd F => ok_NRS F N_ tW tRC tSC MF cNeedS) (fun _ _ _ _ _ _ us hl => by obtain ⟨_, _, rfl⟩ := ls2 hl; rfl)
  have cPTT : Cal P w K mg base "place_to_tighten" 1 ["rims"] (spPTT K C CR) := D.d_sPTT.cal (fun f fd F => ok_PTT F N_ tW tRC) (fun _ _ _ _ _ _ us hl => by obtain ⟨_, rfl⟩ := ls1 hl; rfl)
  have cTgt : CalX P w K mg base "tightened" 11 ["sewing"] (spTgt K C CR CS CBS CMF) := D.d_sTgt.calX (fun f fd F => ok_Tgt F N_ tW tRC tSC cNRS cPTT cWO) (fun _ _ _ _ _ _ us hl => by obtain ⟨_, rfl⟩ := ls1 hl; rfl)
  have cTgtK : CalKX P w K mg base "tightened" 11 ["sewing"] ["sewing"] (fun zs => zs) (spTgt K C CR CS CBS CMF) := D.d_sTgt.calKX (fun ws => ws) (fun zs => zs) (fun f fd F => ok_Tgt F N_ tW tRC tSC cNRS cPTT cWO) (fun _ _ _ _ _ _ us hl => by obtain ⟨_, rfl⟩ := ls1 hl; rfl) (fun r => r)
  have cIWP : Cal P w K mg base "is_word_pair" 2 ["value"] (spIWP K C) := D.d_sIWP.cal (fun f fd F => ok_IWP F N_ tW cListE) (fun _ _ _ _ _ _ us hl => by obtain ⟨_, rfl⟩ := ls1 hl; rfl)
  have cAWP : Cal P w K mg base "are_word_pairs" 3 ["value"] (spAWP K C) := D.d_sAWP.cal (fun f fd F => ok_AWP F N_ tW N.pairs cListE cIWP) (fun _ _ _ _ _ _ us hl => by obtain ⟨_, rfl⟩ := ls1 hl; rfl)
  have cNWP : Cal P w K mg base "need_word_pairs" 4 ["value", "part"] (spNWP K C) := D.d_sNWP.cal (fun f fd F => ok_NWP F N_ cAWP) (fun _ _ _ _ _ _ us hl => by obtain ⟨_, _, rfl⟩ := ls2 hl; rfl)
  have cWOE : Cal P w K mg base "words_of_exchanges" 7 ["pairs"] (spWOE K C) := D.d_sWOE.cal (fun f fd F => ok_WOE F N_ tW MC) (fun _ _ _ _ _ _ us hl => by obtain ⟨_, rfl⟩ := ls1 hl; rfl)
  have cMOE : Cal P w K mg base "mates_of_exchanges" 1 ["words"] (spMOE K C) := D.d_sMOE.cal (fun f fd F => ok_MOE F N_ tW) (fun _ _ _ _ _ _ us hl => by obtain ⟨_, rfl⟩ := ls1 hl; rfl)
  have cSO : Cal P w K mg base "sewing_of" 8 ["pairs"] (spSO K C CR CS) := D.d_sSO.cal (fun f fd F => ok_SO F N_ tW tRC tSC mW mR mS N.sum cFilled cNWP cFewP cWOE cMOE cFilled) (fun _ _ _ _ _ _ us hl => by obtain ⟨_, rfl⟩ := ls1 hl; rfl)
  have tN : TxN mg := ⟨N.range, N.list⟩
  have cShort : Cal P w K mg base "_law_short" 1 ["_law_word_here"] spShL := D.d_sShL.cal (fun f fd F => ok_shL F) (fun _ _ _ _ _ _ us hl => by obtain ⟨_, rfl⟩ := ls1 hl; rfl)
  have cWordL : Cal P w K mg base "_law_word" 2 ["_law_pen_here", "_law_most", "_law_kinds"] spWordL := D.d_sWordL.cal (fun f fd F => ok_wordL F cDraw tN) (fun _ _ _ _ _ _ us hl => by obtain ⟨_, _, _, rfl⟩ := ls3 hl; rfl)
  have cPairsL : Cal P w K mg base "_law_pairs" 3 ["_law_pen_here", "_law_many", "_law_most", "_law_kinds"] spPairsL := D.d_sPairsL.cal (fun f fd F => ok_pairsL F cWordL tN) (fun _ _ _ _ _ _ us hl => by obtain ⟨_, _, _, _, rfl⟩ := ls4 hl; rfl)
  have cMade : Cal P w K mg base "_law_made" 6 ["_law_pairs_here"] (spMade K C) := D.d_sMade.cal (fun f fd F => ok_made F tW mW) (fun _ _ _ _ _ _ us hl => by obtain ⟨_, rfl⟩ := ls1 hl; rfl)
  have cRound : Cal P w K mg base "_law_round" 2 ["_law_word_here"] spRdL := D.d_sRdL.cal (fun f fd F => ok_RdL F N_ cShort) (fun _ _ _ _ _ _ us hl => by obtain ⟨_, rfl⟩ := ls1 hl; rfl)
  have cSew : Cal P w K mg base "_law_sewing" 7 ["_law_letters", "_law_mates"] (spSwL K C CR CS) := D.d_sSwL.cal (fun f fd F => ok_SwL F N_ tW tRC tSC mW mR mS) (fun _ _ _ _ _ _ us hl => by obtain ⟨_, _, rfl⟩ := ls2 hl; rfl)
  have cLeft : Cal P w K mg base "_law_left" 1 ["_law_letters", "_law_mates"] (spLeft K) := D.d_sLeft.cal (fun f fd F => ok_Left F N_) (fun _ _ _ _ _ _ us hl => by obtain ⟨_, _, rfl⟩ := ls2 hl; rfl)
  have cCo : Cal P w K mg base "_law_corners" 1 ["_law_mates"] spCo := D.d_sCo.cal (fun f fd F => ok_Co F N_) (fun _ _ _ _ _ _ us hl => by obtain ⟨_, rfl⟩ := ls1 hl; rfl)
  have cSewn : Cal P w K mg base "_law_sewn" 2 ["_law_pen_here", "_law_bands", "_law_kinds"] (spSewn K) := D.d_sSw.cal (fun f fd F => ok_Sw F N_ cDraw) (fun _ _ _ _ _ _ us hl => by obtain ⟨_, _, _, rfl⟩ := ls3 hl; rfl)
  have cTR : Cal P w K mg base "_law_told_right" 12 ["_law_letters", "_law_mates"] (spTR K) := D.d_sTR.cal (fun f fd F => ok_TR F N_ tW tRC tSC mW eW neW WC.cm eS MRd cTgtK cTgt cSew cLeft cRound cCo) (fun _ _ _ _ _ _ us hl => by obtain ⟨_, _, rfl⟩ := ls2 hl; rfl)
  obtain ⟨g, oc, od, kV, doc, pm, cdv, ct, an, osl, lg, cg, kg, mg1⟩ := D.d_sHeard.ex
  have hG : HearK K mg g := ⟨mg1, kg, ⟨oc, od, kV, doc, pm, cdv, ct, an, osl, lg, cg⟩⟩
  have u1 : ∀ p ∈ [(P1, qLaw)], p.1 = P1 → p.2 = qLaw := by
    intro p hp _
    rw [List.mem_singleton.mp hp]
  exact ok_Law FL N_ tW tRC tSC mW mR mS X1 BS MF Z hG TB List.mem_cons_self u1 cPen cDraw cPick cSewn cTR cPairsL cMade cSO cTgt
theorem at_mk {l : PySem.W.OpenLaw} {w : World} {K : PySem.W.Frag} {h : Heap} {mg : Str → Option Value} {fa C CR CS CBS CMF CTM CNP CH CM gM P1 : Addr} (X : K.In h) (G : h.Ns mainGlobals mg) (hfa : mg "law" = some (.ref fa)) (N : Names mg) (D : Defs K mg C CR CS) (WC : ClsC K mg C) (WCR : ClsCR K mg CR) (WCS : ClsCS K mg CS) (X1 : XO K C CR CS)
    (neW : PySem.W.findIn K (.ref C) "__ne__" = some (some (.builtin "object.__ne__"))) (neS : PySem.W.findIn K (.ref CS) "__ne__" = some (some (.builtin "object.__ne__")))
    (EBS : ErrX K mg CH CBS "BadSewing" "BadSewing.__init__" sInitBS "part") (EMF : ErrX K mg CH CMF "Misfit" "Misfit.__init__" sInitMF "part") (ENP : ErrX K mg CH CNP "NoPlace" "NoPlace.__init__" sInitNP "value") (ETM : ErrX K mg CH CTM "TooMany" "TooMany.__init__" sInitTM "what") (mst : PySem.W.findIn K (.ref CTM) "most" = some none)
    (aH : PySem.W.nsIn K mainGlobals "HandleError" = some (some (.ref CH))) (k1 : PySem.W.subIn K (.ref CMF) (.ref CBS) = some false)
    (aM : PySem.W.nsIn K mainGlobals "Missing" = some (some (.ref CM))) (m0 : PySem.W.findIn K (.ref CM) "__init__" = some (some (.ref gM))) (m1 : PySem.W.readsIn K CM (.type "type") = true) (m2 : PySem.W.specialIn K (.ref CM) "__getattribute__" = some (some (.builtin "type.__getattribute__"))) (m3 : PySem.W.findCls K (.ref CM) (.type "type") "__init__" = some (.val (.ref gM))) (m4 : PySem.W.keepIn K (.ref gM) = true)
    {ocM kVM dcM pmM cdM ctM : Value} {odM anM : Option Addr} {slM : Array (Option Value)} (lM : K.lookup gM = some ⟨ocM, odM, .func (PySem.W.fnOf "__init__" "Missing.__init__" (defArgs sInitMi) (defBody sInitMi) (defScope sInitMi) .none kVM dcM pmM anM cdM ctM), slM⟩) (cM : PySem.W.codeIn K cdM "Missing.__init__" = true)
    (t1 : h.get? P1 = some { cls := .none, data := .fields #[] })
    {fD cD : Addr} {od1 an1 : Option Addr} {sl1 : Array (Option Value)} {oc1 kV1 dc1 pm1 ct1 : Value}
    (aD : PySem.W.nsIn K mainGlobals "law" = some (some (.ref fD))) (lD : K.lookup fD = some ⟨oc1, od1, .func (PySem.W.fnOf "law" "law" (defArgs sLaw) (defBody sLaw) (defScope sLaw) .none kV1 dc1 pm1 an1 (.ref cD) ct1), sl1⟩)
    (eD : PySem.W.codeIn K (.ref cD) "law" = true) (hD : PySem.W.codeHdIn K cD P1 = true) (nD : K.lookup P1 = none) : RG.LawAtG l w K 14 63 "_law_script" mg fa h := by
  have e := hfa.symm.trans (PySem.W.mg_of X G aD)
  cases e
  have Z : Two K mg CBS CMF := ⟨⟨CH, PySem.W.mg_of X G aH⟩, exm_two EBS.f.sub EBS.f.icl EBS.f.tyC k1, EBS.fl, EMF.fl⟩
  have FR : FunC K "law" sLaw fa cD _ := ⟨oc1, od1, kV1, dc1, pm1, an1, ct1, sl1, rfl, lD, eD⟩
  have one : ∀ {Z : Addr × Addr → Prop}, Z (cD, P1) → ∀ p ∈ [(cD, P1)], Z p := by
    intro Z h2 p hp
    rw [List.mem_singleton.mp hp]
    exact h2
  refine ⟨PySem.W.fnOf "law" "law" (defArgs sLaw) (defBody sLaw) (defScope sLaw) .none kV1 dc1 pm1 an1 (.ref cD) ct1, [(cD, P1)], spLaw K [(P1, qLaw)], ⟨one t1, one nD, one (PySem.W.codeHd_of_K X hD)⟩, fun s v => .of_eq rfl, ?_, fun base _ _ T => ?_⟩
  · intro H a ns hl hH hS
    refine ⟨a, ns, rfl, hS, hl, fun p hp => ?_, fun _ => rfl⟩
    rw [List.mem_singleton.mp hp]
    exact .nil (hH (cD, P1) List.mem_cons_self)
  · exact law_mk N D WC WCR WCS X1 neW neS EBS EMF ENP ETM mst ⟨PySem.W.mg_of X G aM, ⟨m1, m2, m3, m4⟩, ⟨ocM, odM, kVM, dcM, pmM, cdM, ctM, anM, slM, lM, cM⟩⟩ Z FR (T (cD, P1) List.mem_cons_self)
end W33
set_option Elab.async false
set_option linter.all false
set_option maxRecDepth 100000
set_option maxHeartbeats 4000000
namespace W33
open PySem L2 PySem.Spec PyProof.Rows WR WB WE WS
theorem err_mk {K : PySem.W.Frag} {h : Heap} {mg : Str → Option Value} {C f : Addr} {x q : Str} {st : Stmt} (X : K.In h) (G : h.Ns mainGlobals mg)
    {nm q2 : Str} {N : Addr} {bs bm : List Value} {sn : List Str} {sub : List Value} {ab : Bool} {col : Option Bool} {dd : Option Addr} {m0 m1 m2 m3 m5 : Option Value} {oc : Value} {od an : Option Addr} {kV doc pm cdv ct : Value} {osl : Array (Option Value)}
    (aC : PySem.W.nsIn K mainGlobals x = some (some (.ref C)))
    (xL : K.lookup C = some (excClassObj nm q2 C N bs bm true sn sub ab col dd m0 m1 m2 m3 m5 "ValueError.__new__")) (rv : PySem.HandSPX.refsVE bm = true)
    (sa : PySem.W.findIn K (.ref C) "__setattr__" = some (some (.builtin "object.__setattr__"))) (ga : PySem.W.findIn K (.ref C) "__getattribute__" = some (some (.builtin "BaseException.__getattribute__"))) (gg : PySem.W.findIn K (.ref C) "__getattr__" = some none)
    (i1 : PySem.W.findIn K (.ref C) "__init__" = some (some (.ref f))) (t1 : PySem.W.typeIn K (.ref f) = some (.type "function")) (fn : PySem.W.isFn K (.ref f) = true)
    (l1 : K.lookup f = some ⟨oc, od, .func (PySem.W.fnOf "__init__" q (defArgs st) (defBody st) (defScope st) .none kV doc pm an cdv ct), osl⟩) (c1 : PySem.W.codeIn K cdv q = true) (k1 : PySem.W.keepIn K (.ref f) = true)
    (kC : PySem.W.keepIn K (.ref C) = true) (eC : PySem.W.subIn K (.ref C) (.type "BaseException") = some true) (tC : PySem.W.typeIn K (.ref C) = some (.type "type")) (hC : PySem.W.hasDictIn K C = true) (iC : PySem.W.isClsIn K C = true) (sC : PySem.W.subIn K (.ref C) (.ref C) = some true) : ErrW K mg C x q st ∧ ErrF K C :=
  have O : OexC K C := ⟨⟨nm, q2, N, bs, bm, sn, sub, ab, col, dd, m0, m1, m2, m3, m5, xL, rv⟩, sa, eC, tC, kC⟩
  have F : XfC K C := ⟨ga, gg, eC, hC⟩
  ⟨⟨O, F, ⟨f, oc, od, kV, doc, pm, cdv, ct, an, osl, i1, fn, l1, c1, k1⟩, fun f' e => by
    rw [i1] at e
    cases e
    exact t1, PySem.W.mg_of X G aC, exm_two eC iC tC sC⟩, ⟨O, F, eC, iC, tC⟩⟩
theorem errx_mk {K : PySem.W.Frag} {h : Heap} {mg : Str → Option Value} {CH C f : Addr} {x q fl : Str} {st : Stmt} (X : K.In h) (G : h.Ns mainGlobals mg)
    {nm q2 : Str} {N : Addr} {bs bm : List Value} {sn : List Str} {sub : List Value} {ab : Bool} {col : Option Bool} {dd : Option Addr} {m0 m1 m2 m3 m5 : Option Value} {oc : Value} {od an : Option Addr} {kV doc pm cdv ct : Value} {osl : Array (Option Value)}
    (aC : PySem.W.nsIn K mainGlobals x = some (some (.ref C)))
    (xL : K.lookup C = some (excClassObj nm q2 C N bs bm true sn sub ab col dd m0 m1 m2 m3 m5 "ValueError.__new__")) (rv : PySem.HandSPX.refsVE bm = true)
    (sa : PySem.W.findIn K (.ref C) "__setattr__" = some (some (.builtin "object.__setattr__"))) (ga : PySem.W.findIn K (.ref C) "__getattribute__" = some (some (.builtin "BaseException.__getattribute__"))) (gg : PySem.W.findIn K (.ref C) "__getattr__" = some none)
    (i1 : PySem.W.findIn K (.ref C) "__init__" = some (some (.ref f))) (t1 : PySem.W.typeIn K (.ref f) = some (.type "function")) (fn : PySem.W.isFn K (.ref f) = true)
    (l1 : K.lookup f = some ⟨oc, od, .func (PySem.W.fnOf "__init__" q (defArgs st) (defBody st) (defScope st) .none kV doc pm an cdv ct), osl⟩) (c1 : PySem.W.codeIn K cdv q = true) (k1 : PySem.W.keepIn K (.ref f) = true)
    (kC : PySem.W.keepIn K (.ref C) = true) (eC : PySem.W.subIn K (.ref C) (.type "BaseException") = some true) (tC : PySem.W.typeIn K (.ref C) = some (.type "type")) (hC : PySem.W.hasDictIn K C = true) (iC : PySem.W.isClsIn K C = true) (sC : PySem.W.subIn K (.ref C) (.ref C) = some true)
    (fl_ : PySem.W.findIn K (.ref C) fl = some none) (nt : PySem.W.kitOne K (.type "NoneType") (.ref C) = some false) (cc : PySem.W.findIn K (.ref C) "__class__" = some (some (.builtin "object.__class__"))) (mo : PySem.W.mroIn K C (.type "object") = some true) (sb : PySem.W.subIn K (.ref C) (.ref CH) = some true) : ErrX K mg CH C x q st fl :=
  have r := err_mk X G aC xL rv sa ga gg i1 t1 fn l1 c1 k1 kC eC tC hC iC sC
  ⟨r.1, r.2, fl_, nt, cc, mo, sb⟩
theorem names_mk {K : PySem.W.Frag} {h : Heap} {mg : Str → Option Value} {u0 : Tok} {u1 : Tok} {u2 : Tok} {u3 : Tok} {u4 : Tok} (X : K.In h) (G : h.Ns mainGlobals mg)
    (n0 : PySem.W.nsIn K mainGlobals "isinstance" = some none) (n1 : PySem.W.nsIn K mainGlobals "int" = some none) (n2 : PySem.W.nsIn K mainGlobals "bool" = some none) (n3 : PySem.W.nsIn K mainGlobals "str" = some none) (n4 : PySem.W.nsIn K mainGlobals "list" = some none) (n5 : PySem.W.nsIn K mainGlobals "tuple" = some none) (n6 : PySem.W.nsIn K mainGlobals "all" = some none) (n7 : PySem.W.nsIn K mainGlobals "len" = some none) (n8 : PySem.W.nsIn K mainGlobals "abs" = some none) (n9 : PySem.W.nsIn K mainGlobals "range" = some none) (n10 : PySem.W.nsIn K mainGlobals "sorted" = some none) (n11 : PySem.W.nsIn K mainGlobals "set" = some none) (n12 : PySem.W.nsIn K mainGlobals "enumerate" = some none) (n13 : PySem.W.nsIn K mainGlobals "max" = some none) (n14 : PySem.W.nsIn K mainGlobals "min" = some none) (n15 : PySem.W.nsIn K mainGlobals "zip" = some none) (n16 : PySem.W.nsIn K mainGlobals "repr" = some none) (n17 : PySem.W.nsIn K mainGlobals "sum" = some none) (g0 : PySem.W.nsIn K mainGlobals "MOST_KIND" = some (some (.int 26 u0))) (g1 : PySem.W.nsIn K mainGlobals "MOST_LETTERS" = some (some (.int 500 u1))) (g2 : PySem.W.nsIn K mainGlobals "MOST_WORDS" = some (some (.int 4 u2))) (g3 : PySem.W.nsIn K mainGlobals "MOST_PLACES" = some (some (.int 24 u3))) (g4 : PySem.W.nsIn K mainGlobals "MOST_PAIRS" = some (some (.int 12 u4))) : Names mg :=
  ⟨PySem.W.mg_none_of X G n0, PySem.W.mg_none_of X G n1, PySem.W.mg_none_of X G n2, PySem.W.mg_none_of X G n3, PySem.W.mg_none_of X G n4, PySem.W.mg_none_of X G n5, PySem.W.mg_none_of X G n6, PySem.W.mg_none_of X G n7, PySem.W.mg_none_of X G n8, PySem.W.mg_none_of X G n9, PySem.W.mg_none_of X G n10, PySem.W.mg_none_of X G n11, PySem.W.mg_none_of X G n12, PySem.W.mg_none_of X G n13, PySem.W.mg_none_of X G n14, PySem.W.mg_none_of X G n15, PySem.W.mg_none_of X G n16, PySem.W.mg_none_of X G n17, ⟨_, PySem.W.mg_of X G g0⟩, ⟨_, PySem.W.mg_of X G g1⟩, ⟨_, PySem.W.mg_of X G g2⟩, ⟨_, PySem.W.mg_of X G g3⟩, ⟨_, PySem.W.mg_of X G g4⟩⟩
theorem cls_mkC {K : PySem.W.Frag} {h : Heap} {mg : Str → Option Value} {C : Addr} (X : K.In h) (G : h.Ns mainGlobals mg) (aC : PySem.W.nsIn K mainGlobals "Word" = some (some (.ref C)))
    (pg : PySem.W.plainGet K C Str.empty = true) (hd : PySem.W.hasDictIn K C = true) (po : PySem.W.plainOver K C = true) (sa : PySem.W.findIn K (.ref C) "__setattr__" = some (some (.builtin "object.__setattr__")))
    (n1 : PySem.W.findIn K (.ref C) "letters" = some none) (n2 : PySem.W.findIn K (.ref C) "length" = some none) (n3 : PySem.W.findIn K (.ref C) "kinds" = some none) (n4 : PySem.W.findIn K (.ref C) "is_short" = some none) (n5 : PySem.W.findIn K (.ref C) "is_short_round" = some none)
    (ca : PySem.W.findIn K (.ref C) "__class__" = some (some (.builtin "object.__class__"))) (cm : PySem.W.mroIn K C (.type "object") = some true) (mk : PySem.W.makesIn K C = true) (kc : PySem.W.keepIn K (.ref C) = true)
    (cn : PySem.W.specialIn K (.builtin "object.__class__") "__get__" = some (some (.builtin "getset_descriptor.__get__"))) (ct : PySem.W.takesIn K (.builtin "object.__class__") = some true) : ClsC K mg C :=
  ⟨⟨pg, hd, po, sa⟩, n1, n2, n3, n4, n5, ca, cm, mk, kc, PySem.W.mg_of X G aC, cn, ct⟩
theorem cls_mkCR {K : PySem.W.Frag} {h : Heap} {mg : Str → Option Value} {C : Addr} (X : K.In h) (G : h.Ns mainGlobals mg) (aC : PySem.W.nsIn K mainGlobals "Rims" = some (some (.ref C)))
    (pg : PySem.W.plainGet K C Str.empty = true) (hd : PySem.W.hasDictIn K C = true) (po : PySem.W.plainOver K C = true) (sa : PySem.W.findIn K (.ref C) "__setattr__" = some (some (.builtin "object.__setattr__")))
    (n1 : PySem.W.findIn K (.ref C) "words" = some none) (n2 : PySem.W.findIn K (.ref C) "letters" = some none) (n3 : PySem.W.findIn K (.ref C) "many" = some none) (n4 : PySem.W.findIn K (.ref C) "bands" = some none) (n5 : PySem.W.findIn K (.ref C) "is_short" = some none) (n6 : PySem.W.findIn K (.ref C) "homes" = some none) (n7 : PySem.W.findIn K (.ref C) "nexts" = some none)
    (ca : PySem.W.findIn K (.ref C) "__class__" = some (some (.builtin "object.__class__"))) (cm : PySem.W.mroIn K C (.type "object") = some true) (mk : PySem.W.makesIn K C = true) (kc : PySem.W.keepIn K (.ref C) = true) : ClsCR K mg C :=
  ⟨⟨pg, hd, po, sa⟩, n1, n2, n3, n4, n5, n6, n7, ca, cm, mk, kc, PySem.W.mg_of X G aC⟩
theorem cls_mkCS {K : PySem.W.Frag} {h : Heap} {mg : Str → Option Value} {C : Addr} (X : K.In h) (G : h.Ns mainGlobals mg) (aC : PySem.W.nsIn K mainGlobals "Sewing" = some (some (.ref C)))
    (pg : PySem.W.plainGet K C Str.empty = true) (hd : PySem.W.hasDictIn K C = true) (po : PySem.W.plainOver K C = true) (sa : PySem.W.findIn K (.ref C) "__setattr__" = some (some (.builtin "object.__setattr__")))
    (n1 : PySem.W.findIn K (.ref C) "rims" = some none) (n2 : PySem.W.findIn K (.ref C) "mates" = some none) (n3 : PySem.W.findIn K (.ref C) "corners" = some none) (n4 : PySem.W.findIn K (.ref C) "cost" = some none) (n5 : PySem.W.findIn K (.ref C) "pieces" = some none) (n6 : PySem.W.findIn K (.ref C) "handles" = some none)
    (ca : PySem.W.findIn K (.ref C) "__class__" = some (some (.builtin "object.__class__"))) (cm : PySem.W.mroIn K C (.type "object") = some true) (mk : PySem.W.makesIn K C = true) (kc : PySem.W.keepIn K (.ref C) = true) : ClsCS K mg C :=
  ⟨⟨pg, hd, po, sa⟩, n1, n2, n3, n4, n5, n6, ca, cm, mk, kc, PySem.W.mg_of X G aC⟩
end W33
open PySem PySem.W PyProof.Rows in
set_option maxRecDepth 100000 in
set_option maxHeartbeats 0 in
theorem PySem.Challenge.cw_handlerims_k33_sewings_tightened_holds : PySem.Challenge.rw_handlerims_k33_sewings_tightened.Holds := by
  w_on; o_law; k_head; (case hw => w_witness2)
  k_fill
  refine RG.walkGT (l := PySem.Challenge.rw_handlerims_k33_sewings_tightened) (n := 63) (k := 14) (x := "_law_script") rfl (by decide) rfl ⟨rfl, by decide, by decide⟩ (fun w h Y => PySem.W.km_in_of Y) ?F
  case F =>
    intro w mg fa h Y KX G hmg
    have tabs := PySem.W.km_tabs_of Y
    have hlaw : mg "law" = some (.ref fa) := hmg
    clear hmg
    have hN : W33.Names mg := by
      refine' W33.names_mk KX G ?q_n0 ?q_n1 ?q_n2 ?q_n3 ?q_n4 ?q_n5 ?q_n6 ?q_n7 ?q_n8 ?q_n9 ?q_n10 ?q_n11 ?q_n12 ?q_n13 ?q_n14 ?q_n15 ?q_n16 ?q_n17 ?q_g0 ?q_g1 ?q_g2 ?q_g3 ?q_g4
      (case q_n0 => k_is)
      (case q_n1 => k_is)
      (case q_n2 => k_is)
      (case q_n3 => k_is)
      (case q_n4 => k_is)
      (case q_n5 => k_is)
      (case q_n6 => k_is)
      (case q_n7 => k_is)
      (case q_n8 => k_is)
      (case q_n9 => k_is)
      (case q_n10 => k_is)
      (case q_n11 => k_is)
      (case q_n12 => k_is)
      (case q_n13 => k_is)
      (case q_n14 => k_is)
      (case q_n15 => k_is)
      (case q_n16 => k_is)
      (case q_n17 => k_is)
      (case q_g0 => k_is)
      (case q_g1 => k_is)
      (case q_g2 => k_is)
      (case q_g3 => k_is)
      (case q_g4 => k_is)
    refine' W33.at_mk (P1 := 734) KX G hlaw hN ?q_D ?q_WC ?q_WCR ?q_WCS ?q_XS ?q_neW ?q_neS ?q_EB ?q_EM ?q_EN ?q_ET ?q_mst ?q_aH ?q_kit1 ?q_aM ?q_m0 ?q_m1 ?q_m2 ?q_m3 ?q_m4 ?q_lM ?q_cM (tabs 734 (by decide)) ?q_aD ?q_lD ?q_eD ?q_hD ?q_nD
    case q_WC =>
      refine' W33.cls_mkC KX G ?q_CaC ?q_Cpg ?q_Chd ?q_Cpo ?q_Csa ?q_Cn1 ?q_Cn2 ?q_Cn3 ?q_Cn4 ?q_Cn5 ?q_Cca ?q_Ccm ?q_Cmk ?q_Ckc ?q_Ccn ?q_Cct
      (case q_CaC => first | k_is | kernel_rfl)
      (case q_Cpg => first | k_is | kernel_rfl)
      (case q_Chd => first | k_is | kernel_rfl)
      (case q_Cpo => first | k_is | kernel_rfl)
      (case q_Csa => first | k_is | kernel_rfl)
      (case q_Cn1 => first | k_is | kernel_rfl)
      (case q_Cn2 => first | k_is | kernel_rfl)
      (case q_Cn3 => first | k_is | kernel_rfl)
      (case q_Cn4 => first | k_is | kernel_rfl)
      (case q_Cn5 => first | k_is | kernel_rfl)
      (case q_Cca => first | k_is | kernel_rfl)
      (case q_Ccm => first | k_is | kernel_rfl)
      (case q_Cmk => first | k_is | kernel_rfl)
      (case q_Ckc => first | k_is | kernel_rfl)
      (case q_Ccn => first | k_is | kernel_rfl)
      (case q_Cct => first | k_is | kernel_rfl)
    case q_WCR =>
      refine' W33.cls_mkCR KX G ?q_CRaC ?q_CRpg ?q_CRhd ?q_CRpo ?q_CRsa ?q_CRn1 ?q_CRn2 ?q_CRn3 ?q_CRn4 ?q_CRn5 ?q_CRn6 ?q_CRn7 ?q_CRca ?q_CRcm ?q_CRmk ?q_CRkc
      (case q_CRaC => first | k_is | kernel_rfl)
      (case q_CRpg => first | k_is | kernel_rfl)
      (case q_CRhd => first | k_is | kernel_rfl)
      (case q_CRpo => first | k_is | kernel_rfl)
      (case q_CRsa => first | k_is | kernel_rfl)
      (case q_CRn1 => first | k_is | kernel_rfl)
      (case q_CRn2 => first | k_is | kernel_rfl)
      (case q_CRn3 => first | k_is | kernel_rfl)
      (case q_CRn4 => first | k_is | kernel_rfl)
      (case q_CRn5 => first | k_is | kernel_rfl)
      (case q_CRn6 => first | k_is | kernel_rfl)
      (case q_CRn7 => first | k_is | kernel_rfl)
      (case q_CRca => first | k_is | kernel_rfl)
      (case q_CRcm => first | k_is | kernel_rfl)
      (case q_CRmk => first | k_is | kernel_rfl)
      (case q_CRkc => first | k_is | kernel_rfl)
    case q_WCS =>
      refine' W33.cls_mkCS KX G ?q_CSaC ?q_CSpg ?q_CShd ?q_CSpo ?q_CSsa ?q_CSn1 ?q_CSn2 ?q_CSn3 ?q_CSn4 ?q_CSn5 ?q_CSn6 ?q_CSca ?q_CScm ?q_CSmk ?q_CSkc
      (case q_CSaC => first | k_is | kernel_rfl)
      (case q_CSpg => first | k_is | kernel_rfl)
      (case q_CShd => first | k_is | kernel_rfl)
      (case q_CSpo => first | k_is | kernel_rfl)
      (case q_CSsa => first | k_is | kernel_rfl)
      (case q_CSn1 => first | k_is | kernel_rfl)
      (case q_CSn2 => first | k_is | kernel_rfl)
      (case q_CSn3 => first | k_is | kernel_rfl)
      (case q_CSn4 => first | k_is | kernel_rfl)
      (case q_CSn5 => first | k_is | kernel_rfl)
      (case q_CSn6 => first | k_is | kernel_rfl)
      (case q_CSca => first | k_is | kernel_rfl)
      (case q_CScm => first | k_is | kernel_rfl)
      (case q_CSmk => first | k_is | kernel_rfl)
      (case q_CSkc => first | k_is | kernel_rfl)
    case q_D =>
      refine' { d_sIsInt := W33.ff_mk KX G ?q_a0 ?q_l0 ?q_c0 ?q_k0, d_sWithin := W33.ff_mk KX G ?q_a1 ?q_l1 ?q_c1 ?q_k1, d_sLetter := W33.ff_mk KX G ?q_a2 ?q_l2 ?q_c2 ?q_k2, d_sListed := W33.ff_mk KX G ?q_a3 ?q_l3 ?q_c3 ?q_k3, d_sAreI := W33.ff_mk KX G ?q_a4 ?q_l4 ?q_c4 ?q_k4, d_sCon := W33.ff_mk KX G ?q_a5 ?q_l5 ?q_c5 ?q_k5, d_sShr := W33.ff_mk KX G ?q_a6 ?q_l6 ?q_c6 ?q_k6, d_sRnd := W33.ff_mk KX G ?q_a7 ?q_l7 ?q_c7 ?q_k7, d_sKinds := W33.ff_mk KX G ?q_a8 ?q_l8 ?q_c8 ?q_k8, d_sBalOf := W33.ff_mk KX G ?q_a9 ?q_l9 ?q_c9 ?q_k9, d_sPaired := W33.ff_mk KX G ?q_a10 ?q_l10 ?q_c10 ?q_k10, d_sJoined := W33.ff_mk KX G ?q_a11 ?q_l11 ?q_c11 ?q_k11, d_sFilled := W33.ff_mk KX G ?q_a12 ?q_l12 ?q_c12 ?q_k12, d_sFew := W33.ff_mk KX G ?q_a13 ?q_l13 ?q_c13 ?q_k13, d_sNeedB := W33.ff_mk KX G ?q_a14 ?q_l14 ?q_c14 ?q_k14, d_sNeedR := W33.ff_mk KX G ?q_a15 ?q_l15 ?q_c15 ?q_k15, d_sFewP := W33.ff_mk KX G ?q_a16 ?q_l16 ?q_c16 ?q_k16, d_sNexts := W33.ff_mk KX G ?q_a17 ?q_l17 ?q_c17 ?q_k17, d_sAreM := W33.ff_mk KX G ?q_a18 ?q_l18 ?q_c18 ?q_k18, d_sCorn := W33.ff_mk KX G ?q_a19 ?q_l19 ?q_c19 ?q_k19, d_sPieces := W33.ff_mk KX G ?q_a20 ?q_l20 ?q_c20 ?q_k20, d_sNeedS := W33.ff_mk KX G ?q_a21 ?q_l21 ?q_c21 ?q_k21, d_sNeedPX := W33.ff_mk KX G ?q_a22 ?q_l22 ?q_c22 ?q_k22, d_sMam := W33.ff_mk KX G ?q_a23 ?q_l23 ?q_c23 ?q_k23, d_sRF := W33.ff_mk KX G ?q_a24 ?q_l24 ?q_c24 ?q_k24, d_sWO := W33.ff_mk KX G ?q_a25 ?q_l25 ?q_c25 ?q_k25, d_sNRS := W33.ff_mk KX G ?q_a26 ?q_l26 ?q_c26 ?q_k26, d_sPTT := W33.ff_mk KX G ?q_a27 ?q_l27 ?q_c27 ?q_k27, d_sTgt := W33.ff_mk KX G ?q_a28 ?q_l28 ?q_c28 ?q_k28, d_sIWP := W33.ff_mk KX G ?q_a29 ?q_l29 ?q_c29 ?q_k29, d_sAWP := W33.ff_mk KX G ?q_a30 ?q_l30 ?q_c30 ?q_k30, d_sNWP := W33.ff_mk KX G ?q_a31 ?q_l31 ?q_c31 ?q_k31, d_sWOE := W33.ff_mk KX G ?q_a32 ?q_l32 ?q_c32 ?q_k32, d_sMOE := W33.ff_mk KX G ?q_a33 ?q_l33 ?q_c33 ?q_k33, d_sSO := W33.ff_mk KX G ?q_a34 ?q_l34 ?q_c34 ?q_k34, d_sJar := W33.ff_mk KX G ?q_a35 ?q_l35 ?q_c35 ?q_k35, d_sDraw := W33.ff_mk KX G ?q_a36 ?q_l36 ?q_c36 ?q_k36, d_sPick := W33.ff_mk KX G ?q_a37 ?q_l37 ?q_c37 ?q_k37, d_sShL := W33.ff_mk KX G ?q_a38 ?q_l38 ?q_c38 ?q_k38, d_sWordL := W33.ff_mk KX G ?q_a39 ?q_l39 ?q_c39 ?q_k39, d_sPairsL := W33.ff_mk KX G ?q_a40 ?q_l40 ?q_c40 ?q_k40, d_sMade := W33.ff_mk KX G ?q_a41 ?q_l41 ?q_c41 ?q_k41, d_sRdL := W33.ff_mk KX G ?q_a42 ?q_l42 ?q_c42 ?q_k42, d_sCo := W33.ff_mk KX G ?q_a43 ?q_l43 ?q_c43 ?q_k43, d_sSw := W33.ff_mk KX G ?q_a44 ?q_l44 ?q_c44 ?q_k44, d_sSwL := W33.ff_mk KX G ?q_a45 ?q_l45 ?q_c45 ?q_k45, d_sLeft := W33.ff_mk KX G ?q_a46 ?q_l46 ?q_c46 ?q_k46, d_sTR := W33.ff_mk KX G ?q_a47 ?q_l47 ?q_c47 ?q_k47, d_sHeard := W33.ff_mk KX G ?q_a48 ?q_l48 ?q_c48 ?q_k48, m_sInit := W33.fm_mk ?q_ma0 ?q_mi0 ?q_ml0 ?q_mc0 ?q_mk0, m_sEq := W33.fm_mk ?q_ma1 ?q_mi1 ?q_ml1 ?q_mc1 ?q_mk1, m_sContrary := W33.fm_mk ?q_ma2 ?q_mi2 ?q_ml2 ?q_mc2 ?q_mk2, m_sRound := W33.fm_mk ?q_ma3 ?q_mi3 ?q_ml3 ?q_mc3 ?q_mk3, m_sInitR := W33.fm_mk ?q_ma4 ?q_mi4 ?q_ml4 ?q_mc4 ?q_mk4, m_sEqR := W33.fm_mk ?q_ma5 ?q_mi5 ?q_ml5 ?q_mc5 ?q_mk5, m_sInitS := W33.fm_mk ?q_ma6 ?q_mi6 ?q_ml6 ?q_mc6 ?q_mk6, m_sEqSx := W33.fm_mk ?q_ma7 ?q_mi7 ?q_ml7 ?q_mc7 ?q_mk7 }
      (case q_a0 => k_is); (case q_l0 => k_is); (case q_c0 => k_is); (case q_k0 => k_is)
      (case q_a1 => k_is); (case q_l1 => k_is); (case q_c1 => k_is); (case q_k1 => k_is)
      (case q_a2 => k_is); (case q_l2 => k_is); (case q_c2 => k_is); (case q_k2 => k_is)
      (case q_a3 => k_is); (case q_l3 => k_is); (case q_c3 => k_is); (case q_k3 => k_is)
      (case q_a4 => k_is); (case q_l4 => k_is); (case q_c4 => k_is); (case q_k4 => k_is)
      (case q_a5 => k_is); (case q_l5 => k_is); (case q_c5 => k_is); (case q_k5 => k_is)
      (case q_a6 => k_is); (case q_l6 => k_is); (case q_c6 => k_is); (case q_k6 => k_is)
      (case q_a7 => k_is); (case q_l7 => k_is); (case q_c7 => k_is); (case q_k7 => k_is)
      (case q_a8 => k_is); (case q_l8 => k_is); (case q_c8 => k_is); (case q_k8 => k_is)
      (case q_a9 => k_is); (case q_l9 => k_is); (case q_c9 => k_is); (case q_k9 => k_is)
      (case q_a10 => k_is); (case q_l10 => k_is); (case q_c10 => k_is); (case q_k10 => k_is)
      (case q_a11 => k_is); (case q_l11 => k_is); (case q_c11 => k_is); (case q_k11 => k_is)
      (case q_a12 => k_is); (case q_l12 => k_is); (case q_c12 => k_is); (case q_k12 => k_is)
      (case q_a13 => k_is); (case q_l13 => k_is); (case q_c13 => k_is); (case q_k13 => k_is)
      (case q_a14 => k_is); (case q_l14 => k_is); (case q_c14 => k_is); (case q_k14 => k_is)
      (case q_a15 => k_is); (case q_l15 => k_is); (case q_c15 => k_is); (case q_k15 => k_is)
      (case q_a16 => k_is); (case q_l16 => k_is); (case q_c16 => k_is); (case q_k16 => k_is)
      (case q_a17 => k_is); (case q_l17 => k_is); (case q_c17 => k_is); (case q_k17 => k_is)
      (case q_a18 => k_is); (case q_l18 => k_is); (case q_c18 => k_is); (case q_k18 => k_is)
      (case q_a19 => k_is); (case q_l19 => k_is); (case q_c19 => k_is); (case q_k19 => k_is)
      (case q_a20 => k_is); (case q_l20 => k_is); (case q_c20 => k_is); (case q_k20 => k_is)
      (case q_a21 => k_is); (case q_l21 => k_is); (case q_c21 => k_is); (case q_k21 => k_is)
      (case q_a22 => k_is); (case q_l22 => k_is); (case q_c22 => k_is); (case q_k22 => k_is)
      (case q_a23 => k_is); (case q_l23 => k_is); (case q_c23 => k_is); (case q_k23 => k_is)
      (case q_a24 => k_is); (case q_l24 => k_is); (case q_c24 => k_is); (case q_k24 => k_is)
      (case q_a25 => k_is); (case q_l25 => k_is); (case q_c25 => k_is); (case q_k25 => k_is)
      (case q_a26 => k_is); (case q_l26 => k_is); (case q_c26 => k_is); (case q_k26 => k_is)
      (case q_a27 => k_is); (case q_l27 => k_is); (case q_c27 => k_is); (case q_k27 => k_is)
      (case q_a28 => k_is); (case q_l28 => k_is); (case q_c28 => k_is); (case q_k28 => k_is)
      (case q_a29 => k_is); (case q_l29 => k_is); (case q_c29 => k_is); (case q_k29 => k_is)
      (case q_a30 => k_is); (case q_l30 => k_is); (case q_c30 => k_is); (case q_k30 => k_is)
      (case q_a31 => k_is); (case q_l31 => k_is); (case q_c31 => k_is); (case q_k31 => k_is)
      (case q_a32 => k_is); (case q_l32 => k_is); (case q_c32 => k_is); (case q_k32 => k_is)
      (case q_a33 => k_is); (case q_l33 => k_is); (case q_c33 => k_is); (case q_k33 => k_is)
      (case q_a34 => k_is); (case q_l34 => k_is); (case q_c34 => k_is); (case q_k34 => k_is)
      (case q_a35 => k_is); (case q_l35 => k_is); (case q_c35 => k_is); (case q_k35 => k_is)
      (case q_a36 => k_is); (case q_l36 => k_is); (case q_c36 => k_is); (case q_k36 => k_is)
      (case q_a37 => k_is); (case q_l37 => k_is); (case q_c37 => k_is); (case q_k37 => k_is)
      (case q_a38 => k_is); (case q_l38 => k_is); (case q_c38 => k_is); (case q_k38 => k_is)
      (case q_a39 => k_is); (case q_l39 => k_is); (case q_c39 => k_is); (case q_k39 => k_is)
      (case q_a40 => k_is); (case q_l40 => k_is); (case q_c40 => k_is); (case q_k40 => k_is)
      (case q_a41 => k_is); (case q_l41 => k_is); (case q_c41 => k_is); (case q_k41 => k_is)
      (case q_a42 => k_is); (case q_l42 => k_is); (case q_c42 => k_is); (case q_k42 => k_is)
      (case q_a43 => k_is); (case q_l43 => k_is); (case q_c43 => k_is); (case q_k43 => k_is)
      (case q_a44 => k_is); (case q_l44 => k_is); (case q_c44 => k_is); (case q_k44 => k_is)
      (case q_a45 => k_is); (case q_l45 => k_is); (case q_c45 => k_is); (case q_k45 => k_is)
      (case q_a46 => k_is); (case q_l46 => k_is); (case q_c46 => k_is); (case q_k46 => k_is)
      (case q_a47 => k_is); (case q_l47 => k_is); (case q_c47 => k_is); (case q_k47 => k_is)
      (case q_a48 => k_is); (case q_l48 => k_is); (case q_c48 => k_is); (case q_k48 => k_is)
      (case q_ma0 => k_is); (case q_mi0 => k_is); (case q_ml0 => k_is); (case q_mc0 => k_is); (case q_mk0 => k_is)
      (case q_ma1 => k_is); (case q_mi1 => k_is); (case q_ml1 => k_is); (case q_mc1 => k_is); (case q_mk1 => k_is)
      (case q_ma2 => k_is); (case q_mi2 => k_is); (case q_ml2 => k_is); (case q_mc2 => k_is); (case q_mk2 => k_is)
      (case q_ma3 => k_is); (case q_mi3 => k_is); (case q_ml3 => k_is); (case q_mc3 => k_is); (case q_mk3 => k_is)
      (case q_ma4 => k_is); (case q_mi4 => k_is); (case q_ml4 => k_is); (case q_mc4 => k_is); (case q_mk4 => k_is)
      (case q_ma5 => k_is); (case q_mi5 => k_is); (case q_ml5 => k_is); (case q_mc5 => k_is); (case q_mk5 => k_is)
      (case q_ma6 => k_is); (case q_mi6 => k_is); (case q_ml6 => k_is); (case q_mc6 => k_is); (case q_mk6 => k_is)
      (case q_ma7 => k_is); (case q_mi7 => k_is); (case q_ml7 => k_is); (case q_mc7 => k_is); (case q_mk7 => k_is)
    (case q_neW => first | k_is | kernel_rfl | rfl)
    (case q_neS => first | k_is | kernel_rfl | rfl)
    (case q_mst => first | k_is | kernel_rfl | rfl)
    case q_XS =>
      refine' ⟨?q_x0, ?q_x1, ?q_x2, ?q_x3, ?q_x4, ?q_x5, ?q_x6⟩
      (case q_x0 => first | k_is | kernel_rfl | rfl)
      (case q_x1 => first | k_is | kernel_rfl | rfl)
      (case q_x2 => first | k_is | kernel_rfl | rfl)
      (case q_x3 => first | k_is | kernel_rfl | rfl)
      (case q_x4 => first | k_is | kernel_rfl | rfl)
      (case q_x5 => first | k_is | kernel_rfl | rfl)
      (case q_x6 => first | k_is | kernel_rfl | rfl)
    (case q_aH => k_is)
    case q_EB =>
      refine' W33.errx_mk KX G ?q_BaC ?q_BxL ?q_Brv ?q_Bsa ?q_Bga ?q_Bgg ?q_Bi1 ?q_Bt1 ?q_Bfn ?q_Bl1 ?q_Bc1 ?q_Bk1 ?q_BkC ?q_BeC ?q_BtC ?q_BhC ?q_BiC ?q_BsC ?q_Bfl ?q_Bnt ?q_Bcc ?q_Bmo ?q_Bsb
      (case q_BaC => first | k_is | decide +kernel | kernel_rfl | rfl)
      (case q_BxL => first | k_is | decide +kernel | kernel_rfl | rfl)
      (case q_Brv => first | k_is | decide +kernel | kernel_rfl | rfl)
      (case q_Bsa => first | k_is | decide +kernel | kernel_rfl | rfl)
      (case q_Bga => first | k_is | decide +kernel | kernel_rfl | rfl)
      (case q_Bgg => first | k_is | decide +kernel | kernel_rfl | rfl)
      (case q_Bi1 => first | k_is | decide +kernel | kernel_rfl | rfl)
      (case q_Bt1 => first | k_is | decide +kernel | kernel_rfl | rfl)
      (case q_Bfn => first | k_is | decide +kernel | kernel_rfl | rfl)
      (case q_Bl1 => first | k_is | decide +kernel | kernel_rfl | rfl)
      (case q_Bc1 => first | k_is | decide +kernel | kernel_rfl | rfl)
      (case q_Bk1 => first | k_is | decide +kernel | kernel_rfl | rfl)
      (case q_BkC => first | k_is | decide +kernel | kernel_rfl | rfl)
      (case q_BeC => first | k_is | decide +kernel | kernel_rfl | rfl)
      (case q_BtC => first | k_is | decide +kernel | kernel_rfl | rfl)
      (case q_BhC => first | k_is | decide +kernel | kernel_rfl | rfl)
      (case q_BiC => first | k_is | decide +kernel | kernel_rfl | rfl)
      (case q_BsC => first | k_is | decide +kernel | kernel_rfl | rfl)
      (case q_Bfl => first | k_is | decide +kernel | kernel_rfl | rfl)
      (case q_Bnt => first | k_is | decide +kernel | kernel_rfl | rfl)
      (case q_Bcc => first | k_is | decide +kernel | kernel_rfl | rfl)
      (case q_Bmo => first | k_is | decide +kernel | kernel_rfl | rfl)
      (case q_Bsb => first | k_is | kernel_rfl | rfl)
    case q_EM =>
      refine' W33.errx_mk KX G ?q_MaC ?q_MxL ?q_Mrv ?q_Msa ?q_Mga ?q_Mgg ?q_Mi1 ?q_Mt1 ?q_Mfn ?q_Ml1 ?q_Mc1 ?q_Mk1 ?q_MkC ?q_MeC ?q_MtC ?q_MhC ?q_MiC ?q_MsC ?q_Mfl ?q_Mnt ?q_Mcc ?q_Mmo ?q_Msb
      (case q_MaC => first | k_is | decide +kernel | kernel_rfl | rfl)
      (case q_MxL => first | k_is | decide +kernel | kernel_rfl | rfl)
      (case q_Mrv => first | k_is | decide +kernel | kernel_rfl | rfl)
      (case q_Msa => first | k_is | decide +kernel | kernel_rfl | rfl)
      (case q_Mga => first | k_is | decide +kernel | kernel_rfl | rfl)
      (case q_Mgg => first | k_is | decide +kernel | kernel_rfl | rfl)
      (case q_Mi1 => first | k_is | decide +kernel | kernel_rfl | rfl)
      (case q_Mt1 => first | k_is | decide +kernel | kernel_rfl | rfl)
      (case q_Mfn => first | k_is | decide +kernel | kernel_rfl | rfl)
      (case q_Ml1 => first | k_is | decide +kernel | kernel_rfl | rfl)
      (case q_Mc1 => first | k_is | decide +kernel | kernel_rfl | rfl)
      (case q_Mk1 => first | k_is | decide +kernel | kernel_rfl | rfl)
      (case q_MkC => first | k_is | decide +kernel | kernel_rfl | rfl)
      (case q_MeC => first | k_is | decide +kernel | kernel_rfl | rfl)
      (case q_MtC => first | k_is | decide +kernel | kernel_rfl | rfl)
      (case q_MhC => first | k_is | decide +kernel | kernel_rfl | rfl)
      (case q_MiC => first | k_is | decide +kernel | kernel_rfl | rfl)
      (case q_MsC => first | k_is | decide +kernel | kernel_rfl | rfl)
      (case q_Mfl => first | k_is | decide +kernel | kernel_rfl | rfl)
      (case q_Mnt => first | k_is | decide +kernel | kernel_rfl | rfl)
      (case q_Mcc => first | k_is | decide +kernel | kernel_rfl | rfl)
      (case q_Mmo => first | k_is | decide +kernel | kernel_rfl | rfl)
      (case q_Msb => first | k_is | kernel_rfl | rfl)
    case q_EN =>
      refine' W33.errx_mk KX G ?q_NaC ?q_NxL ?q_Nrv ?q_Nsa ?q_Nga ?q_Ngg ?q_Ni1 ?q_Nt1 ?q_Nfn ?q_Nl1 ?q_Nc1 ?q_Nk1 ?q_NkC ?q_NeC ?q_NtC ?q_NhC ?q_NiC ?q_NsC ?q_Nfl ?q_Nnt ?q_Ncc ?q_Nmo ?q_Nsb
      (case q_NaC => first | k_is | decide +kernel | kernel_rfl | rfl)
      (case q_NxL => first | k_is | decide +kernel | kernel_rfl | rfl)
      (case q_Nrv => first | k_is | decide +kernel | kernel_rfl | rfl)
      (case q_Nsa => first | k_is | decide +kernel | kernel_rfl | rfl)
      (case q_Nga => first | k_is | decide +kernel | kernel_rfl | rfl)
      (case q_Ngg => first | k_is | decide +kernel | kernel_rfl | rfl)
      (case q_Ni1 => first | k_is | decide +kernel | kernel_rfl | rfl)
      (case q_Nt1 => first | k_is | decide +kernel | kernel_rfl | rfl)
      (case q_Nfn => first | k_is | decide +kernel | kernel_rfl | rfl)
      (case q_Nl1 => first | k_is | decide +kernel | kernel_rfl | rfl)
      (case q_Nc1 => first | k_is | decide +kernel | kernel_rfl | rfl)
      (case q_Nk1 => first | k_is | decide +kernel | kernel_rfl | rfl)
      (case q_NkC => first | k_is | decide +kernel | kernel_rfl | rfl)
      (case q_NeC => first | k_is | decide +kernel | kernel_rfl | rfl)
      (case q_NtC => first | k_is | decide +kernel | kernel_rfl | rfl)
      (case q_NhC => first | k_is | decide +kernel | kernel_rfl | rfl)
      (case q_NiC => first | k_is | decide +kernel | kernel_rfl | rfl)
      (case q_NsC => first | k_is | decide +kernel | kernel_rfl | rfl)
      (case q_Nfl => first | k_is | decide +kernel | kernel_rfl | rfl)
      (case q_Nnt => first | k_is | decide +kernel | kernel_rfl | rfl)
      (case q_Ncc => first | k_is | decide +kernel | kernel_rfl | rfl)
      (case q_Nmo => first | k_is | decide +kernel | kernel_rfl | rfl)
      (case q_Nsb => first | k_is | kernel_rfl | rfl)
    case q_ET =>
      refine' W33.errx_mk KX G ?q_TaC ?q_TxL ?q_Trv ?q_Tsa ?q_Tga ?q_Tgg ?q_Ti1 ?q_Tt1 ?q_Tfn ?q_Tl1 ?q_Tc1 ?q_Tk1 ?q_TkC ?q_TeC ?q_TtC ?q_ThC ?q_TiC ?q_TsC ?q_Tfl ?q_Tnt ?q_Tcc ?q_Tmo ?q_Tsb
      (case q_TaC => first | k_is | decide +kernel | kernel_rfl | rfl)
      (case q_TxL => first | k_is | decide +kernel | kernel_rfl | rfl)
      (case q_Trv => first | k_is | decide +kernel | kernel_rfl | rfl)
      (case q_Tsa => first | k_is | decide +kernel | kernel_rfl | rfl)
      (case q_Tga => first | k_is | decide +kernel | kernel_rfl | rfl)
      (case q_Tgg => first | k_is | decide +kernel | kernel_rfl | rfl)
      (case q_Ti1 => first | k_is | decide +kernel | kernel_rfl | rfl)
      (case q_Tt1 => first | k_is | decide +kernel | kernel_rfl | rfl)
      (case q_Tfn => first | k_is | decide +kernel | kernel_rfl | rfl)
      (case q_Tl1 => first | k_is | decide +kernel | kernel_rfl | rfl)
      (case q_Tc1 => first | k_is | decide +kernel | kernel_rfl | rfl)
      (case q_Tk1 => first | k_is | decide +kernel | kernel_rfl | rfl)
      (case q_TkC => first | k_is | decide +kernel | kernel_rfl | rfl)
      (case q_TeC => first | k_is | decide +kernel | kernel_rfl | rfl)
      (case q_TtC => first | k_is | decide +kernel | kernel_rfl | rfl)
      (case q_ThC => first | k_is | decide +kernel | kernel_rfl | rfl)
      (case q_TiC => first | k_is | decide +kernel | kernel_rfl | rfl)
      (case q_TsC => first | k_is | decide +kernel | kernel_rfl | rfl)
      (case q_Tfl => first | k_is | decide +kernel | kernel_rfl | rfl)
      (case q_Tnt => first | k_is | decide +kernel | kernel_rfl | rfl)
      (case q_Tcc => first | k_is | decide +kernel | kernel_rfl | rfl)
      (case q_Tmo => first | k_is | decide +kernel | kernel_rfl | rfl)
      (case q_Tsb => first | k_is | kernel_rfl | rfl)
    (case q_kit1 => first | k_is | kernel_rfl | rfl)
    (case q_aM => k_is); (case q_m0 => k_is); (case q_m2 => k_is); (case q_m1 => first | k_is | kernel_rfl | rfl); (case q_m3 => first | k_is | kernel_rfl | rfl); (case q_m4 => k_is); (case q_lM => k_is); (case q_cM => k_is)
    (case q_aD => k_is); (case q_lD => k_is); (case q_eD => k_is); (case q_hD => first | kernel_rfl | with_unfolding_all rfl); (case q_nD => first | rfl | k_is)
