import PyProof.Rows.All
import Wide.All
import OpenK.AllK
import Wide.FinOn
import HandS.ForMost
import HandS.Strs
import HandS.SetBool
import HandS.TupAny
import HandS.TupMul
import KE.KRevSl
import HandS.Exc
import HandS.TryOnly
import HandS.ExcOwn
import HandS.WordsExc
import HandS.Wide
import HandS.IsInst
import HandS.Style
import HandS.Flow
import HandS.Evl
import HandS.MakeKwOnly
import HandS.Walk
import KE.KEqSeq
import HandS.OwnEq
import HandS.More
import PyProof.InstNe
import HandS.ClsMeth
import OpenK.KDescr
import KE.KCallOwn
import PyProof.StrLawsChain
import HandS.Codes
import PyProof.ReprRoads
import HandS.SetFor
import HandS.TupSets
import HandS.SetKeys
import HandS.Dict
import HandS.Iter
import HandS.Deep
import HandS.ReCall
import HandS.Conv
import KE.GoesMore
import HandS.Gcd
import HandS.Base
import HandS.Call
import HandS.Zip
import HandS.ExcInit
import HandS.ExcField
import HandS.ExcIs
import HandS.ExcValue
import HandS.RaiseMore
import PyProof.CallFns
import HandS.Lambda
import HandS.EndTab
import KE.KNestM
import HandS.SortOrd
import HandS.SortRule
import KE.SortData
import PyProof.TupleOfSeq
import HandS.Head0
import HandS.Head1
import HandS.Head2
import HandS.Head3
import HandS.HeadEnd
import HandS.HeadHook1
import HandS.HeadHook2
import HandS.HeadHook3
import HandS.HeadHook4
import PySem.Challenge.RW_handlerims_k16_rims_turned_contrary_and
set_option Elab.async false
set_option linter.all false
/-! Rows of letters, shortened: neighbours that are contraries taken out. -/
namespace Fr
/-- a letter laid on what is left, its last one in front -/
def push : List Int → Int → List Int
  | [], a => [a]
  | b :: t, a => if b = -a then t else a :: b :: t
def act (s : List Int) (xs : List Int) : List Int := xs.foldl push s
/-- no neighbours are contraries -/
def Rd : List Int → Prop
  | [] => True
  | [_] => True
  | a :: b :: t => a ≠ -b ∧ Rd (b :: t)
/-- what is left of a row of letters -/
def shr (xs : List Int) : List Int := (act [] xs).reverse
/-- the contraries, the last one first -/
def con (xs : List Int) : List Int := xs.reverse.map (fun a => -a)
theorem Rd.tail {a : Int} {t : List Int} (h : Rd (a :: t)) : Rd t := by
  cases t with
  | nil => trivial
  | cons b u => exact h.2
theorem push_rd {s : List Int} (a : Int) (h : Rd s) : Rd (push s a) := by
  cases s with
  | nil => trivial
  | cons b t =>
    show Rd (if b = -a then t else a :: b :: t)
    by_cases e : b = -a
    · rw [if_pos e]; exact h.tail
    · rw [if_neg e]
      refine ⟨?_, h⟩
      omega
theorem push_push {s : List Int} (a : Int) (h : Rd s) : push (push s a) (-a) = s := by
  cases s with
  | nil => simp [push]
  | cons b t =>
    by_cases e : b = -a
    · have h1 : push (b :: t) a = t := by simp [push, e]
      rw [h1]
      cases t with
      | nil => simp [push, e]
      | cons c u =>
        have hc : c ≠ - -a := by
          intro hc
          exact h.1 (by omega)
        simp [push, e]
        omega
    · have h1 : push (b :: t) a = a :: b :: t := by simp [push, e]
      rw [h1]
      simp [push]
theorem act_cons (s : List Int) (a : Int) (t : List Int) : act s (a :: t) = act (push s a) t := rfl
theorem act_append (s xs ys : List Int) : act s (xs ++ ys) = act (act s xs) ys := List.foldl_append
theorem act_snoc (s xs : List Int) (a : Int) : act s (xs ++ [a]) = push (act s xs) a := act_append s xs [a]
theorem act_rd : ∀ {xs s : List Int}, Rd s → Rd (act s xs)
  | [], _, h => h
  | a :: t, _, h => act_rd (xs := t) (push_rd a h)
/-- two rows are one and the same when they act alike -/
def Sm (xs ys : List Int) : Prop := ∀ s, Rd s → act s xs = act s ys
theorem Sm.refl (xs : List Int) : Sm xs xs := fun _ _ => rfl
theorem Sm.symm {xs ys : List Int} (h : Sm xs ys) : Sm ys xs := fun s r => (h s r).symm
theorem Sm.trans {xs ys zs : List Int} (h : Sm xs ys) (k : Sm ys zs) : Sm xs zs := fun s r => (h s r).trans (k s r)
theorem Sm.app {xs ys us vs : List Int} (h : Sm xs ys) (k : Sm us vs) : Sm (xs ++ us) (ys ++ vs) := fun s r => by
  rw [act_append, act_append, h s r, k _ (act_rd r)]
theorem Sm.out (a : Int) : Sm [a, -a] [] := fun s r => push_push a r
/-! ### short ones -/
theorem rd_cons {a : Int} {t : List Int} : Rd (a :: t) ↔ (∀ b, t.head? = some b → a ≠ -b) ∧ Rd t := by
  cases t with
  | nil => simp [Rd]
  | cons b u => simp [Rd]
theorem rd_append {xs ys : List Int} : Rd (xs ++ ys) ↔ Rd xs ∧ Rd ys ∧ ∀ a b, xs.getLast? = some a → ys.head? = some b → a ≠ -b := by
  induction xs with
  | nil => simp [Rd]
  | cons x t ih =>
    rw [List.cons_append, rd_cons, rd_cons, ih]
    cases t with
    | nil =>
      simp [Rd]
      constructor
      · rintro ⟨h1, h2⟩
        exact ⟨h2, fun a b ha hb => ha ▸ h1 b hb⟩
      · rintro ⟨h1, h2⟩
        exact ⟨fun b hb => h2 x b rfl hb, h1⟩
    | cons y u =>
      simp [List.getLast?_cons_cons]
      constructor
      · rintro ⟨h1, h2, h3, h4⟩
        exact ⟨⟨h1, h2⟩, h3, h4⟩
      · rintro ⟨⟨h1, h2⟩, h3, h4⟩
        exact ⟨h1, h2, h3, h4⟩
theorem rd_reverse {xs : List Int} : Rd xs.reverse ↔ Rd xs := by
  induction xs with
  | nil => simp [Rd]
  | cons x t ih =>
    rw [List.reverse_cons, rd_append, ih, rd_cons (a := x) (t := t)]
    have one : Rd [x] := trivial
    simp [one]
    constructor
    · rintro ⟨h1, h2⟩
      refine ⟨fun b hb => ?_, h1⟩
      have := h2 b hb
      omega
    · rintro ⟨h1, h2⟩
      refine ⟨h2, fun b hb => ?_⟩
      have := h1 b hb
      omega
theorem rd_shr (xs : List Int) : Rd (shr xs) := rd_reverse.2 (act_rd trivial)
/-! ### contraries -/
theorem con_cons (a : Int) (t : List Int) : con (a :: t) = con t ++ [-a] := by simp [con]
theorem con_length (xs : List Int) : (con xs).length = xs.length := by simp [con]
/-! ### so many times -/
/-! ### the ends -/
/-- short, and its ends are no contraries -/
def Cy (w : List Int) : Prop := Rd w ∧ ∀ a b, w.head? = some a → w.getLast? = some b → a ≠ -b
/-- no letter is 0 -/
def NZ (xs : List Int) : Prop := ∀ a ∈ xs, a ≠ 0
theorem cy_nil : Cy [] := ⟨trivial, fun a b h => by simp at h⟩
theorem NZ.app {xs ys : List Int} (h : NZ xs) (k : NZ ys) : NZ (xs ++ ys) := fun a ha => by
  rcases List.mem_append.1 ha with h1 | h1
  · exact h a h1
  · exact k a h1
theorem push_mem {s : List Int} {a x : Int} (h : x ∈ push s a) : x = a ∨ x ∈ s := by
  cases s with
  | nil => left; simpa [push] using h
  | cons b t =>
    have h2 : x ∈ (if b = -a then t else a :: b :: t) := h
    by_cases e : b = -a
    · rw [if_pos e] at h2; exact .inr (List.mem_cons_of_mem _ h2)
    · rw [if_neg e] at h2
      rcases List.mem_cons.1 h2 with h3 | h3
      · exact .inl h3
      · exact .inr h3
theorem act_mem : ∀ {xs s : List Int} {x : Int}, x ∈ act s xs → x ∈ xs ∨ x ∈ s
  | [], _, _, h => .inr h
  | a :: t, s, x, h => by
    rw [act_cons] at h
    rcases act_mem h with h1 | h1
    · exact .inl (List.mem_cons_of_mem _ h1)
    · rcases push_mem h1 with h2 | h2
      · exact .inl (h2 ▸ List.mem_cons_self)
      · exact .inr h2
theorem shr_mem {xs : List Int} {x : Int} (h : x ∈ shr xs) : x ∈ xs := by
  unfold shr at h
  rcases act_mem (List.mem_reverse.1 h) with h1 | h1
  · exact h1
  · simp at h1
theorem NZ.shr {xs : List Int} (h : NZ xs) : NZ (shr xs) := fun a ha => h a (shr_mem ha)
/-- a row between a letter and its contrary, or one that has no such ends -/
theorem ends_or (xs : List Int) (nz : NZ xs) : (∃ a m, xs = a :: (m ++ [-a])) ∨ ∀ a b, xs.head? = some a → xs.getLast? = some b → a ≠ -b := by
  cases xs with
  | nil => right; intro a b h; simp at h
  | cons a t =>
    by_cases ht : t = []
    · subst ht
      right
      intro x y hx hy
      simp at hx hy
      have := nz a (by simp)
      omega
    · have e := List.dropLast_concat_getLast ht
      by_cases hb : t.getLast ht = -a
      · left
        refine ⟨a, t.dropLast, ?_⟩
        rw [← hb, e]
      · right
        intro x y hx hy
        rw [← e] at hy
        rw [show a :: (t.dropLast ++ [t.getLast ht]) = (a :: t.dropLast) ++ [t.getLast ht] from rfl] at hy
        rw [List.getLast?_append] at hy
        simp at hx hy
        omega
/-- every short row is a row, one that is short round, and the contrary of the first -/
theorem parted (xs : List Int) (nz : NZ xs) (r : Rd xs) : ∃ u w, xs = u ++ w ++ con u ∧ Cy w ∧ (w = [] → u = []) := by
  have gen : ∀ (n : Nat) (xs : List Int), xs.length ≤ n → NZ xs → Rd xs → ∃ u w, xs = u ++ w ++ con u ∧ Cy w ∧ (w = [] → u = []) := by
    intro n
    induction n with
    | zero =>
      intro xs h _ _
      have : xs = [] := List.length_eq_zero_iff.1 (by omega)
      subst this
      exact ⟨[], [], rfl, cy_nil, fun _ => rfl⟩
    | succ n ih =>
      intro xs h nz r
      rcases ends_or xs nz with ⟨a, m, rfl⟩ | k
      · have hr : Rd (m ++ [-a]) := r.tail
        have hm : Rd m := (rd_append.1 hr).1
        obtain ⟨u, w, e, c, z⟩ := ih m (by simp at h; omega) (fun x hx => nz x (by simp [hx])) hm
        have hne : m ≠ [] := by
          intro e0
          subst e0
          have := r.1
          simp at this
        refine ⟨a :: u, w, ?_, c, fun hw => ?_⟩
        · rw [con_cons, e]; simp
        · exfalso
          have hu := z hw
          subst hw hu
          exact hne (by simpa [con] using e)
      · exact ⟨[], xs, by simp [con], ⟨r, k⟩, fun _ => rfl⟩
  exact gen xs.length xs (Nat.le_refl _) nz r
/-- the ends off, as long as they are contraries -/
def endsN : Nat → List Int → List Int
  | 0, xs => xs
  | n + 1, xs => if 1 < xs.length ∧ xs.head? = xs.getLast?.map (fun a => -a) then endsN n xs.tail.dropLast else xs
def ends (xs : List Int) : List Int := endsN xs.length xs
theorem endsN_cy : ∀ (n : Nat) {w : List Int}, Cy w → endsN n w = w
  | 0, _, _ => rfl
  | n + 1, w, h => by
    unfold endsN
    rw [if_neg]
    rintro ⟨h1, h2⟩
    cases e : w.getLast? with
    | none =>
      rw [List.getLast?_eq_none_iff] at e
      subst e
      simp at h1
    | some b =>
      rw [e] at h2
      exact h.2 (-b) b h2 e rfl
theorem endsN_eq : ∀ (n : Nat) (u w : List Int), Cy w → u.length ≤ n → (w = [] → u = []) → endsN n (u ++ w ++ con u) = w
  | n, [], w, c, _, _ => by
    simp [con]
    exact endsN_cy n c
  | 0, a :: u, w, c, h, _ => by simp at h
  | n + 1, a :: u, w, c, h, z => by
    have e : (a :: u) ++ w ++ con (a :: u) = a :: ((u ++ w ++ con u) ++ [-a]) := by
      rw [con_cons]; simp
    rw [e]
    unfold endsN
    rw [if_pos]
    · rw [List.tail_cons, List.dropLast_concat]
      refine endsN_eq n u w c (by simp at h; exact h) fun hw => ?_
      have := z hw
      simp at this
    · constructor
      · simp only [List.length_cons, List.length_append, List.length_nil]; omega
      · rw [show a :: ((u ++ w ++ con u) ++ [-a]) = (a :: (u ++ w ++ con u)) ++ [-a] from rfl, List.getLast?_append]
        simp
theorem ends_eq {u w : List Int} (c : Cy w) (z : w = [] → u = []) : ends (u ++ w ++ con u) = w :=
  endsN_eq _ u w c (by simp) z
/-- what is left of a ring -/
def rnd (xs : List Int) : List Int := ends (shr xs)
/-! ### turned -/
def Trn (xs ys : List Int) : Prop := ∃ p q, xs = p ++ q ∧ ys = q ++ p
theorem Trn.refl (xs : List Int) : Trn xs xs := ⟨[], xs, rfl, by simp⟩
theorem Trn.symm {xs ys : List Int} (h : Trn xs ys) : Trn ys xs := by
  obtain ⟨p, q, e1, e2⟩ := h
  exact ⟨q, p, e2, e1⟩
theorem Trn.trans {xs ys zs : List Int} (h : Trn xs ys) (k : Trn ys zs) : Trn xs zs := by
  obtain ⟨p, q, rfl, e⟩ := h
  obtain ⟨p2, q2, e2, rfl⟩ := k
  rw [e] at e2
  rcases List.append_eq_append_iff.1 e2 with ⟨c, h1, h2⟩ | ⟨c, h1, h2⟩
  · subst h1 h2
    exact ⟨c, q2 ++ q, by simp, by simp⟩
  · subst h1 h2
    exact ⟨p ++ p2, c, by simp, by simp⟩
/-! ### so many times one that is short round -/
end Fr
set_option Elab.async false
set_option linter.all false
set_option maxRecDepth 100000
set_option maxHeartbeats 2000000
/-! {e for x in xs}, e an int. -/
namespace WS
open PySem PySem.Spec PyProof.Rows L2 PpSet
/-- a set as it is when it is made -/
abbrev bareSet (w : World) : Obj := { cls := .type "set", dict := none, data := .set #[] 0 (.fresh 0 0 (!w.params.followText "set-order")) }
theorem bare_ok (w : World) (h : Heap) : SetR w (h.push (bareSet w)) h.objs.size (fun _ => false) 0 := by
  have led : w.params.followText "set-order" = true ∨ (!w.params.followText "set-order") = true := by
    cases w.params.followText "set-order"
    · right; rfl
    · left; rfl
  refine ⟨bareSet w, #[], 0, _, Heap.get?_push_size _ rfl, ⟨rfl, rfl, rfl⟩, rfl, ?_, ?_, ?_, by decide, rfl, rfl, List.Pairwise.nil, led⟩
  · intro e he; simp at he
  · simp
  · intro k; simp
/-- the new set at D, filled turn by turn -/
def Fills (w : World) (J : It) (g : TG) (tt : TT) (te : TE) (vs : List Nat) (σ : L2.St) (D : Addr) (Q : VK) (W : Nat → Nat → Hp → Prop) : Prop :=
  ∀ i m H, W i m H → (J.stop i H ∧ Q (.ref D) H) ∨ (J.go i H ∧ ∃ N : Hp → Prop, (∀ H', N H' → ∃ m', m' < m ∧ W (i + 1) m' H') ∧
    ∀ x H', J.yld i H x H' → g x (wipe σ vs) H' fun σ2 H2 => wipe σ2 vs = wipe σ vs ∧ tt σ2 H2 fun b H3 => if b = true then te σ2 H3 fun y H4 => rSAdd w (.ref D) [y] H4 fun _ H5 => N H5 else N H3)
def tSetI (w : World) (wi : TI) (g : TG) (tt : TT) (te : TE) (vs : List Nat) : TE := fun σ H Q => wi σ H fun J H1 => ∀ D, H1 D = none →
  ∃ W : Nat → Nat → Hp → Prop, (∃ m, W 0 m (upd H1 D (SetO w D (fun _ => false) 0))) ∧ Fills w J g tt te vs σ D Q W
section
variable {X : Cx}
/-- what a turn leaves known -/
def Known (X : Cx) (Z : Cx) (σw : L2.St) (fp : List Addr) (tn : Nat → Heap → Prop) (W : Nat → Nat → Hp → Prop) (m : Nat) (s : Shared) : Prop :=
  ∃ (i : Nat) (H : Hp), Inv Z [] σw H s ∧ tn i s.heap ∧ (∀ b ∈ fp, H b = none) ∧ W i m H
theorem fill_set {elt tg iter : Expr} {ifs : List Expr} {scope : Scope} {own : List (PySem.Str × Nat)} {pos : Pos} {g : TG} {tt : TT} {te : TE} {pins : List (Addr × Obj)} {σ : L2.St} {H3 : Hp} {s3 : Shared} {it D : Addr} {fp : List Addr} {tn : Nat → Heap → Prop} {J : It} {m0 : Nat} {W : Nat → Nat → Hp → Prop} {Q : VK}
    (calm : X.calm = true) (nod : X.N.Nodup) (blk : BlkOk X.N X.env.scope scope own)
    (target : ∀ (s : Shared) (H : Hp) (C : Addr) (cl : List (PySem.Str × Addr)) (fp : List Addr), PG (X.blk s H scope (compEnvC scope cl C X.env) fp) tg g)
    (tests : ∀ (s : Shared) (H : Hp) (C : Addr) (cl : List (PySem.Str × Addr)) (fp : List Addr), PTs (X.blk s H scope (compEnvC scope cl C X.env) fp) ifs tt)
    (item : ∀ (s : Shared) (H : Hp) (C : Addr) (cl : List (PySem.Str × Addr)) (fp : List Addr), PE (X.blk s H scope (compEnvC scope cl C X.env) fp) elt te)
    (T : Turn X.prog X.w X.K tg J fp it tn) (I3 : Inv X pins σ H3 s3) (off : ∀ b ∈ fp, FpOk X pins H3 b ∧ b < s3.heap.objs.size) (st3 : tn 0 s3.heap) (w0 : W 0 m0 H3) (turn : Fills X.w J g tt te (own.map (·.2)) σ D Q W) :
    codeAny (model X.prog X.w) X.A (.compStart (.SetComp elt [⟨tg, iter, ifs, 0⟩] scope pos) 0 (.ref it) (.ref D) (compEnvC scope (cellsFrom (s3.heap.objs.size + 1) scope.names (cloFrom X.env.cells scope.names [])) s3.heap.objs.size X.env))
      (compPost (model X.prog X.w) X.A X.xe none (EP X pins σ Q) (.ref D) s3.heap.objs.size) { s3 with heap := pushCells (s3.heap.push { cls := .type "dict", data := .dict #[] }) scope.names } := by
  have I4 := block_start I3 blk nod off
  have pg := target s3 H3 s3.heap.objs.size (cellsFrom (s3.heap.objs.size + 1) scope.names (cloFrom X.env.cells scope.names [])) fp
  have pt := tests s3 H3 s3.heap.objs.size (cellsFrom (s3.heap.objs.size + 1) scope.names (cloFrom X.env.cells scope.names [])) fp
  have pe := item s3 H3 s3.heap.objs.size (cellsFrom (s3.heap.objs.size + 1) scope.names (cloFrom X.env.cells scope.names [])) fp
  have st4 : tn 0 (pushCells (s3.heap.push { cls := .type "dict", data := .dict #[] }) scope.names) := T.keep _ _ _ st3 fun _ _ _ e => pushCells_keeps _ _ _ _ (Heap.get?_push_of_some _ e)
  obtain ⟨ce, ece⟩ : ∃ ce : Env, ce = compEnvC scope (cellsFrom (s3.heap.objs.size + 1) scope.names (cloFrom X.env.cells scope.names [])) s3.heap.objs.size X.env := ⟨_, rfl⟩
  have loc : ce.locals = s3.heap.objs.size := by rw [ece]; rfl
  rw [← ece] at I4 pg pt pe ⊢
  -- the places that the walk keeps
  have held : ∀ {σ' : L2.St} {H' : Hp} {s' : Shared}, Inv (X.blk s3 H3 scope ce fp) [] σ' H' s' → (∀ b ∈ fp, H' b = none) → ∀ b ∈ fp, FpOk (X.blk s3 H3 scope ce fp) [] H' b := by
    intro σ' H' s' I' none' b hb
    refine ⟨none' b hb, (I'.ok.exf b hb).1, I'.ok.exfs b hb, .inl hb, (I'.ok.exf b hb).2, fun p hp => ?_⟩
    simp at hp
  have all : codeAny (model X.prog X.w) X.A (.compLoop (.SetComp elt [⟨tg, iter, ifs, 0⟩] scope pos) 0 (.ref it) (.ref D) ce) (compPost (model X.prog X.w) X.A X.xe none (EP X pins σ Q) (.ref D) s3.heap.objs.size) { s3 with heap := pushCells (s3.heap.push { cls := .type "dict", data := .dict #[] }) scope.names } := by
    refine compLoopS_any (Known X (X.blk s3 H3 scope ce fp) (wipe σ (own.map (·.2))) fp tn W) (fun m s5 known => ?_) m0 ⟨0, H3, I4, st4, fun b hb => (off b hb).1.1, w0⟩
    obtain ⟨i, H5, I5, st5, none5, w5⟩ := known
    cases turn i m H5 w5 with
    | inl ended =>
      refine thnF (T.done (X.blk s3 H3 scope ce fp) rfl rfl rfl calm i [] s5 _ H5 (fun _ _ => False) I5 (held I5 none5) st5 ended.1) fun r s6 hr => ?_
      obtain ⟨rfl, I6⟩ := hr
      have back : Inv X pins σ H5 s6 := I3.call' (ch := fp) I6.os I6.base I6.hok I6.bare fun b hb => by
        obtain ⟨⟨_, f1, f2, f3, f4, f5⟩, _⟩ := off b hb
        exact ⟨f3, f1, f4, f5⟩
      have noL : H5 s3.heap.objs.size = none := by rw [← loc]; exact I6.free
      obtain ⟨mm, names, _⟩ := I6.loc
      have names' : s6.heap.Ns s3.heap.objs.size mm := by rw [← loc]; exact names
      obtain ⟨f0, f1, f2, f3, f4, f5⟩ := I3.fpOk (Nat.le_refl _) noL
      exact ⟨mm, names', fun h' same => ⟨.ref D, H5, back.turned (t' := s6.toks) (fun b o hb e => (same.2 b hb).trans e) f0 f1 f3 f4 f5, rfl, ended.2⟩⟩
    | inr goes =>
      obtain ⟨go, N, hN, step⟩ := goes
      refine thnF (T.item (X.blk s3 H3 scope ce fp) rfl rfl rfl calm i [] s5 _ H5 (fun _ _ => False) I5 (held I5 none5) st5 go) fun r s6 hr => ?_
      obtain ⟨u, rfl, h6⟩ := hr
      refine thnF h6 fun _ s7 h7 => ?_
      obtain ⟨x, H7, I7, r7, y7, st7, none7⟩ := h7
      refine thnF (pg.run _ s7 _ H7 x u _ (I7.pinned (held I7 none7) (T.obj _ _ st7)) r7 (step x H7 y7)) fun _ s8 h8 => ?_
      obtain ⟨σ8, H8, I8, wiped, q8⟩ := h8
      refine thnF (pt.run _ s8 σ8 H8 _ I8 q8) fun b s9 h9 => ?_
      obtain ⟨H9, I9, q9⟩ := h9
      have next : ∀ {s' : Shared} {H' : Hp}, Inv (X.blk s3 H3 scope ce fp) ([] ++ pinsAt fp s7.heap) σ8 H' s' → N H' → ∃ m', m' < m ∧ Known X (X.blk s3 H3 scope ce fp) (wipe σ (own.map (·.2))) fp tn W m' s' := by
        intro s' H' I' nx
        obtain ⟨m', lt, w'⟩ := hN H' nx
        have kept : ∀ b ∈ fp, ∀ o, s7.heap.get? b = some o → s'.heap.get? b = some o ∧ H' b = none := by
          intro b hb o e
          obtain ⟨z1, z2, _⟩ := I'.pin (b, o) (List.mem_append_right _ (List.mem_append_right _ (mem_pinsAt hb e)))
          exact ⟨z1, z2⟩
        have len : (wipe σ (own.map (·.2))).length = σ8.length := by rw [← wiped, wipe_length]
        refine ⟨m', lt, i + 1, H', (I'.unpinned (pins := [])).weak len (fun j v e => ?_), T.keep _ _ _ st7 fun b hb o e => (kept b hb o e).1, fun b hb => ?_, w'⟩
        · rw [← wiped] at e
          exact (wipe_some e).1
        · obtain ⟨o, e, _⟩ := T.obj _ _ st7 b hb
          exact (kept b hb o e).2
      cases b with
      | false =>
        rw [if_neg Bool.false_ne_true] at q9 ⊢
        exact next I9 q9
      | true =>
        rw [if_pos rfl] at q9 ⊢
        refine thnF (pe.run _ s9 σ8 H9 _ I9 q9) fun z s10 h10 => ?_
        obtain ⟨yv, H10, I10, r10, adds⟩ := h10
        refine thnF (mt_sadd (X := X.blk s3 H3 scope ce fp) _ s10 σ8 H10 (.ref D) [yv] (.ref D) [z] _ I10 rfl (.cons r10 .nil) adds) fun _ s11 h11 => ?_
        obtain ⟨_, H11, I11, _, nx⟩ := h11
        exact next I11 nx
  exact codeAny_compStart_set all (T.self X.A 0 _ _ _ st4 all)
theorem pe_setI {elt tg iter : Expr} {ifs : List Expr} {scope : Scope} {own : List (PySem.Str × Nat)} {pos : Pos} {wi : TI} {g : TG} {tt : TT} {te : TE} (calm : X.calm = true) (nod : X.N.Nodup) (walked : PI X tg iter wi) (blk : BlkOk X.N X.env.scope scope own)
    (target : ∀ (s : Shared) (H : Hp) (C : Addr) (cl : List (PySem.Str × Addr)) (fp : List Addr), PG (X.blk s H scope (compEnvC scope cl C X.env) fp) tg g)
    (tests : ∀ (s : Shared) (H : Hp) (C : Addr) (cl : List (PySem.Str × Addr)) (fp : List Addr), PTs (X.blk s H scope (compEnvC scope cl C X.env) fp) ifs tt)
    (item : ∀ (s : Shared) (H : Hp) (C : Addr) (cl : List (PySem.Str × Addr)) (fp : List Addr), PE (X.blk s H scope (compEnvC scope cl C X.env) fp) elt te) (plain : ∀ x, foldedSetIterable iter X.env x = pure x := by intro _; rfl) :
    PE X (.SetComp elt [⟨tg, iter, ifs, 0⟩] scope pos) (tSetI X.w wi g tt te (own.map (·.2))) := by
  refine ⟨fun pins s σ H Q I asked => ?_⟩
  rw [eval_SetComp]
  have caught : ∀ y ∈ scope.names, y.2 = .free → ∃ c, X.env.cells.lookup y.1 = some c := by
    intro y hy e
    cases blk.free y hy e with
    | inl k => exact I.ok.has _ (.inl k)
    | inr k => exact I.ok.has _ (.inr k)
  refine wpAny_comprehension_free (use := none) rfl plain (closure_ok caught) blk.kind (fun y hy e => by rw [blk.uniq y hy, e]) ?_
  refine thn (walked.run pins s σ H _ I asked) fun _ _ h1 => thn h1 fun _ s2 h2 => ?_
  obtain ⟨it, fp, tn, J, H2, rfl, I2, T, st2, off2, fill⟩ := h2
  refine newSet_ok (newEnv_comp ?_)
  have free0 : H2 s2.heap.objs.size = none := I2.hok.fresh (Nat.le_refl _)
  obtain ⟨W, ⟨m0, w0⟩, turn⟩ := fill s2.heap.objs.size free0
  have I3 : Inv X pins σ (upd H2 s2.heap.objs.size (SetO X.w s2.heap.objs.size (fun _ => false) 0)) { s2 with heap := s2.heap.push (bareSet X.w) } :=
    I2.laid (t' := s2.toks) (fun _ _ e => Heap.get?_push_of_some _ e) (Nat.le_refl _) (setO_new (bare_ok X.w s2.heap))
  have below : ∀ b ∈ fp, b < s2.heap.objs.size := by
    intro b hb
    obtain ⟨o, e, _⟩ := T.obj _ _ st2 b hb
    exact Heap.lt_size e
  have off3 : ∀ b ∈ fp, FpOk X pins (upd H2 s2.heap.objs.size (SetO X.w s2.heap.objs.size (fun _ => false) 0)) b ∧ b < (s2.heap.push (bareSet X.w)).objs.size := by
    intro b hb
    refine ⟨⟨?_, (off2 b hb).2⟩, by rw [Heap.size_push]; exact Nat.lt_succ_of_lt (below b hb)⟩
    rw [upd_ne (Nat.ne_of_lt (below b hb))]
    exact (off2 b hb).1
  exact fill_set calm nod blk target tests item T I3 off3 (T.keep _ _ _ st2 fun _ _ _ e => Heap.get?_push_of_some _ e) w0 turn
end
end WS
set_option Elab.async false
set_option linter.all false
set_option maxRecDepth 100000
set_option maxHeartbeats 2000000
/-! t[::-1]; tuple * int for 0 and 1. -/
namespace WR
open PySem PySem.Spec PyProof.Rows L2
/-- some tuple of these values, all else as it stood -/
def NewT (K : PySem.W.Frag) (H : Hp) (Q : VK) (xs : List V) : Prop := ∀ p H', Same H H' → SqT K H' p xs → Q (.ref p) H'
theorem same_upd {H : Hp} {p : Addr} {o : HO} (hp : H p = none) : Same H (upd H p o) := fun b u e => by
  rw [upd_ne (ne_of_none e hp)]
  exact e
theorem Same.seqT {K : PySem.W.Frag} {H H' : Hp} {a : Addr} {xs : List V} (e : Same H H') (h : SqT K H a xs) : SqT K H' a xs := by
  rcases h with h | h
  · left
    rcases h with h | ⟨o, h⟩
    · exact .inl (e _ _ h)
    · exact .inr ⟨o, e _ _ h⟩
  · exact .inr h
theorem NewT.self {K : PySem.W.Frag} {H : Hp} {Q : VK} {xs : List V} {a : Addr} (k : NewT K H Q xs) (h : SqT K H a xs) : Q (.ref a) H := k a H (Same.refl H) h
theorem NewT.new {K : PySem.W.Frag} {H : Hp} {Q : VK} {xs : List V} (k : NewT K H Q xs) {p : Addr} (hp : H p = none) : Q (.ref p) (upd H p (.tup xs)) := k p _ (same_upd hp) (SqT.of upd_same)
end WR
set_option Elab.async false
set_option linter.all false
set_option maxRecDepth 100000
set_option maxHeartbeats 1000000
/-! Tuples that have no dict of their own: a method of theirs can be called (t.count(x)). tuple(..), slices, + and * make such. -/
namespace WB
open PySem PySem.Spec PyProof PyProof.Rows L2 WR
/-- no dict of its own -/
def Bare (H : Hp) (a : Addr) : Prop := ∃ (o : Obj) (u : HO), H a = some (.frz o u) ∧ o.dict = none
structure SqB (K : PySem.W.Frag) (H : Hp) (a : Addr) (xs : List V) : Prop where
  sq : SqT K H a xs
  bare : Bare H a
instance {K : PySem.W.Frag} {H : Hp} {a : Addr} {xs : List V} : Coe (SqB K H a xs) (SqT K H a xs) := ⟨SqB.sq⟩
theorem SqB.same {K : PySem.W.Frag} {H H' : Hp} {a : Addr} {xs : List V} (s : Same H H') (h : SqB K H a xs) : SqB K H' a xs := by
  obtain ⟨h1, h2⟩ := h
  refine ⟨WR.Same.seqT s h1, ?_⟩
  obtain ⟨o, u, e, d⟩ := h2
  exact ⟨o, u, s _ _ e, d⟩
/-- some such tuple of these values, all else as it stood -/
def NewB (K : PySem.W.Frag) (H : Hp) (Q : VK) (xs : List V) : Prop := ∀ p H', Same H H' → SqB K H' p xs → Q (.ref p) H'
theorem NewB.self {K : PySem.W.Frag} {H : Hp} {Q : VK} {xs : List V} {a : Addr} (k : NewB K H Q xs) (h : SqB K H a xs) : Q (.ref a) H := k a H (Same.refl H) h
theorem NewB.new {K : PySem.W.Frag} {H : Hp} {Q : VK} {xs : List V} (k : NewB K H Q xs) {p : Addr} (hp : H p = none) {o : Obj} (d : o.dict = none) : Q (.ref p) (upd H p (.frz o (.tup xs))) :=
  k p _ (same_upd hp) ⟨.inl (.inr ⟨o, upd_same⟩), ⟨o, _, upd_same, d⟩⟩
section
variable {X : Cx} {pins : List (Addr × Obj)} {σ : L2.St} {H : Hp} {s : Shared} {Q : VK} {xs : List V} {its : List Value}
/-- a new tuple of these -/
theorem born (I : Inv X pins σ H s) {h1 : Heap} (kp : ∀ b o, s.heap.get? b = some o → h1.get? b = some o) (r : Vals xs its) (hz : xs.length ≤ sizeLine) (k : NewB X.K H Q xs) :
    ∃ (v : V) (H2 : Hp), Inv X pins σ H2 { s with heap := h1.push { cls := .type "tuple", data := .seq its.toArray } } ∧ RelV v (.ref h1.objs.size) ∧ Q v H2 := by
  have J : Inv X pins σ H { s with heap := h1 } := I.kept (t' := s.toks) kp
  have hn := J.hok.fresh (Nat.le_refl h1.objs.size)
  have new : (h1.push { cls := .type "tuple", data := .seq its.toArray }).get? h1.objs.size = some { cls := .type "tuple", data := .seq its.toArray } := Heap.get?_push_size _ rfl
  exact ⟨.ref _, _, J.laid (t' := s.toks) (o := .frz { cls := .type "tuple", data := .seq its.toArray } (.tup xs)) (fun _ _ e => Heap.get?_push_of_some _ e) (Nat.le_refl _) ⟨new, hz, its, r, IsTup.new _ _⟩, rfl, k.new hn rfl⟩
theorem call_tupB : CallR X (.type "tuple") (fun xs H Q => ∃ p ys, xs = [.ref p] ∧ ((SqL X.K H p ys ∧ NewB X.K H Q ys) ∨ (SqB X.K H p ys ∧ Q (.ref p) H))) := by
  intro pins s σ H vs us Q I r h
  obtain ⟨p, ys, rfl, h⟩ := h
  obtain ⟨u, rfl, rx⟩ := vals1 r
  cases rx
  rcases h with ⟨hq, q⟩ | ⟨hq, q⟩
  · obtain ⟨its, rv, pl, hz⟩ := I.list hq
    exact call_tuple_list pl.isList (fun h1 kp => born I kp rv hz q) (by rw [List.size_toArray, ← rv.length]; exact hz)
  · obtain ⟨its, rv, pl, _⟩ := I.tuple hq.sq
    exact call_tuple_same pl ⟨.ref p, H, I, rfl, q⟩
/-- a display -/
theorem pe_tupB {es : List Expr} {t : TA} {pos : Pos} {x1} (h : PA X es t) : PE X (.Tuple es x1 pos) (fun σ H Q => t σ H fun xs H1 => xs.length ≤ sizeLine ∧ NewB X.K H1 Q xs) := by
  constructor
  intro pins s σ H Q I hq
  refine wpAny_Tuple_spliced (thn (h.run pos pins s σ H _ I hq) fun us s1 z => ?_)
  obtain ⟨xs, H1, I1, r, z, q⟩ := z
  exact ⟨by rw [← r.length]; exact z, born I1 (fun _ _ e => e) r z q⟩
def rSlB (K : PySem.W.Frag) : V → Option Int → Option Int → Hp → VK → Prop := fun x lo hi H Q => ∃ a xs, x = .ref a ∧ SqB K H a xs ∧ NewB K H Q (cutV xs lo hi)
theorem sl_tupB : SlR X (rSlB X.K) := by
  intro pins s σ H x v vl vu lo hi sl Q I rx hs pl pu h
  obtain ⟨a, xs, rfl, hx, k⟩ := h
  cases rx
  obtain ⟨its, r, ht, hz⟩ := I.tuple hx.sq
  have hlen : its.toArray.size = xs.length := List.size_toArray.trans r.length.symm
  refine ⟨"tuple", _, PyProof.Rows.slot_tuple_getitem.lookup, ht.typeIs, ?_⟩
  by_cases hw : HT.sIx xs.length 0 lo = 0 ∧ HT.sIx xs.length xs.length hi = xs.length
  · have e : cutV xs lo hi = xs := by
      unfold cutV
      rw [hw.1, hw.2, List.drop_zero, Nat.sub_zero, List.take_of_length_le (Nat.le_refl _)]
    rw [e] at k
    exact getItem_tuple_whole ht hs pl pu (hlen.symm ▸ hw) ⟨.ref a, H, I, rfl, k.self hx⟩
  · refine HT.getItem_tuple_cut ht hs pl pu (hlen.symm ▸ hw) ?_ (hlen.symm ▸ hz)
    rw [hlen]
    exact born I (fun _ _ e => e) ((r.drop _).take _) (Nat.le_trans (cutV_length xs lo hi) hz) k
end
end WB
set_option Elab.async false
set_option linter.all false
set_option maxRecDepth 100000
set_option maxHeartbeats 2000000
/-! Words: rows of letters. -/
namespace W16
open PySem L2 PySem.Spec PyProof.Rows WR WB
def top (i : Nat) : Stmt := PySem.Challenge.pw_handlerims_k16_rims_turned_contrary_and.main.body.getD i (.Pass ⟨0, 0, 0, 0⟩)
abbrev sShr : Stmt := top 15
abbrev sRnd : Stmt := top 16
theorem gen_heap {P : Hp → Prop} {H : Hp} (h : ∀ H3, H3 = H → P H3) : P H := h H rfl
theorem yes_te {σ : L2.St} {H : Hp} {A B : Hp → Prop} (h : A H) : tYes σ H (fun b H3 => if b = true then A H3 else B H3) := by
  show (if (true : Bool) = true then A H else B H)
  exact iteT h
/-! ### a def that the module's name x holds, with its promise -/
structure Cal (P : Program) (w : World) (K : PySem.W.Frag) (mg : Str → Option Value) (base : Heap) (x : Str) (k : Nat) (ps : List Str) (sp : Sp) : Prop where
  ex : ∃ (f : Addr) (fd : FuncData), FnOk P w K mg base CX0 k f fd ps sp ∧ mg x = some (.ref f) ∧ PySem.W.keepIn K (.ref f) = true ∧ Binds K fd ps []
section
variable {X : Cx} {x : Str} {k j : Nat} {ps : List Str} {sp : Sp} {p pos : Pos} {e : Expr} {es : List Expr} {t : TA}
theorem pe_cal (C : Cal X.prog X.w X.K X.mg X.base x k ps sp) (hr : Room j X.A) (hkj : k ≤ j) (hg : Gl X x) (ha : PA X (e :: es) t) (hdb : (x == ("__debug__" : Str)) = false := by decide)
    (he : starEach (e :: es) X.env = (false, eval e X.env) :: starEach es X.env := by rfl) (hpl : (backTo pos (starEach es X.env)).any (·.1) = false := by rfl) :
    PE X (.Call (.Name x p) (e :: es) [] pos) (tCall sp [] E0 t) := by
  obtain ⟨f, fd, F, hm, hk, hb⟩ := C.ex
  exact pe_call F (hr.mono hkj) hg hm hk hb .nil pass0 ha hdb he hpl
end
/-! ### comprehensions that change nothing -/
theorem lc_in {wi : TI} {g : TG} {tt : TT} {te : TE} {vs : List Nat} {σ : L2.St} {H : Hp} {Q : VK} (h : wi σ H fun J H1 => tLc (fun _ H R => R J H) g tt te vs σ H1 Q) : tLc wi g tt te vs σ H Q := h
theorem lcp {J : It} {xs : List V} {G : Hp → Prop} (w : Walk J xs.length G (YAt xs)) {g : TG} {tt : TT} {te : TE} {vs : List Nat} {σ : L2.St} {H1 : Hp} {Q : VK} (f : V → Bool) (v : V → V) (hz : xs.length < 40000) (hG : ∀ H, Same H1 H → G H)
    (hs : ∀ x, x ∈ xs → ∀ H, Same H1 H → ∀ (Qy : V → Hp → Prop) (Qn : Hp → Prop), (f x = true → ∀ H', Same H H' → Qy (v x) H') → (f x = false → ∀ H', Same H H' → Qn H') →
      g x (wipe σ vs) H fun σ2 H2 => wipe σ2 vs = wipe σ vs ∧ tt σ2 H2 fun b H3 => if b = true then te σ2 H3 Qy else Qn H3)
    (hd : ∀ (D : Addr) H', H1 D = none → Same H1 H' → H' D = some (.lst ((xs.filter f).map v)) → Q (.ref D) H') : tLc (fun _ H R => R J H) g tt te vs σ H1 Q := by
  intro D hD
  refine lc_it w (fun i H => Same H1 H ∧ H D = some (.lst (((xs.take i).filter f).map v))) ⟨fun b o e => by rw [upd_ne (ne_of_none e hD)]; exact e, upd_same⟩ (fun i H _ q => hG H q.1) ?_ ?_
  · rintro i x H H' hi q ⟨rfl, hx⟩
    have hm : x ∈ xs := List.mem_of_getElem? hx
    have et : xs.take (i + 1) = xs.take i ++ [x] := by
      have hx2 : xs[i] = x := (List.getElem?_eq_some_iff.mp hx).2
      rw [List.take_succ_eq_append_getElem hi, hx2]
    refine hs x hm H' q.1 _ _ (fun hf H2 s2 => ⟨_, s2 _ _ q.2, ?_, ?_, ?_⟩) (fun hf H2 s2 => ⟨fun b o e => s2 b o (q.1 b o e), ?_⟩)
    · refine Evl.sz_lt ?_
      rw [List.length_map]
      have := List.length_filter_le f (xs.take i)
      rw [List.length_take] at this
      omega
    · intro b o e
      rw [upd_ne (ne_of_none e hD)]
      exact s2 b o (q.1 b o e)
    · rw [upd_same, et, List.filter_append, List.map_append, List.filter_cons, if_pos hf]
      rfl
    · rw [et, List.filter_append, List.filter_cons, if_neg (by rw [hf]; decide)]
      show H2 D = some (.lst (((xs.take i).filter f ++ []).map v))
      rw [List.append_nil]
      exact s2 _ _ q.2
  · intro H q
    have q2 := q.2
    rw [List.take_length] at q2
    exact hd D H hD q.1 q2
theorem iteT' {c : Bool} {A B : Prop} (hc : c = true) (h : A) : if c = true then A else B := by rw [if_pos hc]; exact h
abbrev iv (ns : List Int) : List V := ns.map V.int
def SqE (K : PySem.W.Frag) (H : Hp) (a : Addr) (xs : List V) : Prop := SqL K H a xs ∨ SqT K H a xs
theorem SqE.same {K : PySem.W.Frag} {H H' : Hp} {a : Addr} {xs : List V} (h : SqE K H a xs) (s : Same H H') : SqE K H' a xs := by
  rcases h with h | h
  · exact .inl (s.seq h)
  · exact .inr (WR.Same.seqT s h)
def SqW (K : PySem.W.Frag) (H : Hp) (a : Addr) (xs : List V) : Prop := SqL K H a xs ∨ SqB K H a xs
theorem SqW.same {K : PySem.W.Frag} {H H' : Hp} {a : Addr} {xs : List V} (h : SqW K H a xs) (s : Same H H') : SqW K H' a xs := by
  rcases h with h | h
  · exact .inl (s.seq h)
  · exact .inr (SqB.same s h)
theorem SqW.e {K : PySem.W.Frag} {H : Hp} {a : Addr} {xs : List V} (h : SqW K H a xs) : SqE K H a xs := h.imp id SqB.sq
def spShr (K : PySem.W.Frag) : Sp := fun vs H Q _ => ∃ (a : Addr) (ns : List Int), vs = [.ref a] ∧ SqE K H a (iv ns) ∧ ns.length ≤ 1000 ∧ NewB K H Q (iv (Fr.shr ns))
def spRnd (K : PySem.W.Frag) : Sp := fun vs H Q _ => ∃ (a : Addr) (ns : List Int), vs = [.ref a] ∧ SqE K H a (iv ns) ∧ ns.length ≤ 1000 ∧ Fr.NZ ns ∧ NewB K H Q (iv (Fr.rnd ns))
structure TxA (mg : Str → Option Value) : Prop where
  tuple : mg "tuple" = none
  len : mg "len" = none
section
variable {P : Program} {w : World} {K : PySem.W.Frag} {mg : Str → Option Value} {base : Heap}
theorem scShr : FnScope ["letters", "left", "letter"] ["letters"] (defScope sShr) := ⟨rfl, rfl, rfl, by decide +kernel, rfl, by decide +kernel, by decide +kernel⟩
theorem act_take {ns : List Int} {i : Nat} {x : Int} (h : ns[i]? = some x) : Fr.act [] (ns.take (i + 1)) = Fr.push (Fr.act [] (ns.take i)) x := by
  have hi : i < ns.length := (List.getElem?_eq_some_iff.mp h).1
  have hx : ns[i] = x := (List.getElem?_eq_some_iff.mp h).2
  rw [List.take_succ_eq_append_getElem hi, hx, Fr.act_snoc]
theorem act_len : ∀ (ns s : List Int), (Fr.act s ns).length ≤ s.length + ns.length
  | [], s => by simp [Fr.act]
  | a :: t, s => by
    rw [Fr.act_cons]
    have h1 := act_len t (Fr.push s a)
    have h2 : (Fr.push s a).length ≤ s.length + 1 := by
      cases s with
      | nil => simp [Fr.push]
      | cons b u =>
        show (if b = -a then u else a :: b :: u).length ≤ _
        split <;> simp <;> omega
    simp only [List.length_cons]
    omega
theorem shr_len (ns : List Int) : (Fr.shr ns).length ≤ ns.length := by
  unfold Fr.shr
  rw [List.length_reverse]
  simpa using act_len ns []
theorem ok_shr {f : Addr} {fd : FuncData} (F : Fun K "shortened_letters" "shortened_letters" sShr f fd) (T : TxA mg) : FnOk P w K mg base CX0 1 f fd ["letters"] (spShr K) := by
  refine F.ok scShr (fun vs H Q E h => ?_) (fun cdv A outer s H vs Q E hr h => ?_)
  · obtain ⟨a, ns, rfl, _⟩ := h
    rfl
  · obtain ⟨a, ns, rfl, hS, hlen, k⟩ := h
    rcases hS with hS | hS
    · refine ⟨_, pss_cons (ps_set (i := 1) scShr.nd rfl (Or.inl rfl) (pe_lst pa_nil))
        (pss_cons (ps_for PassesOwn.never rfl (pi_list (pv 0)) (pg_name (i := 2) scShr.nd rfl (Or.inl rfl))
          (pss_one (ps_if (PW.pt (pw_and (pt_truth (pv 1) (by intro _; rfl)) (pw_and1 (pt_cmpR op_eq (pe_ix ix_list (pv 1) (pe_un un_neg pe_int) (fun _ _ => rfl)) (pe_un un_neg (pv 2)) (nomark _)))))
            (pss_one (ps_expr (pe_bm0 PySem.F.plainAttrs_list PySem.F.slot_list_pop PySem.F.type_list_pop mt_pop (pv 1))))
            (pss_one (ps_expr (pe_bm PySem.F.plainAttrs_list PySem.F.slot_list_append PySem.F.type_list_append mt_append (pv 1) (pa_cons (pv 2) pa_nil)))))))
        (pss_one (ps_ret (pe_callTy call_tupB (by rfl) T.tuple (by decide +kernel) (pa_cons (pv 1) pa_nil))))), ?_⟩
      refine ⟨Nat.zero_le _, fun l hl => ?_⟩
      refine ⟨_, rfl, a, rfl, ⟨_, (by have s := same_upd (o := HO.lst []) hl; exact (s.seq hS))⟩, for_list (K := K) (a := a) (xs := iv ns) (fun i σ H1 => ∃ v, σ = [some (.ref a), some (.ref l), v] ∧ Same H H1 ∧ H1 l = some (.lst (iv (Fr.act [] (ns.take i)).reverse)))
        ⟨none, rfl, same_upd hl, by rw [upd_same]; rfl⟩ (fun i σ H1 _ ⟨_, _, s, _⟩ => (s.seq hS)) ?_ ?_⟩
      · rintro i y σ H1 hi ⟨v, rfl, sm, hL⟩
        obtain ⟨x, hx, rfl⟩ : ∃ x, ns[i]? = some x ∧ y = V.int x := by
          rw [List.getElem?_map] at hi
          cases e : ns[i]? with
          | none => rw [e] at hi; cases hi
          | some x => rw [e] at hi; exact ⟨x, rfl, (Option.some.inj hi).symm⟩
        have hi2 : i < ns.length := (List.getElem?_eq_some_iff.mp hx).1
        have nx := act_take hx
        have hsz : (Fr.act [] (ns.take i)).length ≤ 1000 := by
          have := act_len (ns.take i) []
          rw [List.length_take] at this
          simp at this
          omega
        have put : ∀ xs, Same H (L2.upd H1 l (.lst xs)) := fun xs b o e => by
          rw [upd_ne (ne_of_none e hl)]
          exact sm b o e
        refine ⟨_, rfl, _, .inl ⟨_, SqL.of hL, rfl⟩, ?_⟩
        cases est : Fr.act [] (ns.take i) with
        | nil =>
          rw [est] at hL nx
          refine iteF ?_
          refine iteF ?_
          refine ⟨_, rfl, .inl ⟨rfl, _, SqL.of hL⟩, _, rfl, l, _, _, rfl, rfl, hL, Evl.sz_lt (by simp), ?_⟩
          refine ⟨_, rfl, put _, ?_⟩
          rw [upd_same, nx]
          rfl
        | cons b t =>
          rw [est] at hL nx hsz
          have eL : iv (b :: t).reverse = iv t.reverse ++ [V.int b] := by simp [iv]
          refine iteT' (by simp [iv]) ?_
          refine ⟨_, rfl, _, rfl, l, _, _, _, rfl, rfl, SqL.of hL, (by rw [eL]; exact atI_last _ _), _, rfl, x, rfl, rfl, _, rfl, ?_⟩
          refine ite2 (fun hb => ?_) (fun hb => ?_)
          · have eb : b = -x := by
              have := of_decide_eq_true hb
              injection this
            refine ⟨_, rfl, .inl ⟨rfl, _, SqL.of hL⟩, l, _, V.int b, rfl, rfl, hL, (by rw [eL]; simp), ?_⟩
            refine ⟨_, rfl, put _, ?_⟩
            rw [upd_same, nx]
            have : Fr.push (b :: t) x = t := by simp [Fr.push, eb]
            rw [this, eL, List.dropLast_concat]
          · have eb : ¬ b = -x := fun e => hb (decide_eq_true (by rw [e]))
            refine ⟨_, rfl, .inl ⟨rfl, _, SqL.of hL⟩, _, rfl, l, _, _, rfl, rfl, hL, Evl.sz_lt (by simp [iv] at hsz ⊢; omega), ?_⟩
            refine ⟨_, rfl, put _, ?_⟩
            rw [upd_same, nx]
            have : Fr.push (b :: t) x = x :: b :: t := by simp [Fr.push, eb]
            rw [this]
            simp [iv]
      · rintro σ H1 ⟨v, rfl, sm, hL⟩
        rw [List.take_of_length_le (by simp)] at hL
        exact ⟨_, rfl, l, _, rfl, .inl ⟨SqL.of hL, fun p H3 s3 b3 => k p H3 (sm.trans s3) b3⟩⟩
    · refine ⟨_, pss_cons (ps_set (i := 1) scShr.nd rfl (Or.inl rfl) (pe_lst pa_nil))
        (pss_cons (ps_for PassesOwn.never rfl (pi_tup (pv 0)) (pg_name (i := 2) scShr.nd rfl (Or.inl rfl))
          (pss_one (ps_if (PW.pt (pw_and (pt_truth (pv 1) (by intro _; rfl)) (pw_and1 (pt_cmpR op_eq (pe_ix ix_list (pv 1) (pe_un un_neg pe_int) (fun _ _ => rfl)) (pe_un un_neg (pv 2)) (nomark _)))))
            (pss_one (ps_expr (pe_bm0 PySem.F.plainAttrs_list PySem.F.slot_list_pop PySem.F.type_list_pop mt_pop (pv 1))))
            (pss_one (ps_expr (pe_bm PySem.F.plainAttrs_list PySem.F.slot_list_append PySem.F.type_list_append mt_append (pv 1) (pa_cons (pv 2) pa_nil)))))))
        (pss_one (ps_ret (pe_callTy call_tupB (by rfl) T.tuple (by decide +kernel) (pa_cons (pv 1) pa_nil))))), ?_⟩
      refine ⟨Nat.zero_le _, fun l hl => ?_⟩
      refine ⟨_, rfl, a, rfl, ⟨_, (by have s := same_upd (o := HO.lst []) hl; exact (WR.Same.seqT s hS))⟩, for_tup (K := K) (a := a) (xs := iv ns) (fun i σ H1 => ∃ v, σ = [some (.ref a), some (.ref l), v] ∧ Same H H1 ∧ H1 l = some (.lst (iv (Fr.act [] (ns.take i)).reverse)))
        ⟨none, rfl, same_upd hl, by rw [upd_same]; rfl⟩ (fun i σ H1 _ ⟨_, _, s, _⟩ => (WR.Same.seqT s hS)) ?_ ?_⟩
      · rintro i y σ H1 hi ⟨v, rfl, sm, hL⟩
        obtain ⟨x, hx, rfl⟩ : ∃ x, ns[i]? = some x ∧ y = V.int x := by
          rw [List.getElem?_map] at hi
          cases e : ns[i]? with
          | none => rw [e] at hi; cases hi
          | some x => rw [e] at hi; exact ⟨x, rfl, (Option.some.inj hi).symm⟩
        have hi2 : i < ns.length := (List.getElem?_eq_some_iff.mp hx).1
        have nx := act_take hx
        have hsz : (Fr.act [] (ns.take i)).length ≤ 1000 := by
          have := act_len (ns.take i) []
          rw [List.length_take] at this
          simp at this
          omega
        have put : ∀ xs, Same H (L2.upd H1 l (.lst xs)) := fun xs b o e => by
          rw [upd_ne (ne_of_none e hl)]
          exact sm b o e
        refine ⟨_, rfl, _, .inl ⟨_, SqL.of hL, rfl⟩, ?_⟩
        cases est : Fr.act [] (ns.take i) with
        | nil =>
          rw [est] at hL nx
          refine iteF ?_
          refine iteF ?_
          refine ⟨_, rfl, .inl ⟨rfl, _, SqL.of hL⟩, _, rfl, l, _, _, rfl, rfl, hL, Evl.sz_lt (by simp), ?_⟩
          refine ⟨_, rfl, put _, ?_⟩
          rw [upd_same, nx]
          rfl
        | cons b t =>
          rw [est] at hL nx hsz
          have eL : iv (b :: t).reverse = iv t.reverse ++ [V.int b] := by simp [iv]
          refine iteT' (by simp [iv]) ?_
          refine ⟨_, rfl, _, rfl, l, _, _, _, rfl, rfl, SqL.of hL, (by rw [eL]; exact atI_last _ _), _, rfl, x, rfl, rfl, _, rfl, ?_⟩
          refine ite2 (fun hb => ?_) (fun hb => ?_)
          · have eb : b = -x := by
              have := of_decide_eq_true hb
              injection this
            refine ⟨_, rfl, .inl ⟨rfl, _, SqL.of hL⟩, l, _, V.int b, rfl, rfl, hL, (by rw [eL]; simp), ?_⟩
            refine ⟨_, rfl, put _, ?_⟩
            rw [upd_same, nx]
            have : Fr.push (b :: t) x = t := by simp [Fr.push, eb]
            rw [this, eL, List.dropLast_concat]
          · have eb : ¬ b = -x := fun e => hb (decide_eq_true (by rw [e]))
            refine ⟨_, rfl, .inl ⟨rfl, _, SqL.of hL⟩, _, rfl, l, _, _, rfl, rfl, hL, Evl.sz_lt (by simp [iv] at hsz ⊢; omega), ?_⟩
            refine ⟨_, rfl, put _, ?_⟩
            rw [upd_same, nx]
            have : Fr.push (b :: t) x = x :: b :: t := by simp [Fr.push, eb]
            rw [this]
            simp [iv]
      · rintro σ H1 ⟨v, rfl, sm, hL⟩
        rw [List.take_of_length_le (by simp)] at hL
        exact ⟨_, rfl, l, _, rfl, .inl ⟨SqL.of hL, fun p H3 s3 b3 => k p H3 (sm.trans s3) b3⟩⟩
end
end W16
set_option Elab.async false
set_option linter.all false
set_option maxRecDepth 100000
set_option maxHeartbeats 2000000
namespace W16
open PySem L2 PySem.Spec PyProof.Rows WR WB
section
variable {P : Program} {w : World} {K : PySem.W.Frag} {mg : Str → Option Value} {base : Heap}
theorem iteF' {c : Bool} {A B : Prop} (hc : c = false) (h : B) : if c = true then A else B := by rw [if_neg (by rw [hc]; exact Bool.false_ne_true)]; exact h
theorem iv_get {ns : List Int} {i : Nat} {x : Int} (h : ns[i]? = some x) : (iv ns)[i]? = some (V.int x) := by
  rw [List.getElem?_map, h]
  rfl
theorem con_get {u : List Int} {j : Nat} (h : j < u.length) : (Fr.con u)[u.length - 1 - j]? = some (-u[j]) := by
  unfold Fr.con
  rw [List.getElem?_map, List.getElem?_reverse (by omega)]
  have e : u.length - 1 - (u.length - 1 - j) = j := by omega
  rw [e, List.getElem?_eq_getElem h]
  rfl
theorem whole_len (u w : List Int) : (u ++ w ++ Fr.con u).length = 2 * u.length + w.length := by
  rw [List.length_append, List.length_append, Fr.con_length]
  omega
theorem whole_lo {u w : List Int} {j : Nat} (h : j < u.length) : (u ++ w ++ Fr.con u)[j]? = some u[j] := by
  rw [List.append_assoc, List.getElem?_append_left h, List.getElem?_eq_getElem h]
theorem whole_hi {u w : List Int} {j : Nat} (h : j < u.length) : (u ++ w ++ Fr.con u)[2 * u.length + w.length - 1 - j]? = some (-u[j]) := by
  rw [List.getElem?_append_right (by rw [List.length_append]; omega), List.length_append]
  have e : 2 * u.length + w.length - 1 - j - (u.length + w.length) = u.length - 1 - j := by omega
  rw [e, con_get h]
theorem mid_lo {u w : List Int} (hw : w ≠ []) : (u ++ w ++ Fr.con u)[u.length]? = w.head? := by
  have : 0 < w.length := List.length_pos_iff.mpr hw
  rw [List.append_assoc, List.getElem?_append_right (Nat.le_refl _), Nat.sub_self, List.getElem?_append_left this, List.head?_eq_getElem?]
theorem mid_hi {u w : List Int} (hw : w ≠ []) : (u ++ w ++ Fr.con u)[2 * u.length + w.length - 1 - u.length]? = w.getLast? := by
  have : 0 < w.length := List.length_pos_iff.mpr hw
  rw [List.append_assoc, List.getElem?_append_right (by omega)]
  have e : 2 * u.length + w.length - 1 - u.length - u.length = w.length - 1 := by omega
  rw [e, List.getElem?_append_left (by omega), List.getLast?_eq_getElem?]
theorem whole_cut (u w : List Int) : ((u ++ w ++ Fr.con u).drop u.length).take w.length = w := by
  rw [List.append_assoc, List.drop_left, List.take_left]
theorem scRnd : FnScope ["letters", "left", "skipped"] ["letters"] (defScope sRnd) := ⟨rfl, rfl, rfl, by decide +kernel, rfl, by decide +kernel, by decide +kernel⟩
theorem cut_nat {xs : List V} {i j : Nat} (hi : i ≤ xs.length) (hj : j ≤ xs.length) : cutV xs (some (i : Int)) (some (j : Int)) = (xs.drop i).take (j - i) := by
  unfold cutV
  rw [HT.sIx_nat, HT.sIx_nat, Nat.min_eq_left hi, Nat.min_eq_left hj]
theorem ok_rnd {f : Addr} {fd : FuncData} (F : Fun K "rounded_letters" "rounded_letters" sRnd f fd) (GS : Cal P w K mg base "shortened_letters" 1 ["letters"] (spShr K)) (T : TxA mg) : FnOk P w K mg base CX0 2 f fd ["letters"] (spRnd K) := by
  refine F.ok scRnd (fun vs H Q E h => ?_) (fun cdv A outer s H vs Q E hr h => ?_)
  · obtain ⟨a, ns, rfl, _⟩ := h
    rfl
  · obtain ⟨a, ns, rfl, hS, hlen, nz, k⟩ := h
    refine ⟨_, pss_cons (ps_set (i := 1) scRnd.nd rfl (Or.inl rfl) (pe_cal GS hr (by decide) (by rfl) (pa_cons (pv 0) pa_nil)))
      (pss_cons (ps_set (i := 2) scRnd.nd rfl (Or.inl rfl) pe_int)
      (pss_cons (ps_while PassesOwn.never (PW.pt (pw_and (pt_cmpR op_lt (pe_op op_mul pe_int (pv 2)) (pe_callB call_len_seq (by rfl) T.len PySem.boot_len (pa_cons (pv 1) pa_nil)) (nomark _))
          (pw_and1 (pt_cmpR op_eq (pe_ix ix_tup (pv 1) (pv 2) (fun _ _ => rfl)) (pe_un un_neg (pe_ix ix_tup (pv 1) (pe_op op_sub (pe_op op_sub (pe_callB call_len_seq (by rfl) T.len PySem.boot_len (pa_cons (pv 1) pa_nil)) pe_int) (pv 2)) (fun _ _ => rfl))) (nomark _)))))
        (pss_one (ps_aug (i := 2) scRnd.nd rfl (Or.inl rfl) pe_int ip_add)))
      (pss_one (ps_ret (pe_slice sl_tupB (pv 1) (po_some (pv 2)) (po_some (pe_op op_sub (pe_callB call_len_seq (by rfl) T.len PySem.boot_len (pa_cons (pv 1) pa_nil)) (pv 2)))))))), ?_⟩
    refine ⟨_, rfl, a, ns, rfl, hS, hlen, fun p H1 sm hPB => ?_⟩
    obtain ⟨u, m, e, c, z⟩ := Fr.parted (Fr.shr ns) nz.shr (Fr.rd_shr ns)
    have er : Fr.rnd ns = m := by
      unfold Fr.rnd
      rw [e, Fr.ends_eq c z]
    rw [er] at k
    have hl := shr_len ns
    rw [e] at hPB hl
    have hP := hPB.sq
    rw [whole_len] at hl
    have L : (iv (u ++ m ++ Fr.con u)).length = 2 * u.length + m.length := by rw [List.length_map, whole_len]
    refine ⟨fun n σ H' => ∃ j, n = u.length - j ∧ j ≤ u.length ∧ σ = [some (.ref a), some (.ref p), some (.int ((j : Nat) : Int))] ∧ H' = H1, ⟨_, 0, rfl, Nat.zero_le _, rfl, rfl⟩, ?_⟩
    rintro n σ H' ⟨j, rfl, hj, rfl, rfl⟩
    refine ⟨_, rfl, _, _, rfl, rfl, .inl ⟨by decide, by decide⟩, _, rfl, p, _, rfl, .inr hP, _, _, rfl, rfl, _, rfl, ?_⟩
    have hback : ((iv (u ++ m ++ Fr.con u)).length : Int) - 1 - (j : Int) = ((2 * u.length + m.length - 1 - j : Nat) : Int) ∨ 2 * u.length + m.length = 0 := by
      rw [L]
      by_cases h0 : 2 * u.length + m.length = 0
      · exact .inr h0
      · left; omega
    by_cases hlt : j < u.length
    · refine iteT' (decide_eq_true (by rw [L]; omega)) ?_
      have hb := hback.resolve_right (by omega)
      refine ⟨_, rfl, _, rfl, p, _, _, _, rfl, rfl, hP, atI_nat (iv_get (whole_lo hlt)), ?_⟩
      refine ⟨_, rfl, _, rfl, p, _, rfl, .inr hP, _, _, rfl, rfl, _, rfl, _, _, rfl, rfl, p, _, _, _, rfl, rfl, hP, (by rw [hb]; exact atI_nat (iv_get (whole_hi hlt))), _, rfl, rfl, _, rfl, ?_⟩
      refine iteT' (decide_eq_true (by show V.int _ = V.int (- -_); rw [Int.neg_neg])) ?_
      refine ⟨fun σ' H'' => ∃ j', u.length - (j + 1) = u.length - j' ∧ j' ≤ u.length ∧ σ' = [some (.ref a), some (.ref p), some (.int ((j' : Nat) : Int))] ∧ H'' = H', fun σ' H'' ⟨j', q1, q2, q3, q4⟩ => ⟨_, by omega, j', q1, q2, q3, q4⟩, ?_⟩
      refine ⟨_, rfl, _, _, rfl, rfl, ?_⟩
      exact ⟨j + 1, rfl, hlt, by rfl, rfl⟩
    · have hj2 : j = u.length := by omega
      subst hj2
      have fin : NewB K H' Q (cutV (iv (u ++ m ++ Fr.con u)) (some ((u.length : Nat) : Int)) (some (((iv (u ++ m ++ Fr.con u)).length : Int) - ((u.length : Nat) : Int)))) := by
        have e1 : ((iv (u ++ m ++ Fr.con u)).length : Int) - ((u.length : Nat) : Int) = ((u.length + m.length : Nat) : Int) := by rw [L]; omega
        rw [e1, cut_nat (by rw [L]; omega) (by rw [L]; omega)]
        have e2 : u.length + m.length - u.length = m.length := by omega
        rw [e2]
        have e3 : ((iv (u ++ m ++ Fr.con u)).drop u.length).take m.length = iv m := by
          rw [← List.map_drop, ← List.map_take, whole_cut]
        rw [e3]
        exact fun q H2 s2 h2 => k q H2 (sm.trans s2) h2
      by_cases hm : m = []
      · have hu := z hm
        refine iteF' (decide_eq_false (by rw [L, hm, hu]; simp)) ?_
        refine iteF ?_
        exact ⟨_, rfl, _, rfl, _, rfl, _, rfl, p, _, rfl, .inr hP, _, rfl, _, _, rfl, rfl, _, rfl, p, _, rfl, hPB, fin⟩
      · refine iteT' (decide_eq_true (by have := List.length_pos_iff.mpr hm; rw [L]; omega)) ?_
        have hb := hback.resolve_right (by have := List.length_pos_iff.mpr hm; omega)
        obtain ⟨x, hx⟩ : ∃ x, m.head? = some x := by
          cases m with
          | nil => exact absurd rfl hm
          | cons x t => exact ⟨x, rfl⟩
        obtain ⟨y, hy⟩ : ∃ y, m.getLast? = some y := ⟨_, List.getLast?_eq_some_getLast hm⟩
        have lo := (mid_lo (u := u) hm).trans hx
        have hi := (mid_hi (u := u) hm).trans hy
        refine ⟨_, rfl, _, rfl, p, _, _, _, rfl, rfl, hP, atI_nat (iv_get lo), ?_⟩
        refine ⟨_, rfl, _, rfl, p, _, rfl, .inr hP, _, _, rfl, rfl, _, rfl, _, _, rfl, rfl, p, _, _, _, rfl, rfl, hP, (by rw [hb]; exact atI_nat (iv_get hi)), _, rfl, rfl, _, rfl, ?_⟩
        refine iteF' (decide_eq_false fun q => ?_) ?_
        · have q2 : V.int x = V.int (-y) := q
          injection q2 with q3
          exact c.2 x y hx hy q3
        exact ⟨_, rfl, _, rfl, _, rfl, _, rfl, p, _, rfl, .inr hP, _, rfl, _, _, rfl, rfl, _, rfl, p, _, rfl, hPB, fin⟩
end
end W16
set_option Elab.async false
set_option linter.all false
set_option maxRecDepth 100000
set_option maxHeartbeats 2000000
namespace W16
open PySem L2 PySem.Spec PyProof.Rows WR WS WR WB
abbrev sKinds : Stmt := top 18
theorem pigeon : ∀ (m : Nat) (L : List Int), L.Nodup → (∀ k ∈ L, 1 ≤ k ∧ k ≤ (m : Int)) → L.length ≤ m
  | 0, L, _, h => by
    cases L with
    | nil => simp
    | cons a t =>
      have := h a (by simp)
      omega
  | m + 1, L, nd, h => by
    by_cases hm : ((m + 1 : Nat) : Int) ∈ L
    · have ih := pigeon m (L.erase ((m + 1 : Nat) : Int)) (nd.erase _) fun k hk => by
        have h1 := (nd.mem_erase_iff).mp hk
        have h2 := h k h1.2
        have h3 := h1.1
        omega
      rw [List.length_erase_of_mem hm] at ih
      omega
    · have ih := pigeon m L nd fun k hk => by
        have h2 := h k hk
        have : k ≠ ((m + 1 : Nat) : Int) := fun e => hm (e ▸ hk)
        omega
      omega
theorem sci {w : World} {J : It} {xs : List V} {G : Hp → Prop} (wk : Walk J xs.length G (YAt xs)) {g : TG} {tt : TT} {te : TE} {vs : List Nat} {σ : L2.St} {H1 : Hp} {Q : VK} (v : V → Int)
    (hv : ∀ x ∈ xs, 1 ≤ v x ∧ v x ≤ 26) (hG : ∀ H, Same H1 H → G H)
    (hs : ∀ x, x ∈ xs → ∀ H, Same H1 H → ∀ (Qy : V → Hp → Prop) (Qn : Hp → Prop), Qy (.int (v x)) H →
      g x (wipe σ vs) H fun σ2 H2 => wipe σ2 vs = wipe σ vs ∧ tt σ2 H2 fun b H3 => if b = true then te σ2 H3 Qy else Qn H3)
    (hd : ∀ (D : Addr) (S : Int → Bool) (n : Nat) H', H1 D = none → Same H1 H' → H' D = some (SetO w D S n) → n ≤ 26 → (∀ k, S k = true ↔ ∃ x ∈ xs, k = v x) → Q (.ref D) H') : tSetI w (fun _ H R => R J H) g tt te vs σ H1 Q := by
  intro D hD
  refine ⟨fun i m H => m = xs.length - i ∧ i ≤ xs.length ∧ Same H1 H ∧ ∃ (S : Int → Bool) (L : List Int), H D = some (SetO w D S L.length) ∧ L.Nodup ∧ (∀ k, S k = true ↔ k ∈ L) ∧ ∀ k, k ∈ L ↔ ∃ x ∈ xs.take i, k = v x, ?_, ?_⟩
  · refine ⟨_, rfl, Nat.zero_le _, same_upd hD, fun _ => false, [], by rw [upd_same]; rfl, List.nodup_nil, fun k => by simp, fun k => by simp⟩
  · rintro i m H ⟨rfl, hi, sm, S, L, hS, nd, hL, hm⟩
    have bound : L.length ≤ 26 := pigeon 26 L nd fun k hk => by
      obtain ⟨x, hx, e⟩ := (hm k).mp hk
      have := hv x (List.mem_of_mem_take hx)
      omega
    by_cases hlt : i < xs.length
    · right
      refine ⟨wk.goes i H hlt (hG H sm), fun H' => Same H1 H' ∧ ∃ (S : Int → Bool) (L : List Int), H' D = some (SetO w D S L.length) ∧ L.Nodup ∧ (∀ k, S k = true ↔ k ∈ L) ∧ ∀ k, k ∈ L ↔ ∃ x ∈ xs.take (i + 1), k = v x, ?_, ?_⟩
      · rintro H' ⟨s2, q⟩
        exact ⟨xs.length - (i + 1), by omega, rfl, hlt, s2, q⟩
      · intro x H' hy
        obtain ⟨rfl, hx⟩ := wk.yields i H x H' hlt (hG H sm) hy
        have hmem : x ∈ xs := List.mem_of_getElem? hx
        have et : xs.take (i + 1) = xs.take i ++ [x] := by
          have hx2 : xs[i] = x := (List.getElem?_eq_some_iff.mp hx).2
          rw [List.take_succ_eq_append_getElem hlt, hx2]
        refine hs x hmem H' sm _ _ ?_
        refine ⟨D, v x, S, L.length, rfl, rfl, hS, ?_, ?_⟩
        · have : scanBound = 40000 ∨ 64 < scanBound := by right; decide
          have h64 : 64 < scanBound := by decide
          omega
        refine ⟨fun b o e => by rw [upd_ne (ne_of_none e hD)]; exact sm b o e, fun j => S j || decide (j = v x), if S (v x) = true then L else v x :: L, ?_, ?_, ?_, ?_⟩
        · rw [upd_same]
          by_cases c : S (v x) = true
          · rw [if_pos c, if_pos c]
          · rw [if_neg c, if_neg c]; rfl
        · by_cases c : S (v x) = true
          · rw [if_pos c]; exact nd
          · rw [if_neg c]
            exact List.nodup_cons.mpr ⟨fun h => c ((hL _).mpr h), nd⟩
        · intro k
          rw [Bool.or_eq_true, decide_eq_true_eq]
          by_cases c : S (v x) = true
          · rw [if_pos c, ← hL]
            constructor
            · rintro (h | rfl)
              · exact h
              · exact c
            · exact .inl
          · rw [if_neg c, List.mem_cons, ← hL]
            exact or_comm
        · intro k
          have e : (k ∈ if S (v x) = true then L else v x :: L) ↔ (k = v x ∨ k ∈ L) := by
            by_cases c : S (v x) = true
            · rw [if_pos c]
              constructor
              · exact .inr
              · rintro (rfl | h)
                · exact (hL _).mp c
                · exact h
            · rw [if_neg c, List.mem_cons]
          rw [e, hm, et]
          constructor
          · rintro (rfl | ⟨y, hy, rfl⟩)
            · exact ⟨x, by simp, rfl⟩
            · exact ⟨y, by simp [hy], rfl⟩
          · rintro ⟨y, hy, rfl⟩
            rw [List.mem_append, List.mem_singleton] at hy
            rcases hy with hy | rfl
            · exact .inr ⟨y, hy, rfl⟩
            · exact .inl rfl
    · left
      have hi2 : i = xs.length := by omega
      subst hi2
      rw [List.take_length] at hm
      exact ⟨wk.stops H (hG H sm), hd D S L.length H hD sm hS bound fun k => (hL k).trans (hm k)⟩
def kindsOk (ns ks : List Int) : Prop := ks.Pairwise (· < ·) ∧ ∀ k : Int, k ∈ ks ↔ ∃ x ∈ ns, k = (x.natAbs : Int)
/-- every letter of a kind from 1 to 26 -/
def Lts (ns : List Int) : Prop := ∀ x ∈ ns, 1 ≤ x.natAbs ∧ x.natAbs ≤ 26
def spKinds (K : PySem.W.Frag) : Sp := fun vs H Q _ => ∃ (a : Addr) (ns : List Int), vs = [.ref a] ∧ SqE K H a (iv ns) ∧ ns.length ≤ 1000 ∧ Lts ns ∧ ∀ ks, kindsOk ns ks → NewT K H Q (iv ks)
structure TxB (mg : Str → Option Value) : Prop where
  sorted : mg "sorted" = none
  abs : mg "abs" = none
section
variable {P : Program} {w : World} {K : PySem.W.Frag} {mg : Str → Option Value} {base : Heap}
theorem scKinds : FnScope ["letters", "letter"] ["letters"] (defScope sKinds) := ⟨rfl, rfl, rfl, by decide +kernel, rfl, by decide +kernel, by decide +kernel⟩
theorem ok_kinds {f : Addr} {fd : FuncData} (F : Fun K "kinds_of" "kinds_of" sKinds f fd) (T : TxA mg) (T2 : TxB mg) : FnOk P w K mg base CX0 1 f fd ["letters"] (spKinds K) := by
  refine F.ok scKinds (fun vs H Q E h => ?_) (fun cdv A outer s H vs Q E hr h => ?_)
  · obtain ⟨a, ns, rfl, _⟩ := h
    rfl
  · obtain ⟨a, ns, rfl, hS, hlen, hk, k⟩ := h
    have fin : ∀ (D : Addr) (S : Int → Bool) (n : Nat) H', H D = none → Same H H' → H' D = some (SetO w D S n) → n ≤ 26 → (∀ k, S k = true ↔ ∃ x ∈ iv ns, k = (match x with | .int i => (i.natAbs : Int) | _ => 0)) →
        rSortedSet w [.ref D] H' fun x H2 => ∃ p ys, [x] = [V.ref p] ∧ ((SqL K H2 p ys ∧ ∀ l, H2 l = none → Q (.ref l) (L2.upd H2 l (.tup ys))) ∨ (SqT K H2 p ys ∧ Q (.ref p) H2)) := by
      intro D S n H' hD sm hS hn hm
      refine ⟨D, S, n, rfl, hS, by omega, fun ks p up mem _ hp => ?_⟩
      refine ⟨p, _, rfl, .inl ⟨SqL.of upd_same, fun l hl => ?_⟩⟩
      refine k ks ⟨up, fun j => ?_⟩ l _ ((sm.trans (same_upd hp)).trans (same_upd hl)) (SqT.of upd_same)
      rw [mem, hm]
      constructor
      · rintro ⟨x, hx, e⟩
        obtain ⟨i, hi, rfl⟩ := List.mem_map.mp hx
        exact ⟨i, hi, e⟩
      · rintro ⟨i, hi, e⟩
        exact ⟨_, List.mem_map_of_mem hi, e⟩
    have turn : ∀ x, x ∈ iv ns → ∀ H2, Same H H2 → ∀ (Qy : V → Hp → Prop) (Qn : Hp → Prop), Qy (.int (match x with | .int i => (i.natAbs : Int) | _ => 0)) H2 →
        gName 1 x (wipe [some (.ref a), none] [1]) H2 fun σ2 H2 => wipe σ2 [1] = wipe [some (.ref a), none] [1] ∧ tYes σ2 H2 fun b H3 => if b = true then tCB (fun xs H Q => ∃ i, xs = [.int i] ∧ Q (.int (if i < 0 then -i else i)) H) (tCons (tVar 1) tNil) σ2 H3 Qy else Qn H3 := by
      intro x hx H2 s2 Qy Qn ky
      obtain ⟨i, hi, rfl⟩ := List.mem_map.mp hx
      refine ⟨rfl, yes_te ⟨_, rfl, i, rfl, ?_⟩⟩
      have e : (if i < 0 then -i else i) = (i.natAbs : Int) := by split <;> omega
      rw [e]
      exact ky
    have bd : ∀ x ∈ iv ns, 1 ≤ (match x with | .int i => (i.natAbs : Int) | _ => 0) ∧ (match x with | .int i => (i.natAbs : Int) | _ => 0) ≤ 26 := by
      intro x hx
      obtain ⟨i, hi, rfl⟩ := List.mem_map.mp hx
      have := hk i hi
      show 1 ≤ (i.natAbs : Int) ∧ (i.natAbs : Int) ≤ 26
      omega
    rcases hS with hS | hS
    · refine ⟨_, pss_one (ps_ret (pe_callTy call_tuple_of (by rfl) T.tuple (by decide +kernel) (pa_cons (pe_callB (cr_sortedSet rfl) (by rfl) T2.sorted (by decide +kernel) (pa_cons (pe_setI (own := [("letter", 1)]) (g := gName 1) (tt := tYes) rfl scKinds.nd (pi_list (pv 0))
        (blkOk_by (N := ["letters", "letter"]) (sc := defScope sKinds) (by decide +kernel)) (fun _ _ _ _ _ => pg_name (i := 1) scKinds.nd rfl (Or.inl rfl)) (fun _ _ _ _ _ => pts_nil)
        (fun _ _ _ _ _ => pe_callB call_abs (by rfl) T2.abs (by decide +kernel) (pa_cons (pv 1) pa_nil))) pa_nil)) pa_nil))), ?_⟩
      refine ⟨_, rfl, a, rfl, ⟨_, hS⟩, ?_⟩
      exact sci (walk_list (xs := iv ns)) _ bd (fun H2 s2 => s2.seq hS) turn fin
    · refine ⟨_, pss_one (ps_ret (pe_callTy call_tuple_of (by rfl) T.tuple (by decide +kernel) (pa_cons (pe_callB (cr_sortedSet rfl) (by rfl) T2.sorted (by decide +kernel) (pa_cons (pe_setI (own := [("letter", 1)]) (g := gName 1) (tt := tYes) rfl scKinds.nd (pi_tup (pv 0))
        (blkOk_by (N := ["letters", "letter"]) (sc := defScope sKinds) (by decide +kernel)) (fun _ _ _ _ _ => pg_name (i := 1) scKinds.nd rfl (Or.inl rfl)) (fun _ _ _ _ _ => pts_nil)
        (fun _ _ _ _ _ => pe_callB call_abs (by rfl) T2.abs (by decide +kernel) (pa_cons (pv 1) pa_nil))) pa_nil)) pa_nil))), ?_⟩
      refine ⟨_, rfl, a, rfl, ⟨_, hS⟩, ?_⟩
      exact sci (walk_tup (xs := iv ns)) _ bd (fun H2 s2 => WR.Same.seqT s2 hS) turn fin
end
end W16
set_option Elab.async false
set_option linter.all false
set_option maxRecDepth 100000
set_option maxHeartbeats 2000000
namespace W16
open PySem L2 PySem.Spec PyProof.Rows WR WB
abbrev sIsInt : Stmt := top 23
abbrev sWithin : Stmt := top 24
abbrev sLetter : Stmt := top 25
abbrev sListed : Stmt := top 26
abbrev sFew : Stmt := top 44
/-! ### values and their classes -/
inductive Typ (H : Hp) : V → String → Prop
  | int (i : Int) : Typ H (.int i) "int"
  | bl (b : Bool) : Typ H (.bl b) "bool"
  | str (z : Str) : Typ H (.str z) "str"
  | non : Typ H .non "NoneType"
  | lst {p : Addr} {xs : List V} (e : H p = some (.lst xs)) : Typ H (.ref p) "list"
  | tup {p : Addr} {xs : List V} (e : H p = some (.tup xs)) : Typ H (.ref p) "tuple"
  | dct {p : Addr} {kvs : List (Key × V)} (e : H p = some (.dK kvs)) : Typ H (.ref p) "dict"
def isI : V → Bool
  | .int _ => true
  | _ => false
def isB : V → Bool
  | .bl _ => true
  | _ => false
theorem Typ.same {H H' : Hp} {x : V} {t : String} (h : Typ H x t) (s : Same H H') : Typ H' x t := by
  cases h with
  | int i => exact .int i
  | bl b => exact .bl b
  | str z => exact .str z
  | non => exact .non
  | lst e => exact .lst (s _ _ e)
  | tup e => exact .tup (s _ _ e)
  | dct e => exact .dct (s _ _ e)
theorem Typ.ty {K : PySem.W.Frag} {H : Hp} {x : V} {t : String} (h : Typ H x t) : TyX K H x (.type t) := by
  cases h with
  | int i => exact .base (.int i)
  | bl b => exact .base (.bl b)
  | str z => exact .base (.str z)
  | non => exact .base .non
  | lst e => exact .base (.lst e)
  | tup e => exact .base (.tup e)
  | dct e => exact .base (.dK e)
theorem Typ.kInt {K : PySem.W.Frag} {H : Hp} {x : V} {t : String} (h : Typ H x t) : PySem.W.kitOne K (.type t) (.type "int") = some (isI x || isB x) := by
  cases h <;> first | exact kit_ty (show kitB _ _ = some true by decide +kernel) | exact kit_ty (show kitB _ _ = some false by decide +kernel)
theorem Typ.kBool {K : PySem.W.Frag} {H : Hp} {x : V} {t : String} (h : Typ H x t) : PySem.W.kitOne K (.type t) (.type "bool") = some (isB x) := by
  cases h <;> first | exact kit_ty (show kitB _ _ = some true by decide +kernel) | exact kit_ty (show kitB _ _ = some false by decide +kernel)
theorem Typ.kTup {K : PySem.W.Frag} {H : Hp} {x : V} {t : String} (h : Typ H x t) : PySem.W.kitOne K (.type t) (.type "tuple") = some (t == "tuple") := by
  cases h <;> first | exact kit_ty (show kitB _ _ = some true by decide +kernel) | exact kit_ty (show kitB _ _ = some false by decide +kernel)
theorem Typ.kList {K : PySem.W.Frag} {H : Hp} {x : V} {t : String} (h : Typ H x t) : PySem.W.kitOne K (.type t) (.type "list") = some (t == "list") := by
  cases h <;> first | exact kit_ty (show kitB _ _ = some true by decide +kernel) | exact kit_ty (show kitB _ _ = some false by decide +kernel)
theorem Typ.kSeq {K : PySem.W.Frag} {H : Hp} {x : V} {t : String} (h : Typ H x t) : PySem.W.kitAny K (.type t) [.type "list", .type "tuple"] = some (t == "list" || t == "tuple") := by
  refine kitAny_cons h.kList (fun e => ?_) (fun e => by rw [e]; rfl)
  refine kitAny_cons h.kTup (fun e2 => ?_) (fun e2 => by rw [e2]; simp)
  rw [kitAny_nil, e, e2]
  rfl
def spIsInt : Sp := fun vs H Q _ => ∃ (x : V) (t : String), vs = [x] ∧ Typ H x t ∧ Q (.bl (isI x)) H
structure TxI (mg : Str → Option Value) : Prop where
  isin : mg "isinstance" = none
  int : mg "int" = none
  bool : mg "bool" = none
  str : mg "str" = none
  list : mg "list" = none
  tuple : mg "tuple" = none
section
variable {P : Program} {w : World} {K : PySem.W.Frag} {mg : Str → Option Value} {base : Heap}
theorem scIsInt : FnScope ["value"] ["value"] (defScope sIsInt) := ⟨rfl, rfl, rfl, by decide +kernel, rfl, by decide +kernel, by decide +kernel⟩
theorem ok_isInt {f : Addr} {fd : FuncData} (F : Fun K "is_integer" "is_integer" sIsInt f fd) (T : TxI mg) : FnOk P w K mg base CX0 1 f fd ["value"] spIsInt := by
  refine F.ok scIsInt (fun vs H Q E h => ?_) (fun cdv A outer s H vs Q E hr h => ?_)
  · obtain ⟨x, t, rfl, _⟩ := h
    rfl
  · obtain ⟨x, t, rfl, ht, k⟩ := h
    refine ⟨_, pss_one (ps_ret (pe_and (pe_callB call_isi (by rfl) T.isin (by decide +kernel) (pa_cons (pv 0) (pa_cons (pe_bltn (v := .ty "int") (by rfl) T.int (by decide +kernel) rfl) pa_nil)))
      (pe_one (pe_not (pe_callB call_isi (by rfl) T.isin (by decide +kernel) (pa_cons (pv 0) (pa_cons (pe_bltn (v := .ty "bool") (by rfl) T.bool (by decide +kernel) rfl) pa_nil))))))), ?_⟩
    refine ⟨_, rfl, x, _, _, _, _, rfl, .ty _, ht.ty, ht.kInt, _, rfl, ?_⟩
    refine ite2 (fun hi => ?_) (fun hn => ?_)
    · refine ⟨_, rfl, x, _, _, _, _, rfl, .ty _, ht.ty, ht.kBool, _, rfl, ?_⟩
      have e : (!isB x) = isI x := by cases ht <;> first | rfl | exact absurd hi Bool.false_ne_true
      show Q (.bl (!isB x)) H
      rw [e]
      exact k
    · have e : isI x = false := by cases ht <;> first | rfl | exact absurd rfl hn
      show Q (.bl false) H
      rw [← e]
      exact k
end
def Bnd (v : V) : Prop := v = .non ∨ ∃ i, v = .int i
def geB (i : Int) : V → Bool
  | .int a => decide (a ≤ i)
  | _ => true
def leB (i : Int) : V → Bool
  | .int b => decide (i ≤ b)
  | _ => true
def within : V → V → V → Bool
  | .int i, l, m => geB i l && leB i m
  | _, _, _ => false
def spWithin : Sp := fun vs H Q _ => ∃ (x l m : V) (t : String), vs = [x, l, m] ∧ Typ H x t ∧ Bnd l ∧ Bnd m ∧ Q (.bl (within x l m)) H
def letterB : V → Bool
  | .int i => (decide (-26 ≤ i) && decide (i ≤ 26)) && !decide (i = 0)
  | _ => false
def spLetter : Sp := fun vs H Q _ => ∃ (x : V) (t : String), vs = [x] ∧ Typ H x t ∧ Q (.bl (letterB x)) H
structure TxC (mg : Str → Option Value) : Prop where
  kind : ∃ t, mg "MOST_KIND" = some (.int 26 t)
  all : mg "all" = none
section
variable {P : Program} {w : World} {K : PySem.W.Frag} {mg : Str → Option Value} {base : Heap}
theorem scWithin : FnScope ["value", "least", "most"] ["value", "least", "most"] (defScope sWithin) := ⟨rfl, rfl, rfl, by decide +kernel, rfl, by decide +kernel, by decide +kernel⟩
theorem ok_within {f : Addr} {fd : FuncData} (F : Fun K "is_within" "is_within" sWithin f fd) (GI : Cal P w K mg base "is_integer" 1 ["value"] spIsInt) : FnOk P w K mg base CX0 2 f fd ["value", "least", "most"] spWithin := by
  refine F.ok scWithin (fun vs H Q E h => ?_) (fun cdv A outer s H vs Q E hr h => ?_)
  · obtain ⟨x, l, m, t, rfl, _⟩ := h
    rfl
  · obtain ⟨x, l, m, t, rfl, ht, hl, hm, k⟩ := h
    refine ⟨_, pss_cons (ps_if (pt_not (pt_val (pe_cal GI hr (by decide) (by rfl) (pa_cons (pv 0) pa_nil)))) (pss_one (ps_ret pe_bl)) pss_nil)
      (pss_one (ps_ret (pe_and (pe_or (pe_cmpR op_isN (pv 1) pe_non (nomark _)) (pe_one (pe_cmpR op_ge (pv 0) (pv 1) (nomark _)))) (pe_one (pe_or (pe_cmpR op_isN (pv 2) pe_non (nomark _)) (pe_one (pe_cmpR op_le (pv 0) (pv 2) (nomark _)))))))), ?_⟩
    refine ⟨_, rfl, x, t, rfl, ht, _, rfl, ?_⟩
    refine ite2 (fun hn => ?_) (fun hi => ?_)
    · have e : within x l m = false := by cases ht <;> first | rfl | exact absurd hn Bool.false_ne_true
      rw [e] at k
      exact k
    · obtain ⟨i, rfl⟩ : ∃ i, x = .int i := by cases ht <;> first | exact ⟨_, rfl⟩ | exact absurd rfl hi
      -- the second half, whatever the first one says
      have half : ∀ H1 : Hp, H1 = H → ∀ Q1 : VK, Q1 (.bl (leB i m)) H1 → tOrV (tOp (fun x y H Q => y = .non ∧ Q (.bl (decide (x = .non))) H) (tVar 2) (tC .non)) (tOp (rI0 fun i j => .bl (decide (i ≤ j))) (tVar 0) (tVar 2)) [some (.int i), some l, some m] H1 Q1 := by
        intro H1 _ Q1 q
        rcases hm with rfl | ⟨b, rfl⟩
        · exact ⟨_, rfl, rfl, _, rfl, iteT q⟩
        · exact ⟨_, rfl, rfl, _, rfl, iteF ⟨_, rfl, _, rfl, _, _, rfl, rfl, q⟩⟩
      rcases hl with rfl | ⟨a, rfl⟩
      · refine ⟨_, rfl, rfl, _, rfl, iteT ⟨_, rfl, iteT (half H rfl _ ?_)⟩⟩
        exact k
      · refine ⟨_, rfl, rfl, _, rfl, iteF ⟨_, rfl, _, rfl, _, _, rfl, rfl, _, rfl, ?_⟩⟩
        refine ite2 (fun hg => half H rfl _ ?_) (fun hg => ?_)
        · have e : within (.int i) (.int a) m = leB i m := by
            show (decide (a ≤ i) && leB i m) = leB i m
            rw [hg]
            rfl
          rw [e] at k
          exact k
        · have e : within (.int i) (.int a) m = false := by
            show (decide (a ≤ i) && leB i m) = false
            rw [Bool.eq_false_iff.mpr hg]
            rfl
          rw [e] at k
          exact k
theorem scLetter : FnScope ["value"] ["value"] (defScope sLetter) := ⟨rfl, rfl, rfl, by decide +kernel, rfl, by decide +kernel, by decide +kernel⟩
theorem ok_letter {f : Addr} {fd : FuncData} (F : Fun K "is_letter" "is_letter" sLetter f fd) (GW : Cal P w K mg base "is_within" 2 ["value", "least", "most"] spWithin) (T : TxC mg) : FnOk P w K mg base CX0 3 f fd ["value"] spLetter := by
  refine F.ok scLetter (fun vs H Q E h => ?_) (fun cdv A outer s H vs Q E hr h => ?_)
  · obtain ⟨x, t, rfl, _⟩ := h
    rfl
  · obtain ⟨x, t, rfl, ht, k⟩ := h
    obtain ⟨tk, mK⟩ := T.kind
    refine ⟨_, pss_one (ps_ret (pe_and (pe_cal GW hr (by decide) (by rfl) (pa_cons (pv 0) (pa_cons (pe_un un_neg (pe_glob (v := .int 26) (by rfl) mK ⟨_, rfl⟩)) (pa_cons (pe_glob (v := .int 26) (by rfl) mK ⟨_, rfl⟩) pa_nil)))) (pe_one (pe_cmpR op_ne (pv 0) pe_int (nomark _))))), ?_⟩
    refine ⟨_, rfl, _, rfl, x, _, _, t, rfl, ht, .inr ⟨_, rfl⟩, .inr ⟨_, rfl⟩, _, rfl, ?_⟩
    refine ite2 (fun hi => ?_) (fun hn => ?_)
    · obtain ⟨i, rfl⟩ : ∃ i, x = .int i := by cases ht <;> first | exact ⟨_, rfl⟩ | exact absurd hi Bool.false_ne_true
      refine ⟨_, rfl, rfl, ?_⟩
      have e : letterB (.int i) = !decide (V.int i = V.int 0) := by
        have h2 : (decide (-26 ≤ i) && decide (i ≤ 26)) = true := hi
        show ((decide (-26 ≤ i) && decide (i ≤ 26)) && !decide (i = 0)) = _
        rw [h2, Bool.true_and]
        congr 1
        by_cases h0 : i = 0
        · subst h0; rfl
        · rw [decide_eq_false h0, decide_eq_false (fun q => h0 (by injection q))]
      rw [e] at k
      exact k
    · have e : letterB x = false := by
        cases ht with
        | int i =>
          have h2 : (decide (-26 ≤ i) && decide (i ≤ 26)) = false := Bool.eq_false_iff.mpr hn
          show ((decide (-26 ≤ i) && decide (i ≤ 26)) && !decide (i = 0)) = false
          rw [h2]
          rfl
        | _ => rfl
      rw [e] at k
      exact k
theorem scListed : FnScope ["value"] ["value"] (defScope sListed) := ⟨rfl, rfl, rfl, by decide +kernel, rfl, by decide +kernel, by decide +kernel⟩
end
end W16
set_option Elab.async false
set_option linter.all false
set_option maxRecDepth 100000
set_option maxHeartbeats 2000000
namespace W16
open PySem L2 PySem.Spec PyProof.Rows WR WB
abbrev sInit : Stmt := inClass (top 45) 0
theorem SqL.tyx {K : PySem.W.Frag} {H : Hp} {a : Addr} {xs : List V} (h : SqL K H a xs) : TyX K H (.ref a) (.type "list") := by
  rcases h with h | ⟨o, its, n, e, c, _⟩
  · rcases h with h | ⟨o, h⟩
    · exact .base (.lst h)
    · exact .base (.frz h)
  · exact .kList e c
theorem SqT.tyx {K : PySem.W.Frag} {H : Hp} {a : Addr} {xs : List V} (h : SqT K H a xs) : TyX K H (.ref a) (.type "tuple") := by
  rcases h with h | ⟨o, its, n, e, c, _⟩
  · rcases h with h | ⟨o, h⟩
    · exact .base (.tup h)
    · exact .fTuple h
  · exact .kTuple e c
def spListE (K : PySem.W.Frag) : Sp := fun vs H Q _ => ∃ (a : Addr) (xs : List V), vs = [.ref a] ∧ SqE K H a xs ∧ ∀ H', Same H H' → Q (.bl true) H'
def spFew : Sp := fun vs H Q _ => ∃ n : Int, vs = [.int n] ∧ n ≤ 500 ∧ Q .non H
structure TxW (K : PySem.W.Frag) (mg : Str → Option Value) (C : Addr) : Prop where
  cl : Cls K C
  nL : NoAttr K C "letters"
  nN : NoAttr K C "length"
  nK : NoAttr K C "kinds"
  nS : NoAttr K C "is_short"
  nR : NoAttr K C "is_short_round"
  ca : PySem.W.findIn K (.ref C) "__class__" = some (some (.builtin "object.__class__"))
  cn : PySem.W.specialIn K (.builtin "object.__class__") "__get__" = some (some (.builtin "getset_descriptor.__get__"))
  ct : PySem.W.takesIn K (.builtin "object.__class__") = some true
  cm : PySem.W.mroIn K C (.type "object") = some true
  mgW : mg "Word" = some (.ref C)
  most : ∃ t, mg "MOST_LETTERS" = some (.int 500 t)
  isin : mg "isinstance" = none
  all : mg "all" = none
/-! ### a word -/
def wf (tl : Addr) (n : Nat) (tk : Addr) (b1 b2 : Bool) : List (Str × V) := [("letters", .ref tl), ("length", .int (n : Int)), ("kinds", .ref tk), ("is_short", .bl b1), ("is_short_round", .bl b2)]
theorem ne1 : ¬ (("letters" : Str) = "length") := by decide +kernel
theorem ne2 : ¬ (("letters" : Str) = "kinds") := by decide +kernel
theorem ne3 : ¬ (("letters" : Str) = "is_short") := by decide +kernel
theorem ne4 : ¬ (("letters" : Str) = "is_short_round") := by decide +kernel
theorem ne5 : ¬ (("length" : Str) = "kinds") := by decide +kernel
theorem ne6 : ¬ (("length" : Str) = "is_short") := by decide +kernel
theorem ne7 : ¬ (("length" : Str) = "is_short_round") := by decide +kernel
theorem ne8 : ¬ (("kinds" : Str) = "is_short") := by decide +kernel
theorem ne9 : ¬ (("kinds" : Str) = "is_short_round") := by decide +kernel
theorem ne10 : ¬ (("is_short" : Str) = "is_short_round") := by decide +kernel
theorem lk_eq {k : Str} {v : V} {t : List (Str × V)} : List.lookup k ((k, v) :: t) = some v := by
  rw [List.lookup_cons, beq_self_eq_true k]
theorem lk_ne {k g : Str} {v : V} {t : List (Str × V)} (h : ¬ k = g) : List.lookup k ((g, v) :: t) = List.lookup k t := by
  rw [List.lookup_cons, show (k == g) = false from beq_eq_false_iff_ne.mpr h]
theorem pf_ne {k g : Str} {v x : V} {t : List (Str × V)} (h : ¬ g = k) : putF k v ((g, x) :: t) = (g, x) :: putF k v t := by
  show (if g = k then _ else _) = _
  rw [if_neg h]
theorem wf_letters {tl tk n b1 b2} : (wf tl n tk b1 b2).lookup ("letters" : Str) = some (.ref tl) := lk_eq
theorem wf_length {tl tk n b1 b2} : (wf tl n tk b1 b2).lookup ("length" : Str) = some (.int (n : Int)) := by
  unfold wf
  rw [lk_ne fun e => ne1 e.symm, lk_eq]
theorem wf_round {tl tk n b1 b2} : (wf tl n tk b1 b2).lookup ("is_short_round" : Str) = some (.bl b2) := by
  unfold wf
  rw [lk_ne fun e => ne4 e.symm, lk_ne fun e => ne7 e.symm, lk_ne fun e => ne9 e.symm, lk_ne fun e => ne10 e.symm, lk_eq]
theorem wf_no {tl tk n b1 b2} {m : Str} (h1 : ¬ m = "letters") (h2 : ¬ m = "length") (h3 : ¬ m = "kinds") (h4 : ¬ m = "is_short") (h5 : ¬ m = "is_short_round") : (wf tl n tk b1 b2).lookup m = none := by
  unfold wf
  rw [lk_ne h1, lk_ne h2, lk_ne h3, lk_ne h4, lk_ne h5]
  rfl
def WordAt (K : PySem.W.Frag) (C : Addr) (H : Hp) (p : Addr) (ns : List Int) : Prop :=
  ∃ (dx tl tk : Addr) (ks : List Int), H p = some (.ins C dx (wf tl ns.length tk (decide (Fr.shr ns = ns)) (decide (Fr.rnd ns = ns)))) ∧ SqB K H tl (iv ns) ∧ SqT K H tk (iv ks) ∧ kindsOk ns ks
theorem WordAt.same {K : PySem.W.Frag} {C : Addr} {H H' : Hp} {p : Addr} {ns : List Int} (h : WordAt K C H p ns) (s : Same H H') : WordAt K C H' p ns := by
  obtain ⟨dx, tl, tk, ks, h1, h2, h3, h4⟩ := h
  exact ⟨dx, tl, tk, ks, s _ _ h1, SqB.same s h2, WR.Same.seqT s h3, h4⟩
theorem Lts.nz {ns : List Int} (h : Lts ns) : Fr.NZ ns := fun a ha => by
  have := h a ha
  omega
def spInit (K : PySem.W.Frag) (C : Addr) : Sp := fun vs H Q _ => ∃ (H0 : Hp) (p dx a : Addr) (ns : List Int), vs = [.ref p, .ref a] ∧ Same H0 H ∧ H0 p = none ∧ H p = some (.ins C dx []) ∧ SqW K H0 a (iv ns) ∧ ns.length ≤ 500 ∧ Lts ns ∧
  ∀ H', Same H0 H' → WordAt K C H' p ns → Q .non H'
/-! ### tuples of ints held against one another -/
theorem dp_iv {K : PySem.W.Frag} {H : Hp} : ∀ ns : List Int, DpAll K H (iv ns) (ns.map PyData.int)
  | [] => .nil
  | n :: r => .cons (.int n) (dp_iv r)
theorem eqvAll_ints : ∀ ns ms : List Int, PyData.eqvAll (ns.map PyData.int) (ms.map PyData.int) = decide (ns = ms)
  | [], [] => rfl
  | [], b :: r => rfl
  | a :: r, [] => rfl
  | a :: r, b :: q => by
    have ih := eqvAll_ints r q
    show (PyData.eqv (.int a) (.int b) && PyData.eqvAll (r.map PyData.int) (q.map PyData.int)) = _
    rw [ih]
    have : PyData.eqv (.int a) (.int b) = decide (a = b) := by
      simp only [PyData.eqv]
      exact Bool.eq_iff_iff.mpr (by simp)
    rw [this]
    by_cases e1 : a = b <;> by_cases e2 : r = q <;> simp [e1, e2]
theorem eqv_ints (ns ms : List Int) : PyData.eqv (.tuple (ns.map .int)) (.tuple (ms.map .int)) = decide (ns = ms) := by
  show PyData.eqvAll _ _ = _
  exact eqvAll_ints ns ms
theorem lay_ints : ∀ ns : List Int, PyData.canLayAll0 (ns.map PyData.int) = true ∧ PyData.depthAll (ns.map PyData.int) = 0
  | [] => ⟨rfl, rfl⟩
  | n :: r => by
    obtain ⟨h1, h2⟩ := lay_ints r
    exact ⟨by simp [PyData.canLayAll0, PyData.canLay0, h1], by simp [PyData.depthAll, PyData.depth, h2]⟩
theorem shaped_ints (ns : List Int) : SeqAt.shaped (.tuple (ns.map .int)) = true := by
  obtain ⟨h1, h2⟩ := lay_ints ns
  simp [SeqAt.shaped, PyData.canLay0, PyData.depth, h1, h2]
section
variable {P : Program} {w : World} {K : PySem.W.Frag} {mg : Str → Option Value} {base : Heap}
theorem ok_listE {f : Addr} {fd : FuncData} (F : Fun K "is_listed" "is_listed" sListed f fd) (T : TxI mg) : FnOk P w K mg base CX0 1 f fd ["value"] (spListE K) := by
  refine F.ok scListed (fun vs H Q E h => ?_) (fun cdv A outer s H vs Q E hr h => ?_)
  · obtain ⟨a, xs, rfl, _⟩ := h
    rfl
  · obtain ⟨a, xs, rfl, hS, k⟩ := h
    refine ⟨_, pss_one (ps_ret (pe_callB call_isiT (by rfl) T.isin (by decide +kernel) (pa_cons (pv 0) (pa_cons (pe_tup (pa_cons (pe_bltn (v := .ty "list") (by rfl) T.list (by decide +kernel) rfl) (pa_cons (pe_bltn (v := .ty "tuple") (by rfl) T.tuple (by decide +kernel) rfl) pa_nil))) pa_nil)))), ?_⟩
    refine ⟨_, rfl, (by show 2 ≤ sizeLine; decide), fun p hp => ?_⟩
    have sm : Same H (upd H p (.tup [.ty "list", .ty "tuple"])) := same_upd hp
    rcases hS.same sm with hS | hS
    · exact ⟨_, p, _, _, _, _, rfl, upd_same, .cons (.ty _) (.cons (.ty _) .nil), SqL.tyx hS, (by rfl), k _ sm⟩
    · exact ⟨_, p, _, _, _, _, rfl, upd_same, .cons (.ty _) (.cons (.ty _) .nil), SqT.tyx hS, (Typ.tup (H := fun _ => some (.tup [])) (p := a) (xs := []) rfl).kSeq, k _ sm⟩
theorem scFew : FnScope ["many"] ["many"] (defScope sFew) := ⟨rfl, rfl, rfl, by decide +kernel, rfl, by decide +kernel, by decide +kernel⟩
theorem ok_few {C : Addr} {f : Addr} {fd : FuncData} (F : Fun K "need_few_letters" "need_few_letters" sFew f fd) (T : TxW K mg C) : FnOk P w K mg base CX0 1 f fd ["many"] spFew := by
  refine F.ok scFew (fun vs H Q E h => ?_) (fun cdv A outer s H vs Q E hr h => ?_)
  · obtain ⟨n, rfl, _⟩ := h
    rfl
  · obtain ⟨n, rfl, hn, k⟩ := h
    obtain ⟨tk, mM⟩ := T.most
    refine ⟨_, pss_one (ps_if (pt_cmpR op_gt (pv 0) (pe_glob (v := .int 500) (by rfl) mM ⟨_, rfl⟩) (nomark _)) (pss_one ps_never) pss_nil), ?_⟩
    refine ⟨_, rfl, _, _, rfl, rfl, _, rfl, ?_⟩
    exact iteF' (decide_eq_false (by omega)) k
end
end W16
set_option Elab.async false
set_option linter.all false
set_option maxRecDepth 100000
set_option maxHeartbeats 2000000
namespace W16
open PySem L2 PySem.Spec PyProof.Rows WR WB
theorem SqT.put {K : PySem.W.Frag} {H : Hp} {a p C dx : Addr} {fs : List (Str × V)} {o : HO} {xs : List V} (h : SqT K H a xs) (hp : H p = some (.ins C dx fs)) : SqT K (L2.upd H p o) a xs := by
  rcases h with h | h
  · left
    have ne : ∀ u, H a = some u → (∀ C dx fs, u ≠ .ins C dx fs) → a ≠ p := fun u e q z => by
      rw [z, hp] at e
      exact q _ _ _ (Option.some.inj e).symm
    rcases h with h | ⟨o', h⟩
    · exact .inl (by rw [upd_ne (ne _ h fun _ _ _ => by intro z; cases z)]; exact h)
    · exact .inr ⟨o', by rw [upd_ne (ne _ h fun _ _ _ => by intro z; cases z)]; exact h⟩
  · exact .inr h
theorem SqB.put {K : PySem.W.Frag} {H : Hp} {a p C dx : Addr} {fs : List (Str × V)} {o : HO} {xs : List V} (h : SqB K H a xs) (hp : H p = some (.ins C dx fs)) : SqB K (L2.upd H p o) a xs := by
  obtain ⟨h1, h2⟩ := h
  refine ⟨SqT.put h1 hp, ?_⟩
  obtain ⟨o', u, e, d⟩ := h2
  exact ⟨o', u, by rw [upd_ne (fun z => by rw [z, hp] at e; cases e)]; exact e, d⟩
theorem same_put {H0 H : Hp} {p : Addr} {o : HO} (s : Same H0 H) (hp : H0 p = none) : Same H0 (L2.upd H p o) := fun b u e => by
  have : b ≠ p := fun z => by rw [z, hp] at e; cases e
  rw [upd_ne this]
  exact s _ _ e
theorem letter_ok {i : Int} (h : 1 ≤ i.natAbs ∧ i.natAbs ≤ 26) : letterB (.int i) = true := by
  show ((decide (-26 ≤ i) && decide (i ≤ 26)) && !decide (i = 0)) = true
  rw [decide_eq_true (by omega), decide_eq_true (by omega), decide_eq_false (by omega)]
  rfl
theorem all_ok {ns : List Int} (h : Lts ns) : ((ns.map fun i => letterB (.int i)).all id) = true := by
  rw [List.all_eq_true]
  intro b hb
  obtain ⟨i, hi, rfl⟩ := List.mem_map.mp hb
  exact letter_ok (h i hi)
theorem not_lc {r : List V → Hp → VK → Prop} {wi : TI} {g : TG} {tt : TT} {te : TE} {vs : List Nat} {σ : L2.St} {H : Hp} {Q : Bool → Hp → Prop}
    (h : wi σ H fun J H1 => tLc (fun _ H R => R J H) g tt te vs σ H1 fun x H2 => r [x] H2 fun v H3 => ∃ c, v = .bl c ∧ Q (!c) H3) :
    tNot (fun σ H Q => tCB r (tCons (tLc wi g tt te vs) tNil) σ H fun x H1 => ∃ c, x = .bl c ∧ Q c H1) σ H Q := h
abbrev nInit : List Str := ["self", "letters", "letter"]
section
variable {P : Program} {w : World} {K : PySem.W.Frag} {mg : Str → Option Value} {base : Heap}
theorem scInit : FnScope nInit ["self", "letters"] (defScope sInit) := ⟨rfl, rfl, rfl, by decide +kernel, rfl, by decide +kernel, by decide +kernel⟩
theorem ok_init {C f : Addr} {fd : FuncData} (F : Fun K "__init__" "Word.__init__" sInit f fd) (T : TxW K mg C) (TA : TxA mg) (GL : Cal P w K mg base "is_listed" 1 ["value"] (spListE K)) (GX : Cal P w K mg base "is_letter" 3 ["value"] spLetter)
    (GF : Cal P w K mg base "need_few_letters" 1 ["many"] spFew) (GK : Cal P w K mg base "kinds_of" 1 ["letters"] (spKinds K)) (GS : Cal P w K mg base "shortened_letters" 1 ["letters"] (spShr K)) (GR : Cal P w K mg base "rounded_letters" 2 ["letters"] (spRnd K)) :
    FnOk P w K mg base CX0 4 f fd ["self", "letters"] (spInit K C) := by
  refine F.ok scInit (fun vs H Q E h => ?_) (fun cdv A outer s H vs Q E hr h => ?_)
  · obtain ⟨H0, p, dx, a, ns, rfl, _⟩ := h
    rfl
  · obtain ⟨H0, p, dx, a, ns, rfl, s0, p0, hp, hS, hlen, hl, k⟩ := h
    rcases hS with hS | hS
    · refine ⟨_, pss_cons (ps_if (PW.pt (pw_or (pt_not (pt_val (pe_cal GL hr (by decide) (by rfl) (pa_cons (pv 1) pa_nil)))) (pw_or1 (pt_not (pt_val (pe_callB (cr_all rfl) (by rfl) T.all (by decide +kernel) (pa_cons (pe_lc (own := [("letter", 2)]) (g := gName 2) (tt := tYes) rfl scInit.nd (pi_list (pv 1))
          (blkOk_by (N := nInit) (sc := defScope sInit) (by decide +kernel)) (fun _ _ _ _ _ => pg_name (i := 2) scInit.nd rfl (Or.inl rfl)) (fun _ _ _ _ _ => pts_nil)
          (fun _ _ _ _ _ => pe_cal GX hr (by decide) (by rfl) (pa_cons (pv 2) pa_nil))) pa_nil))))))) (pss_one ps_never) pss_nil)
        (pss_cons (ps_expr (pe_cal GF hr (by decide) (by rfl) (pa_cons (pe_callB call_len_seq (by rfl) TA.len PySem.boot_len (pa_cons (pv 1) pa_nil)) pa_nil)))
        (pss_cons (ps_fld (pv 0) (pe_callTy call_tupB (by rfl) TA.tuple (by decide +kernel) (pa_cons (pv 1) pa_nil)) rfl)
        (pss_cons (ps_fld (pv 0) (pe_callB call_len_seq (by rfl) TA.len PySem.boot_len (pa_cons (pv 1) pa_nil)) rfl)
        (pss_cons (ps_fld (pv 0) (pe_cal GK hr (by decide) (by rfl) (pa_cons (pv 1) pa_nil)) rfl)
        (pss_cons (ps_fld (pv 0) (pe_cmpR (op_eqD hr.units) (pe_cal GS hr (by decide) (by rfl) (pa_cons (pv 1) pa_nil)) (pe_fld (pv 0) rfl) (nomark _)) rfl)
        (pss_one (ps_fld (pv 0) (pe_cmpR (op_eqD hr.units) (pe_cal GR hr (by decide) (by rfl) (pa_cons (pv 1) pa_nil)) (pe_fld (pv 0) rfl) (nomark _)) rfl))))))), ?_⟩
      have E0 : SqE K H0 a (iv ns) := .inl hS
      refine ⟨_, rfl, a, _, rfl, E0.same s0, fun H1 s1 => ⟨_, rfl, ?_⟩⟩
      have s01 := s0.trans s1
      refine iteF ?_
      refine not_lc ?_
      refine ⟨_, rfl, a, rfl, ⟨_, (s01.seq hS)⟩, ?_⟩
      refine lcp (walk_list (xs := iv ns)) (fun _ => true) (fun x => .bl (letterB x)) (by simp; omega) (fun H2 s2 => (s01.trans s2).seq hS) ?_ ?_
      · intro x hx H2 s2 Qy Qn ky kn
        obtain ⟨i, hi, rfl⟩ := List.mem_map.mp hx
        exact ⟨rfl, yes_te ⟨_, rfl, .int i, _, rfl, .int i, ky rfl H2 (fun _ _ e => e)⟩⟩
      intro D H2 hD s2 h2
      have s02 := s01.trans s2
      refine ⟨D, ns.map fun i => letterB (.int i), rfl, SqL.of (by
        rw [h2, List.filter_eq_self.mpr (fun _ _ => rfl), List.map_map, List.map_map]
        rfl), ?_⟩
      rw [all_ok hl]
      refine ⟨_, rfl, iteF ?_⟩
      -- not too many
      refine ⟨_, rfl, a, _, rfl, E0.same s02, ((iv ns).length : Int), rfl, by rw [List.length_map]; omega, ?_⟩
      have hp2 : H2 p = some (.ins C dx []) := s2 _ _ (s1 _ _ hp)
      -- its letters
      refine ⟨_, rfl, a, _, rfl, .inl ⟨s02.seq hS, fun tl H3 s23 t3 => ?_⟩⟩
      have s3 := s02.trans s23
      have hp3 := s23 _ _ hp2
      refine ⟨_, rfl, p, C, dx, _, rfl, hp3, T.cl, T.nL, (by show 0 < 1000; decide), ?_⟩
      have hp4 : L2.upd H3 p (.ins C dx (putF "letters" (.ref tl) [])) p = some (.ins C dx [("letters", .ref tl)]) := by rw [upd_same]; rfl
      have s4 := same_put (o := .ins C dx (putF "letters" (.ref tl) [])) s3 p0
      have t4 := SqB.put (o := .ins C dx (putF "letters" (.ref tl) [])) t3 hp3
      refine gen_heap fun H4 e4 => ?_
      rw [← e4] at hp4 s4 t4
      -- how many
      refine ⟨_, rfl, a, _, rfl, E0.same s4, _, rfl, p, C, dx, _, rfl, hp4, T.cl, T.nN, (by show 1 < 1000; decide), ?_⟩
      have hp5 : L2.upd H4 p (.ins C dx (putF "length" (.int ((iv ns).length : Nat)) [("letters", .ref tl)])) p = some (.ins C dx [("letters", .ref tl), ("length", .int (ns.length : Nat))]) := by
        rw [upd_same, pf_ne ne1, List.length_map]
        rfl
      have s5 := same_put (o := .ins C dx (putF "length" (.int ((iv ns).length : Nat)) [("letters", .ref tl)])) s4 p0
      have t5 := SqB.put (o := .ins C dx (putF "length" (.int ((iv ns).length : Nat)) [("letters", .ref tl)])) t4 hp4
      refine gen_heap fun H5 e5 => ?_
      rw [← e5] at hp5 s5 t5
      -- its kinds
      refine ⟨_, rfl, a, ns, rfl, E0.same s5, by omega, hl, fun ks hk tk H6 s6 tk6 => ?_⟩
      have hp6 := s6 _ _ hp5
      have s06 := s5.trans s6
      have t6 := SqB.same s6 t5
      refine ⟨_, rfl, p, C, dx, _, rfl, hp6, T.cl, T.nK, (by show 2 < 1000; decide), ?_⟩
      have hp7 : L2.upd H6 p (.ins C dx (putF "kinds" (.ref tk) [("letters", .ref tl), ("length", .int (ns.length : Nat))])) p = some (.ins C dx [("letters", .ref tl), ("length", .int (ns.length : Nat)), ("kinds", .ref tk)]) := by
        rw [upd_same, pf_ne ne2, pf_ne ne5]
        rfl
      have s7 := same_put (o := .ins C dx (putF "kinds" (.ref tk) [("letters", .ref tl), ("length", .int (ns.length : Nat))])) s06 p0
      have t7 := SqB.put (o := .ins C dx (putF "kinds" (.ref tk) [("letters", .ref tl), ("length", .int (ns.length : Nat))])) t6 hp6
      have k7 := SqT.put (o := .ins C dx (putF "kinds" (.ref tk) [("letters", .ref tl), ("length", .int (ns.length : Nat))])) tk6 hp6
      refine gen_heap fun H7 e7 => ?_
      rw [← e7] at hp7 s7 t7 k7
      -- short
      refine ⟨_, rfl, a, ns, rfl, E0.same s7, by omega, fun q H8 s8 q8 => ?_⟩
      have hp8 := s8 _ _ hp7
      have s08 := s7.trans s8
      have t8 := SqB.same s8 t7
      have k8 := WR.Same.seqT s8 k7
      refine ⟨_, rfl, p, C, dx, _, _, rfl, hp8, T.cl, T.nL, lk_eq, ?_⟩
      refine ⟨_, _, .tup q8.sq (dp_iv _), .tup t8.sq (dp_iv _), shaped_ints _, shaped_ints _, ?_⟩
      rw [eqv_ints]
      refine ⟨_, rfl, p, C, dx, _, rfl, hp8, T.cl, T.nS, (by show 3 < 1000; decide), ?_⟩
      have hp9 : L2.upd H8 p (.ins C dx (putF "is_short" (.bl (decide (Fr.shr ns = ns))) [("letters", .ref tl), ("length", .int (ns.length : Nat)), ("kinds", .ref tk)])) p = some (.ins C dx [("letters", .ref tl), ("length", .int (ns.length : Nat)), ("kinds", .ref tk), ("is_short", .bl (decide (Fr.shr ns = ns)))]) := by
        rw [upd_same, pf_ne ne3, pf_ne ne6, pf_ne ne8]
        rfl
      have s9 := same_put (o := .ins C dx (putF "is_short" (.bl (decide (Fr.shr ns = ns))) [("letters", .ref tl), ("length", .int (ns.length : Nat)), ("kinds", .ref tk)])) s08 p0
      have t9 := SqB.put (o := .ins C dx (putF "is_short" (.bl (decide (Fr.shr ns = ns))) [("letters", .ref tl), ("length", .int (ns.length : Nat)), ("kinds", .ref tk)])) t8 hp8
      have k9 := SqT.put (o := .ins C dx (putF "is_short" (.bl (decide (Fr.shr ns = ns))) [("letters", .ref tl), ("length", .int (ns.length : Nat)), ("kinds", .ref tk)])) k8 hp8
      refine gen_heap fun H9 e9 => ?_
      rw [← e9] at hp9 s9 t9 k9
      -- short round
      refine ⟨_, rfl, a, ns, rfl, E0.same s9, by omega, hl.nz, fun q2 Ha sa qa => ?_⟩
      have hpa := sa _ _ hp9
      have s0a := s9.trans sa
      have ta := SqB.same sa t9
      have ka := WR.Same.seqT sa k9
      refine ⟨_, rfl, p, C, dx, _, _, rfl, hpa, T.cl, T.nL, lk_eq, ?_⟩
      refine ⟨_, _, .tup qa.sq (dp_iv _), .tup ta.sq (dp_iv _), shaped_ints _, shaped_ints _, ?_⟩
      rw [eqv_ints]
      refine ⟨_, rfl, p, C, dx, _, rfl, hpa, T.cl, T.nR, (by show 4 < 1000; decide), ?_⟩
      refine k _ (same_put s0a p0) ⟨dx, tl, tk, ks, ?_, SqB.put ta hpa, SqT.put ka hpa, hk⟩
      rw [upd_same, pf_ne ne4, pf_ne ne7, pf_ne ne9, pf_ne ne10]
      rfl
    · refine ⟨_, pss_cons (ps_if (PW.pt (pw_or (pt_not (pt_val (pe_cal GL hr (by decide) (by rfl) (pa_cons (pv 1) pa_nil)))) (pw_or1 (pt_not (pt_val (pe_callB (cr_all rfl) (by rfl) T.all (by decide +kernel) (pa_cons (pe_lc (own := [("letter", 2)]) (g := gName 2) (tt := tYes) rfl scInit.nd (pi_tup (pv 1))
          (blkOk_by (N := nInit) (sc := defScope sInit) (by decide +kernel)) (fun _ _ _ _ _ => pg_name (i := 2) scInit.nd rfl (Or.inl rfl)) (fun _ _ _ _ _ => pts_nil)
          (fun _ _ _ _ _ => pe_cal GX hr (by decide) (by rfl) (pa_cons (pv 2) pa_nil))) pa_nil))))))) (pss_one ps_never) pss_nil)
        (pss_cons (ps_expr (pe_cal GF hr (by decide) (by rfl) (pa_cons (pe_callB call_len_seq (by rfl) TA.len PySem.boot_len (pa_cons (pv 1) pa_nil)) pa_nil)))
        (pss_cons (ps_fld (pv 0) (pe_callTy call_tupB (by rfl) TA.tuple (by decide +kernel) (pa_cons (pv 1) pa_nil)) rfl)
        (pss_cons (ps_fld (pv 0) (pe_callB call_len_seq (by rfl) TA.len PySem.boot_len (pa_cons (pv 1) pa_nil)) rfl)
        (pss_cons (ps_fld (pv 0) (pe_cal GK hr (by decide) (by rfl) (pa_cons (pv 1) pa_nil)) rfl)
        (pss_cons (ps_fld (pv 0) (pe_cmpR (op_eqD hr.units) (pe_cal GS hr (by decide) (by rfl) (pa_cons (pv 1) pa_nil)) (pe_fld (pv 0) rfl) (nomark _)) rfl)
        (pss_one (ps_fld (pv 0) (pe_cmpR (op_eqD hr.units) (pe_cal GR hr (by decide) (by rfl) (pa_cons (pv 1) pa_nil)) (pe_fld (pv 0) rfl) (nomark _)) rfl))))))), ?_⟩
      have E0 : SqE K H0 a (iv ns) := .inr hS
      refine ⟨_, rfl, a, _, rfl, E0.same s0, fun H1 s1 => ⟨_, rfl, ?_⟩⟩
      have s01 := s0.trans s1
      refine iteF ?_
      refine not_lc ?_
      refine ⟨_, rfl, a, rfl, ⟨_, (WR.Same.seqT s01 hS.sq)⟩, ?_⟩
      refine lcp (walk_tup (xs := iv ns)) (fun _ => true) (fun x => .bl (letterB x)) (by simp; omega) (fun H2 s2 => WR.Same.seqT (s01.trans s2) hS.sq) ?_ ?_
      · intro x hx H2 s2 Qy Qn ky kn
        obtain ⟨i, hi, rfl⟩ := List.mem_map.mp hx
        exact ⟨rfl, yes_te ⟨_, rfl, .int i, _, rfl, .int i, ky rfl H2 (fun _ _ e => e)⟩⟩
      intro D H2 hD s2 h2
      have s02 := s01.trans s2
      refine ⟨D, ns.map fun i => letterB (.int i), rfl, SqL.of (by
        rw [h2, List.filter_eq_self.mpr (fun _ _ => rfl), List.map_map, List.map_map]
        rfl), ?_⟩
      rw [all_ok hl]
      refine ⟨_, rfl, iteF ?_⟩
      -- not too many
      refine ⟨_, rfl, a, _, rfl, E0.same s02, ((iv ns).length : Int), rfl, by rw [List.length_map]; omega, ?_⟩
      have hp2 : H2 p = some (.ins C dx []) := s2 _ _ (s1 _ _ hp)
      -- its letters
      refine ⟨_, rfl, a, _, rfl, .inr ⟨SqB.same s02 hS, ?_⟩⟩
      have s3 := s02
      have hp3 := hp2
      have t3 : SqB K H2 a (iv ns) := SqB.same s02 hS
      refine gen_heap fun H3 e3 => ?_
      rw [← e3] at s3 hp3 t3
      refine ⟨_, rfl, p, C, dx, _, rfl, hp3, T.cl, T.nL, (by show 0 < 1000; decide), ?_⟩
      have hp4 : L2.upd H3 p (.ins C dx (putF "letters" (.ref a) [])) p = some (.ins C dx [("letters", .ref a)]) := by rw [upd_same]; rfl
      have s4 := same_put (o := .ins C dx (putF "letters" (.ref a) [])) s3 p0
      have t4 := SqB.put (o := .ins C dx (putF "letters" (.ref a) [])) t3 hp3
      refine gen_heap fun H4 e4 => ?_
      rw [← e4] at hp4 s4 t4
      -- how many
      refine ⟨_, rfl, a, _, rfl, E0.same s4, _, rfl, p, C, dx, _, rfl, hp4, T.cl, T.nN, (by show 1 < 1000; decide), ?_⟩
      have hp5 : L2.upd H4 p (.ins C dx (putF "length" (.int ((iv ns).length : Nat)) [("letters", .ref a)])) p = some (.ins C dx [("letters", .ref a), ("length", .int (ns.length : Nat))]) := by
        rw [upd_same, pf_ne ne1, List.length_map]
        rfl
      have s5 := same_put (o := .ins C dx (putF "length" (.int ((iv ns).length : Nat)) [("letters", .ref a)])) s4 p0
      have t5 := SqB.put (o := .ins C dx (putF "length" (.int ((iv ns).length : Nat)) [("letters", .ref a)])) t4 hp4
      refine gen_heap fun H5 e5 => ?_
      rw [← e5] at hp5 s5 t5
      -- its kinds
      refine ⟨_, rfl, a, ns, rfl, E0.same s5, by omega, hl, fun ks hk tk H6 s6 tk6 => ?_⟩
      have hp6 := s6 _ _ hp5
      have s06 := s5.trans s6
      have t6 := SqB.same s6 t5
      refine ⟨_, rfl, p, C, dx, _, rfl, hp6, T.cl, T.nK, (by show 2 < 1000; decide), ?_⟩
      have hp7 : L2.upd H6 p (.ins C dx (putF "kinds" (.ref tk) [("letters", .ref a), ("length", .int (ns.length : Nat))])) p = some (.ins C dx [("letters", .ref a), ("length", .int (ns.length : Nat)), ("kinds", .ref tk)]) := by
        rw [upd_same, pf_ne ne2, pf_ne ne5]
        rfl
      have s7 := same_put (o := .ins C dx (putF "kinds" (.ref tk) [("letters", .ref a), ("length", .int (ns.length : Nat))])) s06 p0
      have t7 := SqB.put (o := .ins C dx (putF "kinds" (.ref tk) [("letters", .ref a), ("length", .int (ns.length : Nat))])) t6 hp6
      have k7 := SqT.put (o := .ins C dx (putF "kinds" (.ref tk) [("letters", .ref a), ("length", .int (ns.length : Nat))])) tk6 hp6
      refine gen_heap fun H7 e7 => ?_
      rw [← e7] at hp7 s7 t7 k7
      -- short
      refine ⟨_, rfl, a, ns, rfl, E0.same s7, by omega, fun q H8 s8 q8 => ?_⟩
      have hp8 := s8 _ _ hp7
      have s08 := s7.trans s8
      have t8 := SqB.same s8 t7
      have k8 := WR.Same.seqT s8 k7
      refine ⟨_, rfl, p, C, dx, _, _, rfl, hp8, T.cl, T.nL, lk_eq, ?_⟩
      refine ⟨_, _, .tup q8.sq (dp_iv _), .tup t8.sq (dp_iv _), shaped_ints _, shaped_ints _, ?_⟩
      rw [eqv_ints]
      refine ⟨_, rfl, p, C, dx, _, rfl, hp8, T.cl, T.nS, (by show 3 < 1000; decide), ?_⟩
      have hp9 : L2.upd H8 p (.ins C dx (putF "is_short" (.bl (decide (Fr.shr ns = ns))) [("letters", .ref a), ("length", .int (ns.length : Nat)), ("kinds", .ref tk)])) p = some (.ins C dx [("letters", .ref a), ("length", .int (ns.length : Nat)), ("kinds", .ref tk), ("is_short", .bl (decide (Fr.shr ns = ns)))]) := by
        rw [upd_same, pf_ne ne3, pf_ne ne6, pf_ne ne8]
        rfl
      have s9 := same_put (o := .ins C dx (putF "is_short" (.bl (decide (Fr.shr ns = ns))) [("letters", .ref a), ("length", .int (ns.length : Nat)), ("kinds", .ref tk)])) s08 p0
      have t9 := SqB.put (o := .ins C dx (putF "is_short" (.bl (decide (Fr.shr ns = ns))) [("letters", .ref a), ("length", .int (ns.length : Nat)), ("kinds", .ref tk)])) t8 hp8
      have k9 := SqT.put (o := .ins C dx (putF "is_short" (.bl (decide (Fr.shr ns = ns))) [("letters", .ref a), ("length", .int (ns.length : Nat)), ("kinds", .ref tk)])) k8 hp8
      refine gen_heap fun H9 e9 => ?_
      rw [← e9] at hp9 s9 t9 k9
      -- short round
      refine ⟨_, rfl, a, ns, rfl, E0.same s9, by omega, hl.nz, fun q2 Ha sa qa => ?_⟩
      have hpa := sa _ _ hp9
      have s0a := s9.trans sa
      have ta := SqB.same sa t9
      have ka := WR.Same.seqT sa k9
      refine ⟨_, rfl, p, C, dx, _, _, rfl, hpa, T.cl, T.nL, lk_eq, ?_⟩
      refine ⟨_, _, .tup qa.sq (dp_iv _), .tup ta.sq (dp_iv _), shaped_ints _, shaped_ints _, ?_⟩
      rw [eqv_ints]
      refine ⟨_, rfl, p, C, dx, _, rfl, hpa, T.cl, T.nR, (by show 4 < 1000; decide), ?_⟩
      refine k _ (same_put s0a p0) ⟨dx, a, tk, ks, ?_, SqB.put ta hpa, SqT.put ka hpa, hk⟩
      rw [upd_same, pf_ne ne4, pf_ne ne7, pf_ne ne9, pf_ne ne10]
      rfl
end
end W16
set_option Elab.async false
set_option linter.all false
set_option maxRecDepth 100000
set_option maxHeartbeats 2000000
namespace W16
open PySem L2 PySem.Spec PyProof.Rows WR WB
abbrev sEq : Stmt := inClass (top 45) 1
def spEq (K : PySem.W.Frag) (C : Addr) : Sp := fun vs H Q _ => ∃ (p q : Addr) (ns ms : List Int), vs = [.ref p, .ref q] ∧ WordAt K C H p ns ∧ WordAt K C H q ms ∧ Q (.bl (decide (ns = ms))) H
theorem Lts.app {ns ms : List Int} (h : Lts ns) (k : Lts ms) : Lts (ns ++ ms) := fun x hx => by
  rcases List.mem_append.mp hx with e | e
  · exact h x e
  · exact k x e
theorem Lts.shr {ns : List Int} (h : Lts ns) : Lts (Fr.shr ns) := fun x hx => h x (Fr.shr_mem hx)
theorem WordAt.tyx {K : PySem.W.Frag} {mg : Str → Option Value} {C : Addr} {H : Hp} {p : Addr} {ns : List Int} (h : WordAt K C H p ns) (T : TxW K mg C) : TyX K H (.ref p) (.ref C) := by
  obtain ⟨dx, tl, tk, ks, h1, _⟩ := h
  exact .base (.ins h1 T.cl T.ca T.cn T.ct T.cm)
theorem kit_self {K : PySem.W.Frag} (C : Addr) : PySem.W.kitOne K (.ref C) (.ref C) = some true := by
  unfold PySem.W.kitOne
  rw [if_pos (by simp)]
structure MkW (P : Program) (w : World) (K : PySem.W.Frag) (mg : Str → Option Value) (base : Heap) (C : Addr) : Prop where
  ex : ∃ (f : Addr) (fd : FuncData), Mk K C f ∧ FnOk P w K mg base CX0 4 f fd ["self", "letters"] (spInit K C) ∧ Binds K fd ["self", "letters"] []
section
variable {X : Cx} {C : Addr} {p pos : Pos} {e : Expr} {es : List Expr} {t : TA} {j : Nat}
theorem pe_word (M : MkW X.prog X.w X.K X.mg X.base C) (T : TxW X.K X.mg C) (hr : Room j X.A) (hkj : 5 ≤ j) (hg : Gl X "Word") (ha : PA X (e :: es) t)
    (he : starEach (e :: es) X.env = (false, eval e X.env) :: starEach es X.env := by rfl) (hpl : (backTo pos (starEach es X.env)).any (·.1) = false := by rfl) :
    PE X (.Call (.Name "Word" p) (e :: es) [] pos) (tMake C (spInit X.K C) [] E0 t) := by
  obtain ⟨f, fd, M, F, hb⟩ := M.ex
  exact pe_make M F (hr.mono hkj) hg T.mgW hb .nil pass0 ha (by decide) he hpl
end
section
variable {P : Program} {w : World} {K : PySem.W.Frag} {mg : Str → Option Value} {base : Heap}
theorem scEq : FnScope ["self", "other"] ["self", "other"] (defScope sEq) := ⟨rfl, rfl, rfl, by decide +kernel, rfl, by decide +kernel, by decide +kernel⟩
theorem ok_eq {C f : Addr} {fd : FuncData} (F : Fun K "__eq__" "Word.__eq__" sEq f fd) (T : TxW K mg C) : FnOk P w K mg base CX0 1 f fd ["self", "other"] (spEq K C) := by
  refine F.ok scEq (fun vs H Q E h => ?_) (fun cdv A outer s H vs Q E hr h => ?_)
  · obtain ⟨p, q, ns, ms, rfl, _⟩ := h
    rfl
  · obtain ⟨p, q, ns, ms, rfl, W1, W2, k⟩ := h
    refine ⟨_, pss_one (ps_ret (pe_and (pe_callB call_isi (by rfl) T.isin (by decide +kernel) (pa_cons (pv 1) (pa_cons (pe_glob (v := .ref C) (by rfl) T.mgW rfl) pa_nil)))
      (pe_one (pe_cmpR (op_eqD hr.units) (pe_fld (pv 0) rfl) (pe_fld (pv 1) rfl) (nomark _))))), ?_⟩
    refine ⟨_, rfl, _, _, _, _, _, rfl, .own C, W2.tyx T, kit_self C, _, rfl, ?_⟩
    refine iteT ?_
    obtain ⟨dx, tl, tk, ks, h1, h2, h3, h4⟩ := W1
    obtain ⟨dx', tl', tk', ks', h1', h2', h3', h4'⟩ := W2
    refine ⟨_, rfl, p, C, dx, _, _, rfl, h1, T.cl, T.nL, wf_letters, _, rfl, q, C, dx', _, _, rfl, h1', T.cl, T.nL, wf_letters, ?_⟩
    refine ⟨_, _, .tup h2.sq (dp_iv _), .tup h2'.sq (dp_iv _), shaped_ints _, shaped_ints _, ?_⟩
    rw [eqv_ints]
    exact k
end
end W16
set_option Elab.async false
set_option linter.all false
set_option maxRecDepth 100000
set_option maxHeartbeats 2000000
namespace W16
open PySem L2 WR WB
abbrev sJar : Stmt := top 67
abbrev sDraw : Stmt := top 68
/-! ### the hand that draws -/
/-- at a: a hand, of which at most n cells were begun -/
def HandAt (H : Hp) (a c : Addr) (n : Nat) : Prop := ∃ (ns : List Int) (i r : Int), H a = some (.lst [.ref c, .int i, .int r]) ∧ H c = some (.lst (ns.map V.int)) ∧ c ≠ a ∧ ns.length ≤ 1000 ∧ 0 ≤ i ∧ i ≤ (n : Int) ∧ 0 ≤ r
/-- all but what is at a stands as it did -/
def Kept (a : Addr) (H H' : Hp) : Prop := ∀ b o, b ≠ a → H b = some o → H' b = some o
theorem Kept.refl {a : Addr} {H : Hp} : Kept a H H := fun _ _ _ e => e
theorem Kept.trans {a : Addr} {H H1 H2 : Hp} (h1 : Kept a H H1) (h2 : Kept a H1 H2) : Kept a H H2 := fun b o n e => h2 b o n (h1 b o n e)
theorem Kept.upd {a : Addr} {H : Hp} {o : HO} : Kept a H (upd H a o) := fun b u n e => by rw [upd_ne n]; exact e
theorem Kept.new {a p : Addr} {H H' : Hp} {o : HO} (k : Kept a H H') (hp : H' p = none) : Kept a H (L2.upd H' p o) := fun b u n e => by
  rw [upd_ne (ne_of_none (k b u n e) hp)]
  exact k b u n e
theorem HandAt.put {H : Hp} {a c : Addr} {ns : List Int} {i r : Int} {n : Nat} (hC : H c = some (.lst (ns.map V.int))) (hca : c ≠ a) (hl : ns.length ≤ 1000) (i0 : 0 ≤ i) (hi : i ≤ (n : Int)) (r0 : 0 ≤ r) :
    HandAt (L2.upd H a (.lst [.ref c, .int i, .int r])) a c n := ⟨ns, i, r, upd_same, by rw [upd_ne hca]; exact hC, hca, hl, i0, hi, r0⟩
def spHand (K : PySem.W.Frag) : Sp := fun vs H Q _ => ∃ (a : Addr) (ns : List Int), vs = [.ref a] ∧ SqL K H a (ns.map V.int) ∧ ns.length ≤ 1000 ∧
  ∀ (H' : Hp) (p c : Addr), Same H H' → H p = none → H c = none → HandAt H' p c 0 → Q (.ref p) H'
def spTake : Sp := fun vs H Q _ => ∃ (a c : Addr) (m : Int) (n : Nat), vs = [.ref a, .int m] ∧ HandAt H a c n ∧ n ≤ 10000 ∧ 0 < m ∧ m.natAbs < 2 ^ 200 ∧
  ∀ (H' : Hp) (q : Int), 0 ≤ q → q < m → HandAt H' a c (n + 1) → Kept a H H' → Q (.int q) H'
theorem dpInts {K : PySem.W.Frag} {H : Hp} : ∀ ns : List Int, DpAll K H (ns.map V.int) (ns.map PyData.int)
  | [] => .nil
  | n :: r => .cons (.int n) (dpInts r)
structure TxL (mg : Str → Option Value) : Prop where
  int : mg "int" = none
  len : mg "len" = none
  abs : mg "abs" = none
section
variable {P : Program} {w : World} {K : PySem.W.Frag} {mg : Str → Option Value} {base : Heap}
theorem scHand : FnScope ["_law_script", "_law_cell"] ["_law_script"] (defScope sJar) := ⟨rfl, rfl, rfl, by decide +kernel, rfl, by decide +kernel, by decide +kernel⟩
theorem ok_hand {f : Addr} {fd : FuncData} (F : Fun K "_law_pen" "_law_pen" sJar f fd) (T : TxL mg) : FnOk P w K mg base CX0 1 f fd ["_law_script"] (spHand K) := by
  refine F.ok scHand (fun vs H Q E h => ?_) (fun cdv A outer s H vs Q E hr h => ?_)
  · obtain ⟨a, ns, rfl, _⟩ := h
    rfl
  · obtain ⟨a, ns, rfl, hS, hlen, k⟩ := h
    refine ⟨_, pss_one (ps_ret (pe_lst (pa_cons (pe_lc (own := [("_law_cell", 1)]) (g := gName 1) (tt := tYes) rfl scHand.nd (pi_list (pe_slice sl_list (pv 0) po_none (po_some pe_int)))
      (blkOk_by (N := ["_law_script", "_law_cell"]) (sc := defScope sJar) (by decide +kernel)) (fun _ _ _ _ _ => pg_name (i := 1) scHand.nd rfl (Or.inl rfl)) (fun _ _ _ _ _ => pts_nil)
      (fun _ _ _ _ _ => pe_callTy call_int1 (by rfl) T.int (by decide +kernel) (pa_cons (pv 1) pa_nil))) (pa_cons pe_int (pa_cons pe_int pa_nil))))), ?_⟩
    refine ⟨_, rfl, 62, rfl, a, ns.map V.int, rfl, hS, fun p hp => ?_⟩
    refine ⟨p, rfl, ⟨_, SqL.of upd_same⟩, fun D hD => ?_⟩
    have hDp : D ≠ p := fun e => by
      rw [e, upd_same] at hD
      cases hD
    have hD0 : H D = none := by
      rw [upd_ne hDp] at hD
      exact hD
    have hc : cutV (ns.map V.int) none (some 62) = (ns.take 62).map V.int := by
      unfold cutV
      rw [List.map_take, List.length_map]
      have e0 : HT.sIx ns.length 0 none = 0 := rfl
      rw [e0, List.drop_zero]
      have e1 : HT.sIx ns.length ns.length (some 62) = min 62 ns.length := by
        unfold HT.sIx
        simp
        try omega
      rw [e1, Nat.sub_zero]
      by_cases h : 62 ≤ ns.length
      · rw [Nat.min_eq_left h]
      · rw [Nat.min_eq_right (by omega), List.take_of_length_le (by simp), List.take_of_length_le (by simp; omega)]
    refine lc_list (K := K) (a := p) (xs := (ns.take 62).map V.int) (fun i H' => H' D = some (.lst (((ns.take 62).take i).map V.int)) ∧ H' p = some (.lst ((ns.take 62).map V.int)) ∧ Same H H') ⟨upd_same, ?_, ?_⟩ (fun i H' _ q => SqL.of q.2.1) ?_ ?_
    · rw [upd_ne hDp.symm, upd_same, hc]
    · intro b o e
      rw [upd_ne (ne_of_none e hD0), upd_ne (ne_of_none e hp)]
      exact e
    · intro i x H' hi q
      obtain ⟨z, hz, rfl⟩ : ∃ z, (ns.take 62)[i]? = some z ∧ x = V.int z := by
        rw [List.getElem?_map] at hi
        cases e : (ns.take 62)[i]? with
        | none =>
          rw [e] at hi
          cases hi
        | some z =>
          rw [e] at hi
          exact ⟨z, rfl, (Option.some.inj hi).symm⟩
      have hli : i < (ns.take 62).length := (List.getElem?_eq_some_iff.mp hz).1
      have hl60 : (ns.take 62).length ≤ 62 := by rw [List.length_take]; omega
      refine ⟨rfl, ?_⟩
      refine yes_te ?_
      refine ⟨_, rfl, .inl ⟨z, rfl, _, q.1, Evl.sz_lt (by rw [List.length_map, List.length_take]; omega), ?_⟩⟩
      refine ⟨?_, ?_, ?_⟩
      · rw [upd_same]
        congr 2
        have ez : (ns.take 62)[i] = z := (List.getElem?_eq_some_iff.mp hz).2
        rw [List.take_succ_eq_append_getElem hli, ez, List.map_append]
        rfl
      · rw [upd_ne hDp.symm]
        exact q.2.1
      · intro b o e
        rw [upd_ne (ne_of_none e hD0)]
        exact q.2.2 b o e
    · intro H' q
      refine ⟨by show 3 ≤ sizeLine; decide, fun l hl => ?_⟩
      have hlD : D ≠ l := ne_of_none q.1 hl
      have hl0 : H l = none := by
        cases e : H l with
        | none => rfl
        | some o => rw [q.2.2 l o e] at hl; cases hl
      refine k _ l D (fun b o e => by rw [upd_ne (ne_of_none e hl0)]; exact q.2.2 b o e) hl0 hD0 ?_
      have q1 := q.1
      rw [List.length_map, List.take_length] at q1
      exact ⟨ns.take 62, 0, 0, upd_same, by rw [upd_ne hlD]; exact q1, hlD, by rw [List.length_take]; omega, Int.le_refl _, Int.le_refl _, Int.le_refl _⟩
theorem scTake : FnScope ["_law_pen_here", "_law_many", "_law_rest", "_law_at", "_law_cell", "_law_mixed_here"] ["_law_pen_here", "_law_many"] (defScope sDraw) := ⟨rfl, rfl, rfl, by decide +kernel, rfl, by decide +kernel, by decide +kernel⟩
theorem ok_take {f : Addr} {fd : FuncData} (F : Fun K "_law_draw" "_law_draw" sDraw f fd) (T : TxL mg) : FnOk P w K mg base CX0 1 f fd ["_law_pen_here", "_law_many"] spTake := by
  refine F.ok scTake (fun vs H Q E h => ?_) (fun cdv A outer s H vs Q E hr h => ?_)
  · obtain ⟨a, c, m, n, rfl, _⟩ := h
    rfl
  · obtain ⟨a, c, m, n, rfl, ⟨ns, i, r, hA, hC, hca, hlen, i0, hi, r0⟩, hn, m0, hm, k⟩ := h
    refine ⟨_, pss_cons (ps_if (pt_cmpR op_gt (pe_ix ix_list (pv 0) pe_int (fun _ _ => rfl)) pe_int (nomark _))
        (pss_cons (ps_set (i := 2) scTake.nd rfl (Or.inl rfl) (pe_callTy call_int1 (by rfl) T.int (by decide +kernel) (pa_cons (pe_ix ix_list (pv 0) pe_int (fun _ _ => rfl)) pa_nil)))
        (pss_cons (ps_asg (pe_op op_fdivW (pv 2) (pv 1)) (pg_sub (pv 0) pe_int set_list))
        (pss_one (ps_ret (pe_op op_mod (pe_callTy call_int1 (by rfl) T.int (by decide +kernel) (pa_cons (pv 2) pa_nil)) (pv 1)))))) pss_nil)
      (pss_cons (ps_set (i := 3) scTake.nd rfl (Or.inl rfl) (pe_ix ix_list (pv 0) pe_int (fun _ _ => rfl)))
      (pss_cons (ps_asg (pe_op op_add (pv 3) pe_int) (pg_sub (pv 0) pe_int set_list))
      (pss_cons (ps_set (i := 4) scTake.nd rfl (Or.inl rfl) (pe_op op_add (pe_op op_mul pe_int (pv 3)) pe_int))
      (Evl.pss_cut (ps_if (pt_cmpR (op_neD hr.units) (pe_ix ix_list (pv 0) pe_int (fun _ _ => rfl)) (pe_lst pa_nil) (nomark _))
        (pss_one (ps_set (i := 4) scTake.nd rfl (Or.inl rfl) (pe_ix ix_list (pe_ix ix_list (pv 0) pe_int (fun _ _ => rfl)) (pe_op op_mod (pe_callTy call_int1 (by rfl) T.int (by decide +kernel) (pa_cons (pv 3) pa_nil)) (pe_callB call_len_seq (by rfl) T.len PySem.boot_len (pa_cons (pe_ix ix_list (pv 0) pe_int (fun _ _ => rfl)) pa_nil))) (fun _ _ => rfl)))) pss_nil)
      (Evl.pss_cut (ps_if (PW.pt (pw_and (pt_cmpR op_lt (pv 3) (pe_callB call_len_seq (by rfl) T.len PySem.boot_len (pa_cons (pe_ix ix_list (pv 0) pe_int (fun _ _ => rfl)) pa_nil)) (nomark _)) (pw_and1 (pt_cmpR op_ge (pe_callB call_abs (by rfl) T.abs (by decide +kernel) (pa_cons (pv 4) pa_nil)) (pe_op op_pow pe_int pe_int) (nomark _)))))
        (pss_cons (ps_set (i := 2) scTake.nd rfl (Or.inl rfl) (pe_op op_add (pe_op op_mul pe_int (pe_op op_sub (pe_callB call_abs (by rfl) T.abs (by decide +kernel) (pa_cons (pv 4) pa_nil)) (pe_op op_pow pe_int pe_int))) (pe_callTy call_int1 (by rfl) T.int (by decide +kernel) (pa_cons (pe_cmpR op_lt (pv 4) pe_int (nomark _)) pa_nil))))
        (pss_cons (ps_asg (pe_op op_fdivW (pe_callTy call_int1 (by rfl) T.int (by decide +kernel) (pa_cons (pv 2) pa_nil)) (pv 1)) (pg_sub (pv 0) pe_int set_list))
        (pss_one (ps_ret (pe_op op_mod (pe_callTy call_int1 (by rfl) T.int (by decide +kernel) (pa_cons (pv 2) pa_nil)) (pv 1)))))) pss_nil)
      (pss_cons (ps_set (i := 5) scTake.nd rfl (Or.inl rfl) (pe_op op_mod (pe_callTy call_int1 (by rfl) T.int (by decide +kernel) (pa_cons (pe_op op_pow (pe_op op_add (pe_op op_add (pe_op op_mod (pe_callTy call_int1 (by rfl) T.int (by decide +kernel) (pa_cons (pv 4) pa_nil)) pe_int) (pe_op op_mul pe_int (pv 3))) pe_int) pe_int) pa_nil)) pe_int))
      (pss_cons (ps_set (i := 5) scTake.nd rfl (Or.inl rfl) (pe_op op_mod (pe_callTy call_int1 (by rfl) T.int (by decide +kernel) (pa_cons (pe_op op_pow (pe_op op_add (pe_op op_add (pe_op op_mul (pv 5) (pe_op op_add (pe_op op_mul pe_int (pv 3)) pe_int)) (pe_op op_mul (pe_op op_mul pe_int (pv 3)) (pv 3))) pe_int) pe_int) pa_nil)) pe_int))
      (pss_one (ps_ret (pe_op op_mod (pe_callTy call_int1 (by rfl) T.int (by decide +kernel) (pa_cons (pe_op op_fdiv (pv 5) pe_int) pa_nil)) (pv 1)))))))))))
      , ?_⟩
    have hdv : ∀ x : Int, CDivW x m := fun x => wide_div m0 hm (by decide) (by decide)
    -- if hand[2] > 0
    refine ⟨_, rfl, a, _, 2, _, rfl, rfl, SqL.of hA, rfl, _, _, rfl, rfl, _, rfl, ?_⟩
    refine ite2 (fun hp => ?_) (fun _ => ?_)
    · refine ⟨_, rfl, a, _, 2, _, rfl, rfl, SqL.of hA, rfl, .inl ⟨_, rfl, ?_⟩⟩
      refine ⟨_, rfl, _, rfl, _, _, rfl, rfl, hdv _, _, rfl, a, _, 2, 2, rfl, rfl, hA, rfl, ?_⟩
      refine ⟨_, rfl, .inl ⟨_, rfl, _, rfl, _, _, rfl, rfl, m0, ?_⟩⟩
      exact k _ (r % m) (Int.emod_nonneg _ (by omega)) (Int.emod_lt_of_pos _ m0) (HandAt.put hC hca hlen i0 (by omega) (Int.ediv_nonneg r0 (by omega))) Kept.upd
    -- at = hand[1]; hand[1] = at + 1; cell = ..
    refine ⟨_, rfl, a, _, 1, _, rfl, rfl, SqL.of hA, rfl, ?_⟩
    refine ⟨_, rfl, _, _, rfl, rfl, _, rfl, a, _, 1, 1, rfl, rfl, hA, rfl, ?_⟩
    refine ⟨_, rfl, _, _, rfl, rfl, .inl ⟨by decide, by decide⟩, _, _, rfl, rfl, ?_⟩
    -- H1: the heap behind this
    obtain ⟨H1, eH1⟩ : ∃ H1, H1 = upd H a (.lst [.ref c, .int (i + 1), .int r]) := ⟨_, rfl⟩
    have kH : Kept a H H1 := by rw [eH1]; exact Kept.upd
    have hA1 : H1 a = some (.lst [.ref c, .int (i + 1), .int r]) := by rw [eH1]; exact upd_same
    have hC1 : H1 c = some (.lst (ns.map V.int)) := by rw [eH1, upd_ne hca]; exact hC
    show Evl.tCut _ _ _ _ (upd H a (.lst [.ref c, .int (i + 1), .int r]))
    rw [← eH1]
    refine ⟨fun σ' H' => Same H1 H' ∧ ∃ cell : Int, σ' = [some (.ref a), some (.int m), none, some (.int i), some (.int cell), none], ?_, ?_⟩
    · refine ⟨_, rfl, a, _, 0, _, rfl, rfl, SqL.of hA1, rfl, Nat.zero_le _, fun p hp => ?_⟩
      have hcp : c ≠ p := ne_of_none hC1 hp
      have hap : a ≠ p := ne_of_none hA1 hp
      have sm : Same H1 (upd H1 p (.lst [])) := fun b o e => by rw [upd_ne (ne_of_none e hp)]; exact e
      refine ⟨.list (ns.map PyData.int), .list [], .lst (SqL.of (sm _ _ hC1)) (dpInts ns), .lst (SqL.of upd_same) .nil, PySem.W.ke_shaped_ints ns, rfl, _, rfl, ?_⟩
      refine ite2 (fun hne => ?_) (fun _ => ?_)
      · have hn0 : 0 < ns.length := by
          cases ns with
          | nil => exact absurd hne (by decide)
          | cons x xs => exact Nat.succ_pos _
        have hl0 : (0 : Int) < (((ns.map V.int).length : Nat) : Int) := by rw [List.length_map]; omega
        have hj0 : 0 ≤ i % (((ns.map V.int).length : Nat) : Int) := Int.emod_nonneg _ (by omega)
        have hj1 : i % (((ns.map V.int).length : Nat) : Int) < (((ns.map V.int).length : Nat) : Int) := Int.emod_lt_of_pos _ hl0
        obtain ⟨j, hj⟩ : ∃ j : Nat, i % (((ns.map V.int).length : Nat) : Int) = (j : Int) := ⟨(i % (((ns.map V.int).length : Nat) : Int)).toNat, by omega⟩
        have hjl : j < ns.length := by rw [List.length_map] at hj1 hj; omega
        refine ⟨_, rfl, a, _, 0, _, rfl, rfl, SqL.of (sm _ _ hA1), rfl, _, rfl, .inl ⟨_, rfl, ?_⟩⟩
        refine ⟨_, rfl, a, _, 0, _, rfl, rfl, SqL.of (sm _ _ hA1), rfl, c, _, rfl, .inl (SqL.of (sm _ _ hC1)), _, _, rfl, rfl, hl0, c, _, _, .int ns[j], rfl, rfl, SqL.of (sm _ _ hC1), ?_, ?_⟩
        · rw [hj]
          exact atI_nat (by rw [List.getElem?_map, List.getElem?_eq_getElem hjl]; rfl)
        · exact ⟨sm, ns[j], rfl⟩
      · exact ⟨sm, _, rfl⟩
    · rintro σ' H2 ⟨sm, cell, rfl⟩
      have hA2 := sm _ _ hA1
      have hC2 := sm _ _ hC1
      have kH2 : Kept a H H2 := fun b o e q => sm b o (kH b o e q)
      -- a great cell: what is left of it
      refine ⟨fun σ' H' => σ' = [some (.ref a), some (.int m), none, some (.int i), some (.int cell), none] ∧ H' = H2, ?_, ?_⟩
      · refine ⟨_, rfl, _, rfl, a, _, 0, _, rfl, rfl, SqL.of hA2, rfl, c, _, rfl, .inl (SqL.of hC2), _, _, rfl, rfl, _, rfl, ?_⟩
        refine ite2 (fun _ => ?_) (fun _ => ?_)
        · refine ⟨_, rfl, cell, rfl, _, _, rfl, rfl, ⟨by decide, by decide, by decide⟩, _, _, rfl, rfl, _, rfl, ?_⟩
          refine ite2 (fun hge => ?_) (fun _ => ⟨rfl, rfl⟩)
          have hge' := of_decide_eq_true hge
          refine ⟨_, rfl, cell, rfl, _, _, rfl, rfl, ⟨by decide, by decide, by decide⟩, _, _, rfl, rfl, _, _, rfl, rfl, .inl ⟨by decide, by decide⟩, _, rfl, _, _, rfl, rfl, .inr ⟨_, rfl, _, _, rfl, rfl, ?_⟩⟩
          have hr2 : ∀ b : Bool, 0 ≤ 2 * ((if cell < 0 then -cell else cell) - (10 : Int) ^ Int.toNat 18) + (if b = true then 1 else 0) := by
            intro b
            have e1 : (if b = true then (1 : Int) else 0) ≥ 0 := by cases b <;> decide
            have e2 : (10 : Int) ^ Int.toNat 18 ≤ (if cell < 0 then -cell else cell) := hge'
            omega
          refine ⟨_, rfl, .inl ⟨_, rfl, _, rfl, _, _, rfl, rfl, hdv _, _, rfl, a, _, 2, 2, rfl, rfl, hA2, rfl, ?_⟩⟩
          refine ⟨_, rfl, .inl ⟨_, rfl, _, rfl, _, _, rfl, rfl, m0, ?_⟩⟩
          exact k _ _ (Int.emod_nonneg _ (by omega)) (Int.emod_lt_of_pos _ m0) (HandAt.put hC2 hca hlen (by omega) (by omega) (Int.ediv_nonneg (hr2 _) (by omega))) (kH2.trans Kept.upd)
        · exact ⟨rfl, rfl⟩
      · rintro σ' H3 ⟨rfl, rfl⟩
        have hin : i ≤ 10000 := by omega
        have b1 : 0 ≤ cell % 2147483563 := Int.emod_nonneg _ (by decide)
        have b2 : cell % 2147483563 < 2147483563 := Int.emod_lt_of_pos _ (by decide)
        refine ⟨_, rfl, .inl ⟨_, rfl, _, _, rfl, rfl, (by decide : (0 : Int) < 2147483563), _, rfl, _, _, rfl, rfl, .inl ⟨by decide, by decide⟩, _, _, rfl, rfl, _, _, rfl, rfl, _, _, rfl, rfl, ⟨by decide, by decide, ?_⟩, ?_⟩⟩
        · show (cell % 2147483563 + 40153 * i + 7177).natAbs < 2 ^ 64
          have e : (2 : Nat) ^ 64 = 18446744073709551616 := by decide
          rw [e]
          omega
        have hb : ∀ x : Int, ((x % 2147483549) * (2 * i + 2239) + 56149 * i * i + 60077).natAbs < 2 ^ 64 := by
          intro x
          have b3 : 0 ≤ x % 2147483549 := Int.emod_nonneg _ (by decide)
          have b4 : x % 2147483549 < 2147483549 := Int.emod_lt_of_pos _ (by decide)
          have e : (2 : Nat) ^ 64 = 18446744073709551616 := by decide
          have c1 : 0 ≤ (x % 2147483549) * (2 * i + 2239) := Int.mul_nonneg b3 (by omega)
          have c2 : (x % 2147483549) * (2 * i + 2239) ≤ 2147483549 * 22239 := Int.mul_le_mul (by omega) (by omega) (by omega) (by omega)
          have c3 : 0 ≤ 56149 * i * i := Int.mul_nonneg (by omega) i0
          have c4 : 56149 * i * i ≤ 561490000 * 10000 := Int.mul_le_mul (by omega) hin i0 (by omega)
          rw [e]
          omega
        have hc : ∀ x : Int, CMul (x % 2147483549) (2 * i + 2239) := by
          intro x
          have b3 : 0 ≤ x % 2147483549 := Int.emod_nonneg _ (by decide)
          have b4 : x % 2147483549 < 2147483549 := Int.emod_lt_of_pos _ (by decide)
          exact .inl ⟨by omega, by omega⟩
        refine .inl ⟨_, rfl, _, _, rfl, rfl, (by decide : (0 : Int) < 2147483549), ?_⟩
        refine ⟨_, rfl, _, rfl, _, _, rfl, rfl, .inl ⟨by decide, by decide⟩, _, _, rfl, rfl, _, _, rfl, rfl, hc _, _, rfl, _, _, rfl, rfl, .inl ⟨by decide, by decide⟩, _, rfl, _, _, rfl, rfl, .inl ⟨by omega, by omega⟩, _, _, rfl, rfl, _, _, rfl, rfl, _, _, rfl, rfl, ⟨by decide, by decide, hb _⟩, ?_⟩
        refine .inl ⟨_, rfl, _, _, rfl, rfl, (by decide : (0 : Int) < 2147483629), ?_⟩
        refine ⟨_, rfl, _, _, rfl, rfl, ⟨by decide, by decide⟩, .inl ⟨_, rfl, _, rfl, _, _, rfl, rfl, m0, ?_⟩⟩
        exact k _ _ (Int.emod_nonneg _ (by omega)) (Int.emod_lt_of_pos _ m0) ⟨ns, i + 1, r, hA2, hC2, hca, hlen, by omega, by omega, r0⟩ kH2
end
end W16
set_option Elab.async false
set_option linter.all false
set_option maxRecDepth 100000
set_option maxHeartbeats 2000000
namespace W16
open PySem L2 PySem.Spec PyProof.Rows WR WB
structure EqW (P : Program) (w : World) (K : PySem.W.Frag) (mg : Str → Option Value) (base : Heap) (C : Addr) : Prop where
  ex : ∃ (f : Addr) (fd : FuncData), FnOk P w K mg base CX0 1 f fd ["self", "other"] (spEq K C) ∧ PySem.W.findIn K (.ref C) "__eq__" = some (some (.ref f)) ∧ PySem.W.isFn K (.ref f) = true ∧ Binds K fd ["self", "other"] []
end W16
set_option Elab.async false
set_option linter.all false
set_option maxRecDepth 100000
set_option maxHeartbeats 2000000
/-! x != y, of two instances whose class has an own == and no own !=. -/
set_option Elab.async false
set_option linter.all false
set_option maxRecDepth 100000
set_option maxHeartbeats 2000000
namespace W16
open PySem L2 PySem.Spec PyProof.Rows WR WB
abbrev sPick : Stmt := top 69
def Drew (a c : Addr) (n : Nat) (H H' : Hp) : Prop := HandAt H' a c n ∧ Kept a H H'
theorem HandAt.mono {H : Hp} {a c : Addr} {m n : Nat} (h : HandAt H a c m) (l : m ≤ n) : HandAt H a c n := by
  obtain ⟨ns, i, r, h1, h2, h3, h4, h5, h6, h7⟩ := h
  exact ⟨ns, i, r, h1, h2, h3, h4, h5, by omega, h7⟩
theorem HandAt.off {H : Hp} {a c p : Addr} {n : Nat} {o : HO} (h : HandAt H a c n) (h1 : p ≠ a) (h2 : p ≠ c) : HandAt (L2.upd H p o) a c n := by
  obtain ⟨ns, i, r, h3, h4, h5⟩ := h
  exact ⟨ns, i, r, by rw [upd_ne h1.symm]; exact h3, by rw [upd_ne h2.symm]; exact h4, h5⟩
theorem HandAt.ne {H : Hp} {a c p : Addr} {n : Nat} (h : HandAt H a c n) (hp : H p = none) : p ≠ a := by
  obtain ⟨ns, i, r, h1, _⟩ := h
  exact (ne_of_none h1 hp).symm
theorem HandAt.neC {H : Hp} {a c p : Addr} {n : Nat} (h : HandAt H a c n) (hp : H p = none) : p ≠ c := by
  obtain ⟨ns, i, r, h1, h2, _⟩ := h
  exact (ne_of_none h2 hp).symm
theorem HandAt.new {H : Hp} {a c p : Addr} {n : Nat} {o : HO} (h : HandAt H a c n) (hp : H p = none) : HandAt (L2.upd H p o) a c n := h.off (h.ne hp) (h.neC hp)
theorem Drew.refl {a c : Addr} {n : Nat} {H : Hp} (h : HandAt H a c n) : Drew a c n H H := ⟨h, Kept.refl⟩
theorem Drew.trans {a c : Addr} {m n : Nat} {H H1 H2 : Hp} (h1 : Drew a c m H H1) (h2 : Drew a c n H1 H2) : Drew a c n H H2 := ⟨h2.1, h1.2.trans h2.2⟩
theorem Drew.new {a c p : Addr} {n : Nat} {H H1 : Hp} {o : HO} (h : Drew a c n H H1) (hp : H1 p = none) : Drew a c n H (L2.upd H1 p o) := ⟨h.1.new hp, h.2.new hp⟩
theorem Drew.mono {a c : Addr} {m n : Nat} {H H1 : Hp} (h : Drew a c m H H1) (l : m ≤ n) : Drew a c n H H1 := ⟨h.1.mono l, h.2⟩
/-- an object that was not there at first may change -/
theorem Drew.put {a c p : Addr} {n : Nat} {H H1 : Hp} {o : HO} (h : Drew a c n H H1) (h0 : H p = none) (h1 : p ≠ a) (h2 : p ≠ c) : Drew a c n H (L2.upd H1 p o) :=
  ⟨h.1.off h1 h2, fun b u nb e => by rw [upd_ne (ne_of_none e h0)]; exact h.2 b u nb e⟩
theorem Drew.back {a c p : Addr} {n : Nat} {H H1 : Hp} (h : Drew a c n H H1) (hp : H1 p = none) : H p = none := by
  cases e : H p with
  | none => rfl
  | some o =>
    have q := h.2 p o (h.1.ne hp) e
    rw [hp] at q
    cases q
theorem HandAt.same {H H' : Hp} {a c : Addr} {n : Nat} (h : HandAt H a c n) (s : Same H H') : HandAt H' a c n := by
  obtain ⟨ns, i, r, h1, h2, h3⟩ := h
  exact ⟨ns, i, r, s _ _ h1, s _ _ h2, h3⟩
theorem Drew.same {a c : Addr} {n : Nat} {H H1 H2 : Hp} (h : Drew a c n H H1) (s : Same H1 H2) : Drew a c n H H2 := ⟨h.1.same s, fun b o nb e => s b o (h.2 b o nb e)⟩
def spPick : Sp := fun vs H Q _ => ∃ (a c p : Addr) (xs : List V) (n : Nat), vs = [.ref a, .ref p] ∧ HandAt H a c n ∧ n ≤ 10000 ∧ p ≠ a ∧ H p = some (.lst xs) ∧ 0 < xs.length ∧ xs.length ≤ 1000 ∧ ∀ v ∈ xs, ∀ H', Drew a c (n + 1) H H' → Q v H'
section
variable {P : Program} {w : World} {K : PySem.W.Frag} {mg : Str → Option Value} {base : Heap}
theorem scPick : FnScope ["_law_pen_here", "_law_some"] ["_law_pen_here", "_law_some"] (defScope sPick) := ⟨rfl, rfl, rfl, by decide +kernel, rfl, by decide +kernel, by decide +kernel⟩
theorem ok_pick {f : Addr} {fd : FuncData} (F : Fun K "_law_pick" "_law_pick" sPick f fd) (GT : Cal P w K mg base "_law_draw" 1 ["_law_pen_here", "_law_many"] spTake) (T : TxL mg) : FnOk P w K mg base CX0 2 f fd ["_law_pen_here", "_law_some"] spPick := by
  refine F.ok scPick (fun vs H Q E h => ?_) (fun cdv A outer s H vs Q E hr h => ?_)
  · obtain ⟨a, c, p, xs, n, rfl, _⟩ := h
    rfl
  · obtain ⟨a, c, p, xs, n, rfl, hH, hn, hpa, hp, h0, h1, k⟩ := h
    refine ⟨_, pss_one (ps_ret (pe_ix ix_list (pv 1) (pe_cal GT hr (by decide) (by rfl) (pa_cons (pv 0) (pa_cons (pe_callB call_len_seq (by rfl) T.len PySem.boot_len (pa_cons (pv 1) pa_nil)) pa_nil))) (fun _ _ => rfl))), ?_⟩
    refine ⟨_, rfl, _, rfl, _, rfl, p, _, rfl, .inl (SqL.of hp), a, c, _, n, rfl, hH, hn, by omega, ?_, ?_⟩
    · have : (((xs.length : Nat) : Int)).natAbs ≤ 1000 := by omega
      exact Nat.lt_of_le_of_lt this (by decide)
    · intro H' q q0 q1 hH' hK
      obtain ⟨j, rfl⟩ : ∃ j : Nat, q = (j : Int) := ⟨q.toNat, by omega⟩
      have hj : j < xs.length := by omega
      refine ⟨p, xs, _, xs[j], rfl, rfl, SqL.of (hK _ _ hpa hp), atI_nat (List.getElem?_eq_getElem hj), ?_⟩
      exact k _ (List.getElem_mem hj) H' ⟨hH', hK⟩
end
end W16
set_option Elab.async false
set_option linter.all false
set_option maxRecDepth 100000
set_option maxHeartbeats 2000000
/-! C.m(..), m a staticmethod of the class C. -/
set_option Elab.async false
set_option linter.all false
set_option maxRecDepth 100000
set_option maxHeartbeats 2000000
/-! str(x), len(x), x an instance of an own class with an own __str__, __len__. -/
set_option Elab.async false
set_option linter.all false
set_option maxRecDepth 100000
set_option maxHeartbeats 2000000
/-! A text parted at a sign, and put together again. -/
namespace MText
open PySem PySem.StrLaws Builtin Builtin.Str
/-- the places of c -/
def places (x : Str) (c a n : Nat) : List Nat := (List.range' a n).filter fun i => decide (x.cps.toList[i]? = some c)
end MText
set_option Elab.async false
set_option linter.all false
set_option maxRecDepth 100000
set_option maxHeartbeats 4000000
set_option Elab.async false
set_option linter.all false
set_option maxRecDepth 100000
set_option maxHeartbeats 1000000
/-! repr of data, by defs that are called where no repr is under way. -/
namespace RG
open PySem L2 PySem.Spec PyProof.Rows
/-- a def's promise where no repr is under way -/
structure FnG (P : Program) (w : World) (K : PySem.W.Frag) (mg : Str → Option Value) (base : Heap) (k : Nat) (f : Addr) (fd : FuncData) (ps : List Str) (sp : Sp) : Prop where
  many : ∀ zs G R S, sp zs G R S → zs.length = ps.length
  does : ∀ (B : Around) (fr : List Env) (t : Shared) (G : Hp) (as : Args) (us : List Value) (zs : List V) (R : VK) (S : XK), B.guards = some [] → Room k B → Env0 P w K mg base B fr t G → BindsTo t fd as (ps.zip us) → Vals zs us → sp zs G R S →
    codeAny (model P w) B (.call (.ref f) as) (CR CX0 fr P w G t R S) t
theorem FnG.mono {P : Program} {w : World} {K : PySem.W.Frag} {mg : Str → Option Value} {base : Heap} {j k : Nat} {f : Addr} {fd : FuncData} {ps : List Str} {sp : Sp} (F : FnG P w K mg base j f fd ps sp) (h : j ≤ k) : FnG P w K mg base k f fd ps sp :=
  ⟨F.many, fun B fr t G as us zs R S g room => F.does B fr t G as us zs R S g (room.mono h)⟩
end RG
set_option Elab.async false
set_option linter.all false
set_option maxRecDepth 100000
set_option maxHeartbeats 1000000
/-! the law's own call: no repr is under way. -/
set_option Elab.async false
set_option linter.all false
set_option maxRecDepth 100000
set_option maxHeartbeats 4000000
/-! set(a list of ints). -/
namespace WS
open PySem PySem.Spec PyProof.Rows L2
section
variable {P : Program} {w : World} {A : Around} {E : Value → Shared → Prop} {s : Shared}
/-- the heap with the new set, and with the walk of the list besides -/
abbrev hSet (w : World) (s : Shared) : Heap := s.heap.push (bareSet w)
abbrev hWalk (w : World) (s : Shared) (l : Addr) : Heap := (hSet w s).push { cls := .type "list_iterator", data := .fields #[.ref l, .int 0 0] }
theorem bare_zero {h : Heap} {a : Addr} {ns : List Int} (e : h.get? a = some (bareSet w)) : SetR w h a (fun j => decide (j ∈ ns.take 0)) 0 := setR_new_at e
/-- what set.__init__ leaves -/
def Filled (w : World) (s : Shared) (ns : List Int) (t : Shared) : Prop :=
  ∃ (g : Heap) (k m : Nat), t = { s with heap := g, toks := k } ∧ SetR w g s.heap.objs.size (fun j => decide (j ∈ ns)) m ∧ m ≤ ns.length ∧ ∀ b o, s.heap.get? b = some o → g.get? b = some o
theorem init_list {l : Addr} {its : Array Value} {ns : List Int} (quiet : A.handled = none) (hl : s.heap.IsList l its) (hit : IntsAre its.toList ns) (few : ns.length + 1 < scanBound) :
    wpAny (model P w) A (Builtin.«set.__init__» ⟨[.ref s.heap.objs.size, .ref l], []⟩) (fun r t => r = .done (.ret .none) ∧ Filled w s ns t) E { s with heap := hSet w s } := by
  have many : its.size = ns.length := by have z := hit.length; rwa [Array.length_toList] at z
  have new : (hSet w s).get? s.heap.objs.size = some (bareSet w) := Heap.get?_push_size _ rfl
  have old : ∀ {b o}, s.heap.get? b = some o → (hSet w s).get? b = some o := fun e => Heap.get?_push_of_some _ e
  have ty : Shared.TypeIs { s with heap := hSet w s } (.ref s.heap.objs.size) "set" := ⟨_, new, rfl⟩
  have hl1 : (hSet w s).IsList l its := hl.push _
  have lo : l < s.heap.objs.size := by obtain ⟨_, e, _⟩ := hl; exact Heap.lt_size e
  have sz : (hSet w s).objs.size = s.heap.objs.size + 1 := Heap.size_push ..
  obtain ⟨⟨c0, d0, x0, o0⟩, at0, cls0, n0, dat0⟩ := id hl1
  simp only at cls0 dat0
  subst cls0 dat0
  have u1 := PySem.F.sub_list_set
  have u2 := PySem.F.sub_list_frozenset
  have u3 : (Value.type "list" == Value.type "dict") = false := rfl
  unfold Builtin.«set.__init__» noKeywords Builtin.Frozenset.updateFrom
  generalize hid : pyIter = it
  wp_walk
  subst hid
  refine wpAny_pyIter_list hl1 (wpAny_bind (wpAny_runValue ?_))
  have off : s.heap.objs.size ∉ [(hSet w s).objs.size, l] := by
    intro m
    rcases List.mem_cons.mp m with m | m
    · exact absurd (m.trans sz) (Nat.ne_of_lt (Nat.lt_succ_self _))
    · exact absurd (List.mem_singleton.mp m).symm (Nat.ne_of_lt lo)
  have apart : l ≠ (hSet w s).objs.size := fun e => absurd (e.trans sz) (Nat.ne_of_lt (Nat.lt_succ_of_lt lo))
  refine set_update_ints (Walks.list (by simpa using quiet) _ l apart its).toS _ off ns many few (fun i v q => ?_) (its.size - 0) 0 { s with heap := hWalk w s l } (by omega) (Nat.zero_le _) ⟨⟨_, Heap.get?_push_size _ rfl, rfl, rfl⟩, hl1.push _⟩ ⟨0, Nat.le_refl 0, bare_zero (Heap.get?_push_of_some _ new)⟩ fun t m mv le S => ?_
  · have lt : i < ns.length := by rw [← many]; exact (Array.getElem?_eq_some_iff.mp q).1
    obtain ⟨k, e⟩ := hit.int_at i v (by rw [Array.getElem?_toList]; exact q)
    rw [List.getD_eq_getElem?_getD, List.getElem?_eq_getElem lt] at e
    exact ⟨_, k, List.getElem?_eq_getElem lt, e⟩
  · obtain ⟨g, q, d, k, z⟩ := t
    obtain rfl : q = s.gens := mv.gens
    obtain rfl : d = s.drawn := mv.drawn
    obtain rfl : z = s.os := mv.os
    refine wpAny_pure (wpAny_pure ⟨rfl, g, k, m, rfl, S, by rw [← many]; exact le, fun b o e => ?_⟩)
    have lb : b < s.heap.objs.size := Heap.lt_size e
    refine mv.heap b o (fun h => ?_) (Heap.get?_push_of_some _ (old e))
    rcases List.mem_cons.mp h with h | h
    · exact absurd h (Nat.ne_of_lt lb)
    · exact absurd ((List.mem_singleton.mp h).trans sz) (Nat.ne_of_lt (Nat.lt_succ_of_lt lb))
/-- set(xs) of a list of ints -/
theorem set_list {l : Addr} {its : Array Value} {ns : List Int} {Q : Value → Shared → Prop} (quiet : A.handled = none) (hl : s.heap.IsList l its) (hit : IntsAre its.toList ns) (few : ns.length + 1 < scanBound)
    (fin : ∀ t, Filled w s ns t → Q (.ref s.heap.objs.size) t) : wpAny (model P w) A (call (.type "set") [.ref l]) Q E s := by
  have F := PySem.F.called_set
  obtain ⟨top, below, mro⟩ := F.mro
  have f1 := F.made; have f2 := F.sub; have f3 := F.notType; have f4 := F.canCreate
  have f5 := PySem.F.typeCall_set_1 (.ref l)
  have new : (hSet w s).get? s.heap.objs.size = some (bareSet w) := Heap.get?_push_size _ rfl
  have ty : Shared.TypeIs { s with heap := hSet w s } (.ref s.heap.objs.size) "set" := ⟨_, new, rfl⟩
  have f6 := F.init.lookup; have f7 := F.init.bind (.ref s.heap.objs.size)
  refine wpAny_call (codeAny_of_tree (show wpAny _ _ (callAny (.type "set") _) _ _ _ from wpAny_pure ⟨Code.quiet_builtin _ (by decide +kernel), codeAny_builtin PySem.F.entry_type_call ?_⟩))
  rw [Around.under_plain (weight_type_call_type "set" [.ref l] []) rfl]
  repeat (any_goals (first | assumption | wp_step))
  refine codeAny_mono (code_set_led1 (.ref l) (E := E) (Q₁ := fun v t => v = .ref s.heap.objs.size ∧ t = { s with heap := hSet w s }) ⟨rfl, rfl⟩) ?_
  rintro (e | fl) t ht
  · exact ht
  cases fl with
  | next => exact ht.elim
  | brk => exact ht.elim
  | cont => exact ht.elim
  | ret v =>
  obtain ⟨rfl, rfl⟩ := ht
  repeat (any_goals (first | assumption | wp_step))
  refine codeAny_mono (codeAny_call_builtin (R := wants (fun v t => v = .none ∧ Filled w s ns t) E) F.init.plain PySem.F.entry_set_init (check_set_init_1 ty ?_)) ?_
  · refine wpAny_mono (init_list (by simpa using quiet) hl hit few) ?_ fun _ _ z => z
    rintro _ t ⟨rfl, z⟩
    exact ⟨rfl, z⟩
  rintro (e | fl) t ht
  · exact ht
  cases fl with
  | next => exact ht.elim
  | brk => exact ht.elim
  | cont => exact ht.elim
  | ret v =>
  obtain ⟨rfl, z⟩ := ht
  repeat (any_goals (first | assumption | wp_step))
  exact fin _ z
end
section
variable {X : Cx}
def rSetLI (K : PySem.W.Frag) (w : World) : List V → Hp → VK → Prop := fun xs H Q => ∃ (p : Addr) (ns : List Int), xs = [.ref p] ∧ SqL K H p (ns.map V.int) ∧ ns.length ≤ 1000 ∧
  ∀ (D : Addr) (L : List Int), H D = none → L.Nodup → (∀ k, k ∈ L ↔ k ∈ ns) → Q (.ref D) (upd H D (SetO w D (fun j => decide (j ∈ ns)) L.length))
theorem call_setLI (hc : X.calm = true) : CallR X (.type "set") (rSetLI X.K X.w) := by
  intro pins s σ H xs us Q I rel ask
  obtain ⟨p, ns, rfl, hs, few, q⟩ := ask
  obtain ⟨u, rfl, ru⟩ := vals1 rel
  cases ru
  obtain ⟨its, rv, pl, hlen⟩ := I.list hs
  refine set_list (ns := ns) (I.ok.hd hc) pl.isList (by simpa using ints_of_vals rv) (by unfold scanBound; omega) fun t ⟨g, k, m, e, S, le, keep⟩ => ?_
  subst e
  have J := I.laid (t' := k) keep (Nat.le_refl _) (setO_new S)
  obtain ⟨o, es, ep, tb, e1, e2, e3, e4, nd, mem, e5, e6, sz, _⟩ := S
  have z := q s.heap.objs.size (es.toList.map keyOf) (I.hok.fresh (Nat.le_refl _)) nd fun k => by rw [← mem k, decide_eq_true_eq]
  rw [List.length_map, Array.length_toList, sz] at z
  exact ⟨.ref _, _, J, rfl, z⟩
end
end WS
set_option linter.all false
/-! The least turned form of a row, by two places that race. -/
namespace Lt
/-- the row from place p on, read round, is less than that from place q on -/
def Ls (f : Nat → Int) (n p q : Nat) : Prop := ∃ k, k < n ∧ (∀ t, t < k → f (p + t) = f (q + t)) ∧ f (p + k) < f (q + k)
theorem Ls.irr {f n p} : ¬ Ls f n p p := by
  rintro ⟨k, _, _, h⟩
  omega
theorem Ls.trans {f : Nat → Int} {n p q r : Nat} (h1 : Ls f n p q) (h2 : Ls f n q r) : Ls f n p r := by
  obtain ⟨k, hk, e1, l1⟩ := h1
  obtain ⟨m, hm, e2, l2⟩ := h2
  by_cases h : k < m
  · exact ⟨k, hk, fun t ht => (e1 t ht).trans (e2 t (by omega)), by rw [← e2 k h]; exact l1⟩
  · by_cases h' : m < k
    · exact ⟨m, hm, fun t ht => (e1 t (by omega)).trans (e2 t ht), by rw [e1 m h']; exact l2⟩
    · have : k = m := by omega
      subst this
      exact ⟨k, hk, fun t ht => (e1 t ht).trans (e2 t ht), by omega⟩
theorem Ls.total (f : Nat → Int) (n p q : Nat) : Ls f n p q ∨ Ls f n q p ∨ ∀ t, t < n → f (p + t) = f (q + t) := by
  induction n with
  | zero => exact .inr (.inr fun t ht => by omega)
  | succ n ih =>
    rcases ih with ⟨k, hk, e, l⟩ | ⟨k, hk, e, l⟩ | e
    · exact .inl ⟨k, by omega, e, l⟩
    · exact .inr (.inl ⟨k, by omega, e, l⟩)
    · by_cases h : f (p + n) < f (q + n)
      · exact .inl ⟨n, by omega, e, h⟩
      · by_cases h' : f (q + n) < f (p + n)
        · exact .inr (.inl ⟨n, by omega, fun t ht => (e t ht).symm, h'⟩)
        · refine .inr (.inr fun t ht => ?_)
          by_cases htn : t < n
          · exact e t htn
          · have : t = n := by omega
            subst this
            omega
theorem ex_min (f : Nat → Int) (n : Nat) : ∀ m, 0 < m → ∃ p, p < m ∧ ∀ q, q < m → ¬ Ls f n q p := by
  intro m
  induction m with
  | zero => intro h; omega
  | succ m ih =>
    intro _
    by_cases h0 : m = 0
    · subst h0
      exact ⟨0, by omega, fun q hq => by have : q = 0 := by omega
                                         subst this; exact Ls.irr⟩
    · obtain ⟨p, hp, hm⟩ := ih (by omega)
      by_cases h : Ls f n m p
      · refine ⟨m, by omega, fun q hq hl => ?_⟩
        by_cases hqm : q = m
        · subst hqm; exact Ls.irr hl
        · exact hm q (by omega) (hl.trans h)
      · refine ⟨p, by omega, fun q hq => ?_⟩
        by_cases hqm : q = m
        · subst hqm; exact h
        · exact hm q (by omega)
/-- what is left out can't be least -/
def Out (f : Nat → Int) (n p : Nat) : Prop := ∃ q, Ls f n q p
structure Race (f : Nat → Int) (n one other alike : Nat) : Prop where
  a : ∀ p, p < one → Out f n p
  b : ∀ p, p < other → p ≠ one → Out f n p
  ne : one ≠ other
  al : alike ≤ n
  e : ∀ t, t < alike → f (one + t) = f (other + t)
theorem Race.more {f n one other alike} (R : Race f n one other alike) (h : alike < n) (e : f (one + alike) = f (other + alike)) : Race f n one other (alike + 1) :=
  ⟨R.a, R.b, R.ne, h, fun t ht => by
    by_cases h' : t < alike
    · exact R.e t h'
    · have : t = alike := by omega
      subst this; exact e⟩
theorem out_run {f : Nat → Int} {n p q alike t : Nat} (h : alike < n) (e : ∀ t, t < alike → f (p + t) = f (q + t)) (l : f (q + alike) < f (p + alike)) (ht : t ≤ alike) : Out f n (p + t) := by
  refine ⟨q + t, alike - t, by omega, fun s hs => ?_, ?_⟩
  · have := e (t + s) (by omega)
    rw [Nat.add_assoc, Nat.add_assoc]
    exact this.symm
  · have e1 : q + t + (alike - t) = q + alike := by omega
    have e2 : p + t + (alike - t) = p + alike := by omega
    rw [e1, e2]
    exact l
theorem Race.one {f n one other alike} (R : Race f n one other alike) (h : alike < n) (l : f (other + alike) < f (one + alike)) :
    Race f n (one + (alike + 1)) (if one + (alike + 1) = other then other + 1 else other) 0 := by
  have A : ∀ p, p < one + (alike + 1) → Out f n p := by
    intro p hp
    by_cases h' : p < one
    · exact R.a p h'
    · obtain ⟨t, rfl⟩ : ∃ t, p = one + t := ⟨p - one, by omega⟩
      exact out_run h R.e l (by omega)
  refine ⟨A, fun p hp hn => ?_, ?_, Nat.zero_le _, fun t ht => by omega⟩
  · by_cases hp1 : p < one + (alike + 1)
    · exact A p hp1
    · split at hp
      · omega
      · by_cases hpo : p = one
        · omega
        · exact R.b p hp hpo
  · split <;> omega
theorem Race.other {f n one other alike} (R : Race f n one other alike) (h : alike < n) (l : f (one + alike) < f (other + alike)) :
    Race f n one (if one = other + (alike + 1) then other + (alike + 1) + 1 else other + (alike + 1)) 0 := by
  have B : ∀ p, p < other + (alike + 1) → p ≠ one → Out f n p := by
    intro p hp hn
    by_cases h' : p < other
    · exact R.b p h' hn
    · obtain ⟨t, rfl⟩ : ∃ t, p = other + t := ⟨p - other, by omega⟩
      exact out_run h (fun t ht => (R.e t ht).symm) l (by omega)
  refine ⟨R.a, fun p hp hn => ?_, ?_, Nat.zero_le _, fun t ht => by omega⟩
  · split at hp
    · exact B p (by omega) hn
    · exact B p hp hn
  · split <;> omega
end Lt
namespace Lt
/-! ### rows read round -/
def rot (xs : List Int) (p : Nat) : List Int := xs.drop p ++ xs.take p
def rd (xs : List Int) (s : Nat) : Int := xs.getD (s % xs.length) 0
theorem rot_length (xs : List Int) (p : Nat) : (rot xs p).length = xs.length := by
  unfold rot
  rw [List.length_append, List.length_drop, List.length_take]
  omega
theorem rot_getD {xs : List Int} {p t : Nat} (hp : p ≤ xs.length) (ht : t < xs.length) : (rot xs p).getD t 0 = rd xs (p + t) := by
  unfold rot rd
  rw [List.getD_eq_getElem?_getD, List.getD_eq_getElem?_getD]
  congr 1
  by_cases h : p + t < xs.length
  · rw [Nat.mod_eq_of_lt h, List.getElem?_append_left (by rw [List.length_drop]; omega), List.getElem?_drop]
  · have e : (p + t) % xs.length = p + t - xs.length := by
      rw [Nat.mod_eq_sub_mod (by omega)]
      by_cases h2 : p + t - xs.length < xs.length
      · exact Nat.mod_eq_of_lt h2
      · omega
    rw [e, List.getElem?_append_right (by rw [List.length_drop]; omega), List.length_drop, List.getElem?_take]
    have h3 : t - (xs.length - p) = p + t - xs.length := by omega
    rw [h3, if_pos (by omega)]
theorem ext_getD {a b : List Int} (hl : a.length = b.length) (h : ∀ t, t < a.length → a.getD t 0 = b.getD t 0) : a = b := by
  apply List.ext_getElem hl
  intro i h1 h2
  have := h i h1
  rw [List.getD_eq_getElem?_getD, List.getD_eq_getElem?_getD, List.getElem?_eq_getElem h1, List.getElem?_eq_getElem h2] at this
  exact this
theorem rot_eq_of {xs : List Int} {p q : Nat} (hp : p ≤ xs.length) (hq : q ≤ xs.length) (h : ∀ t, t < xs.length → rd xs (p + t) = rd xs (q + t)) : rot xs p = rot xs q := by
  refine ext_getD (by rw [rot_length, rot_length]) fun t ht => ?_
  rw [rot_length] at ht
  rw [rot_getD hp ht, rot_getD hq ht, h t ht]
theorem rd_rot {xs : List Int} {p : Nat} (hp : p ≤ xs.length) (h0 : 0 < xs.length) (s : Nat) : rd (rot xs p) s = rd xs (p + s) := by
  have h1 : rd (rot xs p) s = (rot xs p).getD (s % xs.length) 0 := by
    unfold rd
    rw [rot_length]
  rw [h1, rot_getD hp (Nat.mod_lt _ h0)]
  unfold rd
  rw [Nat.add_mod_mod]
theorem rot_rot {xs : List Int} {p q : Nat} (hp : p ≤ xs.length) (hq : q ≤ xs.length) (h0 : 0 < xs.length) : rot (rot xs p) q = rot xs ((p + q) % xs.length) := by
  refine ext_getD (by rw [rot_length, rot_length, rot_length]) fun t ht => ?_
  rw [rot_length, rot_length] at ht
  rw [rot_getD (by rw [rot_length]; exact hq) (by rw [rot_length]; exact ht), rd_rot hp h0, rot_getD (Nat.le_of_lt (Nat.mod_lt _ h0)) ht]
  unfold rd
  rw [Nat.mod_add_mod, Nat.add_assoc]
/-- ms is the least of the turned forms of ns -/
def Least (ns ms : List Int) : Prop := ∃ p, p < max 1 ns.length ∧ ms = rot ns p ∧ ∀ q, q < ns.length → ¬ Ls (rd ns) ns.length q p
theorem Least.ex (ns : List Int) : ∃ ms, Least ns ms := by
  by_cases h : 0 < ns.length
  · obtain ⟨p, hp, hm⟩ := ex_min (rd ns) ns.length ns.length h
    exact ⟨_, p, by omega, rfl, hm⟩
  · exact ⟨_, 0, by omega, rfl, fun q hq => by omega⟩
theorem Least.uniq {ns a b : List Int} (h1 : Least ns a) (h2 : Least ns b) : a = b := by
  obtain ⟨p, hp, rfl, m1⟩ := h1
  obtain ⟨q, hq, rfl, m2⟩ := h2
  by_cases h0 : 0 < ns.length
  · rcases Ls.total (rd ns) ns.length p q with h | h | h
    · exact absurd h (m2 p (by omega))
    · exact absurd h (m1 q (by omega))
    · exact rot_eq_of (by omega) (by omega) h
  · have : p = q := by omega
    rw [this]
theorem Ls.shift {xs : List Int} {j p q : Nat} (hj : j ≤ xs.length) (h0 : 0 < xs.length) : Ls (rd (rot xs j)) xs.length p q ↔ Ls (rd xs) xs.length (j + p) (j + q) := by
  constructor
  · rintro ⟨k, hk, e, l⟩
    refine ⟨k, hk, fun t ht => ?_, ?_⟩
    · have := e t ht
      rw [rd_rot hj h0, rd_rot hj h0] at this
      rw [Nat.add_assoc, Nat.add_assoc]
      exact this
    · rw [rd_rot hj h0, rd_rot hj h0] at l
      rw [Nat.add_assoc, Nat.add_assoc]
      exact l
  · rintro ⟨k, hk, e, l⟩
    refine ⟨k, hk, fun t ht => ?_, ?_⟩
    · rw [rd_rot hj h0, rd_rot hj h0, ← Nat.add_assoc, ← Nat.add_assoc]
      exact e t ht
    · rw [rd_rot hj h0, rd_rot hj h0, ← Nat.add_assoc, ← Nat.add_assoc]
      exact l
theorem Ls.modl {xs : List Int} {p q : Nat} : Ls (rd xs) xs.length (p % xs.length) (q % xs.length) ↔ Ls (rd xs) xs.length p q := by
  have e : ∀ s t, rd xs (s % xs.length + t) = rd xs (s + t) := fun s t => by
    unfold rd
    rw [Nat.mod_add_mod]
  constructor
  · rintro ⟨k, hk, h, l⟩
    exact ⟨k, hk, fun t ht => by rw [← e p, ← e q]; exact h t ht, by rw [← e p, ← e q]; exact l⟩
  · rintro ⟨k, hk, h, l⟩
    exact ⟨k, hk, fun t ht => by rw [e p, e q]; exact h t ht, by rw [e p, e q]; exact l⟩
theorem Least.turn {ns ms : List Int} {j : Nat} (hj : j ≤ ns.length) (h : Least (rot ns j) ms) : Least ns ms := by
  obtain ⟨p, hp, rfl, m⟩ := h
  rw [rot_length] at hp m
  by_cases h0 : 0 < ns.length
  · refine ⟨(j + p) % ns.length, by have := Nat.mod_lt (j + p) h0; omega, rot_rot hj (by omega) h0, fun q hq hl => ?_⟩
    refine m ((q + (ns.length - j)) % ns.length) (Nat.mod_lt _ h0) ?_
    rw [Ls.shift hj h0]
    have e1 : (j + (q + (ns.length - j)) % ns.length) % ns.length = q % ns.length := by
      rw [Nat.add_mod_mod]
      have : j + (q + (ns.length - j)) = q + ns.length := by omega
      rw [this, Nat.add_mod_right]
    rw [← Ls.modl, e1, Ls.modl, ← Ls.modl]
    have := Ls.modl.mpr hl
    rw [Nat.mod_mod] at this
    exact this
  · have : ns = [] := List.length_eq_zero_iff.mp (by omega)
    subst this
    refine ⟨0, by decide, ?_, fun q hq => absurd hq (by simp)⟩
    unfold rot
    simp
theorem Least.turn' {ns ms : List Int} {j : Nat} (hj : j ≤ ns.length) (h : Least ns ms) : Least (rot ns j) ms := by
  obtain ⟨ms', h'⟩ := Least.ex (rot ns j)
  have := h.uniq (h'.turn hj)
  rw [this]
  exact h'
theorem Least.self {ns ms : List Int} (h : Least ns ms) : Least ms ms := by
  obtain ⟨p, hp, e, m⟩ := id h
  by_cases h0 : 0 < ns.length
  · have := h.turn' (j := p) (by omega)
    rw [← e] at this
    exact this
  · have : ns = [] := List.length_eq_zero_iff.mp (by omega)
    subst this
    have : ms = [] := by rw [e]; unfold rot; simp
    rw [this] at h ⊢
    exact h
theorem Least.length {ns ms : List Int} (h : Least ns ms) : ms.length = ns.length := by
  obtain ⟨p, _, e, _⟩ := h
  rw [e, rot_length]
/-! ### the order of rows of one length -/
end Lt
set_option Elab.async false
set_option linter.all false
set_option maxRecDepth 100000
set_option maxHeartbeats 1000000
namespace W16
open PySem L2 PySem.Spec PyProof.Rows WR WB
section
variable {X : Cx}
def rCntT (K : PySem.W.Frag) : V → List V → Hp → VK → Prop := fun x xs H Q => ∃ (p : Addr) (ns : List Int) (k : Int), x = .ref p ∧ xs = [.int k] ∧ SqT K H p (iv ns) ∧ Q (.int (ns.count k : Nat)) H
theorem mt_tcount {K : PySem.W.Frag} (hK : X.K = K) : MtR X "tuple.count" (rCntT K) := by
  subst hK
  intro pins s σ H x xs v us Q I rx rxs h
  obtain ⟨p, ns, k, rfl, rfl, hs, q⟩ := h
  cases rx
  obtain ⟨u, rfl, ru⟩ := rxs.one
  obtain ⟨t, rfl⟩ := ru
  obtain ⟨its, rv, ⟨⟨cls, dd, data, sl⟩, ho, hc, n, hd⟩, hlen⟩ := I.tuple hs
  simp only at hc hd
  subst hc hd
  have hi := ints_of_vals rv
  refine call_meets PySem.F.slot_tuple_count ⟨_, ho, rfl⟩ PySem.F.entry_tuple_count (PySem.F.args_tuple_count_2 _ _)
    (SeqAt.tuple_countAt p its.toArray n dd sl (.int k t) (eqk k)) ⟨ho, fun y hy => (eqk_gives hi y (by simpa using hy)).at _ _, ?_⟩
  have ec : its.toArray.toList.countP (eqk k) = ns.count k := eqk_count hi
  refine ⟨.int (ns.count k : Nat), H, I.tok _, ⟨s.toks, ?_⟩, q⟩
  show Value.int ((its.toArray.toList.countP (eqk k) : Nat) : Int) s.toks = Value.int ((ns.count k : Nat) : Int) s.toks
  rw [ec]
def tyB (K : PySem.W.Frag) (x : V) (H : Hp) : Prop := ∃ (a : Addr) (xs : List V), x = .ref a ∧ SqB K H a xs
theorem tyB_ok {K : PySem.W.Frag} (hK : X.K = K) : TyOk X "tuple" (tyB K) := by
  subst hK
  intro pins σ H s x v I r h
  obtain ⟨a, xs, rfl, hB⟩ := h
  cases r
  obtain ⟨its, _, ⟨o1, e1, c1, _⟩, _⟩ := I.tuple hB.sq
  obtain ⟨o, u, e, d⟩ := hB.bare
  have hx : ObjOk X.prog X.w H s.heap a (.frz o u) := I.hok a _ e
  exact ⟨⟨o1, e1, c1⟩, fun b hb => by cases hb; exact ⟨o, hx.1, d⟩⟩
end
structure MethW (P : Program) (w : World) (K : PySem.W.Frag) (mg : Str → Option Value) (base : Heap) (C : Addr) (m : Str) (ps : List Str) (sp : Sp) : Prop where
  ex : ∃ (f : Addr) (fd : FuncData), Meth K C m f ∧ FnOk P w K mg base CX0 6 f fd ps sp ∧ Binds K fd ps []
section
variable {X : Cx} {C : Addr} {o e : Expr} {es : List Expr} {ta : TE} {t : TA} {m : Str} {ps : List Str} {sp : Sp} {apos pos : Pos} {j : Nat}
theorem pe_w1 {pl : Sem Bool} (M : MethW X.prog X.w X.K X.mg X.base C m ps sp) (c : Cls X.K C) (hr : Room j X.A) (hj : 6 ≤ j) (he : PE X o ta) (ha : PA X (e :: es) t)
    (hst : starEach (e :: es) X.env = (false, eval e X.env) :: starEach es X.env := by rfl) (hpl : (backTo pos (starEach es X.env)).any (·.1) = false := by rfl)
    (ht : eval (.Call (.Attribute o m apos) (e :: es) [] pos) X.env = (do
      let ov ← eval o X.env
      standAt apos.atName
      let (f, first) ← holding [ov] (getMethod ov m pl)
      callWith pos f first (backTo pos (starEach (e :: es) X.env)) (backToKw pos (keywordEach [] X.env))) := by rfl) :
    PE X (.Call (.Attribute o m apos) (e :: es) [] pos) (tMeth C m sp [] E0 ta t) := by
  obtain ⟨f, fd, hm, F, hb⟩ := M.ex
  exact pe_meth he c hm F (hr.mono hj) hb .nil pass0 ha hst hpl ht
end
theorem WordAt.at {K : PySem.W.Frag} {C : Addr} {H : Hp} {p : Addr} {ns : List Int} (h : WordAt K C H p ns) {m : Str} (h1 : ¬ m = "letters") (h2 : ¬ m = "length") (h3 : ¬ m = "kinds") (h4 : ¬ m = "is_short") (h5 : ¬ m = "is_short_round") :
    ∃ dx fs, H p = some (.ins C dx fs) ∧ fs.lookup m = none := by
  obtain ⟨dx, tl, tk, ks, h, _⟩ := h
  exact ⟨dx, _, h, wf_no h1 h2 h3 h4 h5⟩
theorem WordAt.drew {K : PySem.W.Frag} {C : Addr} {H H' : Hp} {p a c : Addr} {n : Nat} {ns : List Int} (h : WordAt K C H p ns) (hH : HandAt H a c n) {m : Nat} (d : Drew a c m H H') : WordAt K C H' p ns := by
  have keep : ∀ {q : Addr} {xs : List V}, SqT K H q xs → SqT K H' q xs := by
    intro q xs h
    obtain ⟨cs, i, r, hA, _⟩ := hH
    rcases h with h | h
    · left
      rcases h with h | ⟨o, h⟩
      · exact .inl (d.2 _ _ (fun z => by rw [z, hA] at h; cases h) h)
      · exact .inr ⟨o, d.2 _ _ (fun z => by rw [z, hA] at h; cases h) h⟩
    · exact .inr h
  obtain ⟨dx, tl, tk, ks, h1, h2, h3, h4⟩ := h
  have keepB : SqB K H' tl (iv ns) := by
    refine ⟨keep h2.sq, ?_⟩
    obtain ⟨cs, i, r, hA, _⟩ := hH
    obtain ⟨o, u, e, dn⟩ := h2.bare
    exact ⟨o, u, d.2 _ _ (fun z => by rw [z, hA] at e; cases e) e, dn⟩
  refine ⟨dx, tl, tk, ks, d.2 _ _ (fun z => ?_) h1, keepB, keep h3, h4⟩
  obtain ⟨cs, i, r, hA, _⟩ := hH
  rw [z, hA] at h1
  cases h1
theorem make_at {K : PySem.W.Frag} {C : Addr} {H1 : Hp} {q x dx : Addr} {ms : List Int} {G : Hp → Prop} {E : XK} (nx : H1 x = none) (ndx : H1 dx = none) (hq : SqW K H1 q (iv ms)) (hlen : ms.length ≤ 500) (hl : Lts ms) (k : ∀ H', Same H1 H' → WordAt K C H' x ms → G H') :
    spInit K C [.ref x, .ref q] (L2.upd (L2.upd H1 dx (.own x)) x (.ins C dx [])) (fun v H2 => v = .non ∧ G H2) E := by
  have s0 : Same H1 (L2.upd (L2.upd H1 dx (.own x)) x (.ins C dx [])) := fun b o e => by
    rw [upd_ne (ne_of_none e nx), upd_ne (ne_of_none e ndx)]
    exact e
  exact ⟨H1, x, dx, q, ms, rfl, s0, nx, upd_same, hq, hlen, hl, fun H' s' W' => ⟨rfl, k H' s' W'⟩⟩
theorem no_ne {b : Bool} {A B : Prop} (h : b = true) (k : B) : if (!b) = true then A else B := by rw [h]; exact iteF k
inductive All2 {α β : Type} (R : α → β → Prop) : List α → List β → Prop
  | nil : All2 R [] []
  | cons {a : α} {b : β} {as : List α} {bs : List β} (h : R a b) (r : All2 R as bs) : All2 R (a :: as) (b :: bs)
theorem All2.length {α β : Type} {R : α → β → Prop} {as : List α} {bs : List β} (h : All2 R as bs) : as.length = bs.length := by
  induction h with
  | nil => rfl
  | cons _ _ ih => simp [ih]
theorem All2.imp {α β : Type} {R S : α → β → Prop} {as : List α} {bs : List β} (h : All2 R as bs) (k : ∀ a b, R a b → S a b) : All2 S as bs := by
  induction h with
  | nil => exact .nil
  | cons h _ ih => exact .cons (k _ _ h) ih
theorem All2.at {α β : Type} {R : α → β → Prop} {as : List α} {bs : List β} (h : All2 R as bs) : ∀ {i : Nat} {a : α}, as[i]? = some a → ∃ b, bs[i]? = some b ∧ R a b := by
  induction h with
  | nil => intro i a e; simp at e
  | cons h r ih =>
    intro i a e
    cases i with
    | zero => simp at e; subst e; exact ⟨_, by simp, h⟩
    | succ i => simpa using ih (by simpa using e)
theorem All2.mem {α β : Type} {R : α → β → Prop} {as : List α} {bs : List β} (h : All2 R as bs) {a : α} (ha : a ∈ as) : ∃ b, b ∈ bs ∧ R a b := by
  obtain ⟨i, e⟩ := List.mem_iff_getElem?.mp ha
  obtain ⟨b, e2, r⟩ := h.at e
  exact ⟨b, List.mem_of_getElem? e2, r⟩
theorem All2.app {α β : Type} {R : α → β → Prop} {as : List α} {bs : List β} (h : All2 R as bs) {cs : List α} {ds : List β} (k : All2 R cs ds) : All2 R (as ++ cs) (bs ++ ds) := by
  induction h with
  | nil => exact k
  | cons h _ ih => exact .cons h ih
theorem lcM {β : Type} {J : It} {xs : List V} {G : Hp → Prop} (w : Walk J xs.length G (YAt xs)) (ys : List β) (R : Addr → Hp → V → β → Prop) (hst : ∀ D H H' v b, R D H v b → Same H H' → R D H' v b) (hput : ∀ D H ws o v b, H D = some (.lst ws) → R D H v b → R D (L2.upd H D o) v b)
    (hz : xs.length < 40000) (hl : xs.length = ys.length) {g : TG} {te : TE} {vs : List Nat} {σ : L2.St} {H1 : Hp} {Q : VK} (hG : ∀ H, Same H1 H → G H)
    (hs : ∀ (i : Nat) (x : V) (b : β), xs[i]? = some x → ys[i]? = some b → ∀ D H, H1 D = none → (∃ ws, H D = some (.lst ws)) → Same H1 H → ∀ (Qy : V → Hp → Prop), (∀ v H', Same H H' → R D H' v b → Qy v H') →
      g x (wipe σ vs) H fun σ2 H2 => wipe σ2 vs = wipe σ vs ∧ te σ2 H2 Qy)
    (hg : ∀ x σ1 H A B, (∀ σ2 H2, A σ2 H2 → B σ2 H2) → g x σ1 H A → g x σ1 H B)
    (hd : ∀ (D : Addr) H' ws, H1 D = none → Same H1 H' → H' D = some (.lst ws) → All2 (R D H') ws ys → Q (.ref D) H') : tLc (fun _ H R => R J H) g tYes te vs σ H1 Q := by
  intro D hD
  refine lc_it w (fun i H => Same H1 H ∧ ∃ ws, H D = some (.lst ws) ∧ All2 (R D H) ws (ys.take i)) ⟨fun b o e => by rw [upd_ne (ne_of_none e hD)]; exact e, [], upd_same, by simp only [List.take_zero]; exact .nil⟩ (fun i H _ q => hG H q.1) ?_ ?_
  · rintro i x H H' hi ⟨sm, ws, hw, h2⟩ ⟨rfl, hx⟩
    have hi2 : i < ys.length := by omega
    refine hg _ _ _ _ _ (fun σ2 H2 q => ⟨q.1, yes_te q.2⟩) (hs i x ys[i] hx (List.getElem?_eq_getElem hi2) D H' hD ⟨ws, hw⟩ sm _ fun v H2 s2 r => ?_)
    have hw2 := s2 _ _ hw
    have hlen := h2.length
    rw [List.length_take] at hlen
    refine ⟨ws, hw2, Evl.sz_lt (by omega), fun b o e => ?_, ws ++ [v], upd_same, ?_⟩
    · rw [upd_ne (ne_of_none e hD)]
      exact s2 _ _ (sm _ _ e)
    · rw [List.take_succ_eq_append_getElem hi2]
      exact (h2.imp fun v b r => hput D H2 ws _ v b hw2 (hst D _ _ v b r s2)).app (.cons (hput D H2 ws _ v _ hw2 r) .nil)
  · rintro H ⟨sm, ws, hw, h2⟩
    rw [List.take_of_length_le (by omega)] at h2
    exact hd D H ws hD sm hw h2
theorem gName_mono {i : Nat} {x : V} {σ : L2.St} {H : Hp} {A B : L2.St → Hp → Prop} (k : ∀ σ2 H2, A σ2 H2 → B σ2 H2) (h : gName i x σ H A) : gName i x σ H B := k _ _ h
theorem gTup_mono {K : PySem.W.Frag} {i j : Nat} {x : V} {σ : L2.St} {H : Hp} {A B : L2.St → Hp → Prop} (k : ∀ σ2 H2, A σ2 H2 → B σ2 H2) (h : gTup K 2 (gCons (gName i) (gCons (gName j) gNil)) x σ H A) : gTup K 2 (gCons (gName i) (gCons (gName j) gNil)) x σ H B := by
  obtain ⟨a, xs, e1, e2, e3, v, r, e4, v2, r2, e5, e6, h⟩ := h
  exact ⟨a, xs, e1, e2, e3, v, r, e4, v2, r2, e5, e6, k _ _ h⟩
theorem SqT.keptL {K : PySem.W.Frag} {H H' : Hp} {l q : Addr} {vs xs : List V} (hl : H l = some (.lst vs)) (d : Kept l H H') (h : SqT K H q xs) : SqT K H' q xs := by
  rcases h with h | h
  · left
    rcases h with h | ⟨o, h⟩
    · exact .inl (d _ _ (fun z => by rw [z, hl] at h; cases h) h)
    · exact .inr ⟨o, d _ _ (fun z => by rw [z, hl] at h; cases h) h⟩
  · exact .inr h
section
variable {X : Cx} {K : PySem.W.Frag} {T : String} {name : Str} {id : String} {r : V → List V → Hp → VK → Prop} {o e : Expr} {es : List Expr} {to : TE} {t : TA} {apos cpos : Pos}
theorem pe_bmK (hK : X.K = K) (pa : PlainAttrs T) (slot : PySem.Slot T name id) (hty : typeOf (.builtin id) = pure (.type "method_descriptor")) (hm : MtR X id r) (ho : PE X o to) (ha : PA X (e :: es) t)
    (hbase : attributeBase o name X.env (eval o X.env) = eval o X.env := by rfl)
    (hfew : ((backTo cpos (starEach (e :: es) X.env)).all (fun x => !x.1) && (backToKw cpos (keywordEach [] X.env)).all (fun x => x.1.isSome)
      && decide ((e :: es).length + ([] : List Keyword).length + (if ([] : List Keyword).isEmpty then 0 else 1) < 30)) = true := by rfl)
    (hline : (apos.endLine == cpos.line) = true := by rfl) (hs : starEach (e :: es) X.env = (false, eval e X.env) :: starEach es X.env := by rfl) (hplain : (backTo cpos (starEach es X.env)).any (·.1) = false := by rfl) :
    PE X (.Call (.Attribute o name apos) (e :: es) [] cpos) (tBM K T r to t) := by
  subst hK
  exact pe_bm pa slot hty hm ho ha hbase hfew hline hs hplain
end
theorem as_lc {wi : TI} {g : TG} {tt : TT} {te : TE} {gg : TG} {vs : List Nat} {D : Ends} {σ : L2.St} {H : Hp}
    (h : wi σ H fun J H1 => tLc (fun _ H R => R J H) g tt te vs σ H1 fun z H4 => gg z σ H4 D.nx) : tAsg (tLc wi g tt te vs) gg D σ H := h
theorem at_set {σ : L2.St} {H : Hp} {v : V} {i : Nat} {f : L2.St → Hp → Prop} (h : f (σ.set i (some v)) H) : gName i v σ H f := h
theorem ixl {X : Cx} {K : PySem.W.Frag} (h : X.K = K) : IxR X (rIxL K) := h ▸ ix_list
theorem call_listK {X : Cx} {K : PySem.W.Frag} (h : X.K = K) : CallR X (.type "list") (fun xs H Q => ∃ p ys, xs = [.ref p] ∧ (SqL K H p ys ∨ SqT K H p ys) ∧ ∀ l, H l = none → Q (.ref l) (L2.upd H l (.lst ys))) := by
  subst h
  exact call_list_of
theorem seq_at {j n : Nat} (h : j < n) : seqIndex? (j : Int) n = some j := by
  unfold seqIndex?
  have h1 : ¬ (j : Int) < 0 := by omega
  simp only [if_neg h1]
  rw [if_pos (by simp; omega), Int.toNat_natCast]
theorem cb_lc {r : List V → Hp → VK → Prop} {wi : TI} {g : TG} {tt : TT} {te : TE} {vs : List Nat} {σ : L2.St} {H : Hp} {Q : VK}
    (h : wi σ H fun J H1 => tLc (fun _ H R => R J H) g tt te vs σ H1 fun y H2 => r [y] H2 Q) : tCB r (tCons (tLc wi g tt te vs) tNil) σ H Q := h
/-! ### the methods that the law calls besides -/
end W16
set_option Elab.async false
set_option linter.all false
/-! Words put for letters, kinds renamed, what a row holds more of a letter than of its contrary. -/
namespace Fr
def sub (f : Int → List Int) (xs : List Int) : List Int := (xs.map f).flatten
/-! ### one kind's letters -/
/-! ### kinds renamed -/
/-- the letter that is told for a kind -/
def told? (prs : List (Int × Int)) (k : Int) : Option Int := (prs.find? fun p => decide (p.1 = k)).map (·.2)
def ren (prs : List (Int × Int)) (x : Int) : Int := if 0 < x then (told? prs x).getD x else -((told? prs (-x)).getD (-x))
/-! ### balance -/
def cnt (xs : List Int) (k : Int) : Int := (xs.count k : Int) - (xs.count (-k) : Int)
/-- each kind that stands more often forward than backward, or less -/
def bal (xs : List Int) : List (Int × Int) := ((List.range 26).map fun (i : Nat) => ((i : Int) + 1, cnt xs ((i : Int) + 1))).filter fun p => decide (p.2 ≠ 0)
end Fr
set_option Elab.async false
set_option linter.all false
set_option maxRecDepth 100000
set_option maxHeartbeats 1000000
namespace W16
open PySem L2 PySem.Spec PyProof.Rows WR WB
theorem sorted_ext : ∀ (l1 l2 : List Int), l1.Pairwise (· < ·) → l2.Pairwise (· < ·) → (∀ x, x ∈ l1 ↔ x ∈ l2) → l1 = l2
  | [], [], _, _, _ => rfl
  | [], b :: t, _, _, h => absurd ((h b).mpr List.mem_cons_self) (fun q => nomatch q)
  | a :: s, [], _, _, h => absurd ((h a).mp List.mem_cons_self) (fun q => nomatch q)
  | a :: s, b :: t, h1, h2, h => by
    rw [List.pairwise_cons] at h1 h2
    have e : a = b := by
      rcases List.mem_cons.mp ((h a).mp List.mem_cons_self) with e | m
      · exact e
      · rcases List.mem_cons.mp ((h b).mpr List.mem_cons_self) with e | m2
        · exact e.symm
        · have := h2.1 a m
          have := h1.1 b m2
          omega
    subst e
    rw [sorted_ext s t h1.2 h2.2 fun x => ⟨fun hx => ?_, fun hx => ?_⟩]
    · rcases List.mem_cons.mp ((h x).mp (List.mem_cons_of_mem _ hx)) with e | m
      · have := h1.1 x hx
        omega
      · exact m
    · rcases List.mem_cons.mp ((h x).mpr (List.mem_cons_of_mem _ hx)) with e | m
      · have := h2.1 x hx
        omega
      · exact m
theorem cnt_zero {ns : List Int} {k : Int} (h : ¬ ∃ x ∈ ns, k = (x.natAbs : Int)) (hk : 0 < k) : Fr.cnt ns k = 0 := by
  have h1 : ns.count k = 0 := List.count_eq_zero.mpr fun q => h ⟨k, q, by omega⟩
  have h2 : ns.count (-k) = 0 := List.count_eq_zero.mpr fun q => h ⟨-k, q, by omega⟩
  unfold Fr.cnt
  rw [h1, h2]
  rfl
theorem bal_kinds {ns ks : List Int} (h : Lts ns) (hk : kindsOk ns ks) : (ks.map fun k => (k, Fr.cnt ns k)).filter (fun p => decide (p.2 ≠ 0)) = Fr.bal ns := by
  have e : Fr.bal ns = (((List.range 26).map fun (i : Nat) => (i : Int) + 1).map fun k => (k, Fr.cnt ns k)).filter (fun p => decide (p.2 ≠ 0)) := by
    unfold Fr.bal
    rw [List.map_map]
    rfl
  rw [e, List.filter_map, List.filter_map]
  congr 1
  refine sorted_ext _ _ (hk.1.filter _) (List.Pairwise.filter _ ?_) fun x => ?_
  · rw [List.pairwise_map]
    exact List.pairwise_lt_range.imp fun h => by omega
  · rw [List.mem_filter, List.mem_filter]
    refine and_congr_left fun hc => ?_
    have hc : Fr.cnt ns x ≠ 0 := of_decide_eq_true hc
    rw [hk.2 x, List.mem_map]
    constructor
    · rintro ⟨y, hy, rfl⟩
      obtain ⟨y1, y2⟩ := h y hy
      exact ⟨y.natAbs - 1, List.mem_range.mpr (by omega), by omega⟩
    · rintro ⟨i, hi, rfl⟩
      exact Decidable.byContradiction fun q => hc (cnt_zero q (by omega))
abbrev sBalOf : Stmt := top 19
theorem mt_lcountK {X : Cx} {K : PySem.W.Frag} (h : X.K = K) : MtR X "list.count" (rCntI K) := by
  subst h
  exact mt_lcount
/-- a tuple of two ints -/
def PrT (K : PySem.W.Frag) (H : Hp) (v : V) (p : Int × Int) : Prop := ∃ q : Addr, v = .ref q ∧ SqT K H q [.int p.1, .int p.2]
theorem PrT.same {K : PySem.W.Frag} {H H' : Hp} {v : V} {p : Int × Int} (h : PrT K H v p) (s : Same H H') : PrT K H' v p := by
  obtain ⟨q, e, h⟩ := h
  exact ⟨q, e, WR.Same.seqT s h⟩
theorem PrT.put {K : PySem.W.Frag} {D : Addr} {H : Hp} {ws : List V} {o : HO} {v : V} {p : Int × Int} (hD : H D = some (.lst ws)) (h : PrT K H v p) : PrT K (L2.upd H D o) v p := by
  obtain ⟨q, e, h⟩ := h
  exact ⟨q, e, SqT.keptL hD Kept.upd h⟩
def BalAt (K : PySem.W.Frag) (H : Hp) (a : Addr) (ps : List (Int × Int)) : Prop := ∃ vs, SqT K H a vs ∧ All2 (PrT K H) vs ps
theorem BalAt.same {K : PySem.W.Frag} {H H' : Hp} {a : Addr} {ps : List (Int × Int)} (h : BalAt K H a ps) (s : Same H H') : BalAt K H' a ps := by
  obtain ⟨vs, h1, h2⟩ := h
  exact ⟨vs, WR.Same.seqT s h1, h2.imp fun _ _ r => r.same s⟩
def spBalOf (K : PySem.W.Frag) : Sp := fun vs H Q _ => ∃ (a : Addr) (ns : List Int), vs = [.ref a] ∧ SqL K H a (iv ns) ∧ ns.length ≤ 1000 ∧ Lts ns ∧ ∀ p H', Same H H' → BalAt K H' p (Fr.bal ns) → Q (.ref p) H'
abbrev nBalOf : List Str := ["letters", "pairs", "kind", "more"]
theorem kinds_len {ns ks : List Int} (h : Lts ns) (hk : kindsOk ns ks) : ks.length ≤ 26 := by
  refine pigeon 26 ks ?_ fun k hk' => ?_
  · exact hk.1.imp fun h => by omega
  · obtain ⟨x, hx, rfl⟩ := (hk.2 k).mp hk'
    obtain ⟨y1, y2⟩ := h x hx
    omega
section
variable {P : Program} {w : World} {K : PySem.W.Frag} {mg : Str → Option Value} {base : Heap}
theorem scBalOf : FnScope nBalOf ["letters"] (defScope sBalOf) := ⟨rfl, rfl, rfl, by decide +kernel, rfl, by decide +kernel, by decide +kernel⟩
theorem ok_balOf {f : Addr} {fd : FuncData} (F : Fun K "balance_of" "balance_of" sBalOf f fd) (T : TxA mg) (GK : Cal P w K mg base "kinds_of" 1 ["letters"] (spKinds K)) : FnOk P w K mg base CX0 2 f fd ["letters"] (spBalOf K) := by
  refine F.ok scBalOf (fun vs H Q E h => ?_) (fun cdv A outer s H vs Q E hr h => ?_)
  · obtain ⟨a, ns, rfl, _⟩ := h
    rfl
  · obtain ⟨a, ns, rfl, hA, hlen, hl, k⟩ := h
    refine ⟨_, pss_cons (ps_setLc (i := 1) (own := [("kind", 2)]) (g := gName 2) (tt := tYes) rfl scBalOf.nd rfl rfl (sw_true rfl rfl rfl (by decide +kernel)) (pi_tup (pe_cal GK hr (by decide) (by rfl) (pa_cons (pv 0) pa_nil)))
        (blkOk_by (N := nBalOf) (sc := defScope sBalOf) (by decide +kernel)) (fun _ _ _ _ _ => pg_name (i := 2) scBalOf.nd rfl (Or.inl rfl)) (fun _ _ _ _ _ => pts_nil)
        (fun _ _ _ _ _ => pe_tup (pa_cons (pv 2) (pa_cons (pe_op op_sub (pe_bmK (K := K) rfl PySem.F.plainAttrs_list PySem.F.slot_list_count PySem.F.type_list_count (mt_lcountK (K := K) rfl) (pv 0) (pa_cons (pv 2) pa_nil)) (pe_bmK (K := K) rfl PySem.F.plainAttrs_list PySem.F.slot_list_count PySem.F.type_list_count (mt_lcountK (K := K) rfl) (pv 0) (pa_cons (pe_un un_neg (pv 2)) pa_nil))) pa_nil))))
      (pss_one (ps_ret (pe_callTy call_tuple_of (by rfl) T.tuple (by decide +kernel) (pa_cons (pe_lc (own := [("kind", 2), ("more", 3)]) (g := gTup K 2 (gCons (gName 2) (gCons (gName 3) gNil))) rfl scBalOf.nd (pi_list (pv 1))
        (blkOk_by (N := nBalOf) (sc := defScope sBalOf) (by decide +kernel)) (fun _ _ _ _ _ => pg_tup (n := 2) rfl (pgs_cons (pg_name (i := 2) scBalOf.nd rfl (Or.inl rfl)) (pgs_cons (pg_name (i := 3) scBalOf.nd rfl (Or.inl rfl)) pgs_nil)))
        (fun _ _ _ _ _ => pts_one (pt_cmpR op_ne (pv 3) pe_int (nomark _))) (fun _ _ _ _ _ => pe_tup (pa_cons (pv 2) (pa_cons (pv 3) pa_nil)))) pa_nil)))), ?_⟩
    refine as_lc ?_
    refine ⟨_, rfl, a, ns, rfl, .inl hA, hlen, hl, fun ks hk kp H1 s1 hkp => ?_⟩
    have hkl := kinds_len hl hk
    have hA1 := s1.seq hA
    refine ⟨kp, rfl, ⟨_, hkp⟩, ?_⟩
    refine lcM (walk_tup (K := K) (a := kp) (xs := iv ks)) (ks.map fun k => (k, Fr.cnt ns k)) (fun D H v p => PrT K H v p) (fun _ _ _ _ _ h s => h.same s) (fun _ _ _ _ _ _ hD h => h.put hD) (by rw [List.length_map]; omega) (by rw [List.length_map, List.length_map]) (fun H2 s2 => WR.Same.seqT s2 hkp) ?_ (fun x σ1 H A B k h => gName_mono k h) ?_
    · intro i x b hx hb D H2 hD ⟨us, hus⟩ s2 Qy ky
      obtain ⟨z, hz, rfl⟩ : ∃ z, ks[i]? = some z ∧ x = V.int z := by
        rw [List.getElem?_map] at hx
        cases e : ks[i]? with
        | none => rw [e] at hx; cases hx
        | some z => rw [e] at hx; exact ⟨z, rfl, (Option.some.inj hx).symm⟩
      rw [List.getElem?_map, hz] at hb
      obtain rfl := Option.some.inj hb
      have hA2 := s2.seq hA1
      have hne : iv ns ≠ [] := fun e => by
        obtain ⟨y, hy, _⟩ := (hk.2 z).mp (List.mem_of_getElem? hz)
        have : ns = [] := List.map_eq_nil_iff.mp e
        rw [this] at hy
        cases hy
      refine ⟨rfl, ?_⟩
      refine ⟨_, rfl, _, rfl, .inl ⟨rfl, _, hA2⟩, _, rfl, a, ns, z, rfl, rfl, hA2, _, rfl, .inl ⟨rfl, _, hA2⟩, _, rfl, _, rfl, a, ns, -z, rfl, rfl, hA2, ?_⟩
      refine ⟨_, _, rfl, rfl, by show 2 ≤ sizeLine; decide, fun q hq => ?_⟩
      exact ky (.ref q) _ (same_upd hq) ⟨q, rfl, SqT.of upd_same⟩
    intro D H2 ws hD s2 h2 r2
    have l2 := r2.length
    rw [List.length_map] at l2
    refine at_set ?_
    try dsimp only
    refine ⟨_, rfl, D, rfl, ⟨_, SqL.of h2⟩, fun D2 hD2 => ?_⟩
    refine lc_it (walk_list (K := K) (a := D) (xs := ws)) (fun j H' => Same H2 H' ∧ ∃ us, H' D2 = some (.lst us) ∧ us.length ≤ j ∧ All2 (PrT K H') us (((ks.map fun k => (k, Fr.cnt ns k)).take j).filter fun p => decide (p.2 ≠ 0)))
      ⟨same_upd hD2, [], upd_same, Nat.le_refl _, by rw [List.take_zero]; exact .nil⟩ (fun j H' _ q => SqL.of (q.1 _ _ h2)) ?_ ?_
    · rintro j x H3 _ hj ⟨sm, us, hus, lu, hu⟩ ⟨rfl, hx⟩
      obtain ⟨b, hb, q, rfl, hq⟩ := r2.at hx
      have hjk : j < (ks.map fun k => (k, Fr.cnt ns k)).length := (List.getElem?_eq_some_iff.mp hb).1
      have eb : (ks.map fun k => (k, Fr.cnt ns k))[j] = b := (List.getElem?_eq_some_iff.mp hb).2
      refine ⟨q, _, rfl, WR.Same.seqT sm hq, rfl, _, _, rfl, _, _, rfl, rfl, ?_⟩
      refine ⟨rfl, ?_⟩
      refine ⟨_, rfl, rfl, _, rfl, ?_⟩
      rw [List.take_succ_eq_append_getElem hjk, eb, List.filter_append]
      refine ite2 (fun hn => ?_) (fun hn => ?_)
      · refine ⟨_, rfl, _, rfl, by show 2 ≤ sizeLine; decide, fun t ht => ?_⟩
        have st := same_upd (o := .tup [.int b.1, .int b.2]) ht
        have hbn : b.2 ≠ 0 := fun z => by
          rw [z] at hn
          exact absurd hn (by decide)
        have hus2 := st _ _ hus
        refine ⟨us, hus2, Evl.sz_lt (by rw [List.length_map] at hjk; omega), fun b' o e => ?_, us ++ [.ref t], upd_same, by rw [List.length_append]; show _ + 1 ≤ _; omega, ?_⟩
        · rw [upd_ne (ne_of_none e hD2)]
          exact st _ _ (sm _ _ e)
        · refine All2.app (hu.imp fun _ _ r => (r.same st).put hus2) ?_
          have : ([b].filter fun p => decide (p.2 ≠ 0)) = [b] := by simp [hbn]
          rw [this]
          exact .cons (PrT.put hus2 ⟨t, rfl, SqT.of upd_same⟩) .nil
      · refine ⟨sm, us, hus, by omega, ?_⟩
        have hbz : b.2 = 0 := Decidable.byContradiction fun z => hn (by
          have : ¬ (V.int b.2 = V.int 0) := fun q => z (by injection q)
          simp [this])
        have : ([b].filter fun p => decide (p.2 ≠ 0)) = [] := by simp [hbz]
        rw [this, List.append_nil]
        exact hu
    · rintro H3 ⟨sm, us, hus, lu, hu⟩
      rw [l2] at hu
      rw [List.take_of_length_le (by rw [List.length_map]; exact Nat.le_refl _), bal_kinds hl hk] at hu
      refine ⟨D2, _, rfl, .inl ⟨SqL.of hus, fun p hp => ?_⟩⟩
      have sp := same_upd (o := .tup us) hp
      exact k p _ (((s1.trans s2).trans sm).trans sp) ⟨us, SqT.of upd_same, hu.imp fun _ _ r => r.same sp⟩
end
end W16
set_option Elab.async false
set_option linter.all false
set_option maxRecDepth 100000
set_option maxHeartbeats 1000000
namespace W16
open PySem L2 PySem.Spec PyProof.Rows WR WB
/-! ### a comprehension of two walks in which nothing else changes -/
theorem lc2_in {J1 : It} {ys : List V} {G1 : Hp → Prop} (w1 : Walk J1 ys.length G1 (YAt ys)) {g1 : TG} {tt1 : TT} {te : TE} {vs1 : List Nat} {σ2 : L2.St} {H1 H4 : Hp} {D : Addr} {acc : List V} {Nx : Hp → Prop} (v : V → V) (hD : H1 D = none) (s4 : Same H1 H4) (a4 : H4 D = some (.lst acc)) (hz : acc.length + ys.length < 40000) (hG : ∀ H, Same H1 H → G1 H)
    (hs : ∀ y ∈ ys, ∀ H, Same H1 H → ∀ Qy : V → Hp → Prop, (∀ H', Same H H' → Qy (v y) H') → ∀ Qn : Hp → Prop, g1 y (wipe σ2 vs1) H fun σ3 H5 => wipe σ3 vs1 = wipe σ2 vs1 ∧ tt1 σ3 H5 fun b H6 => if b = true then te σ3 H6 Qy else Qn H6)
    (hd : ∀ H, Same H1 H → H D = some (.lst (acc ++ ys.map v)) → Nx H) :
    ∃ W1 : Nat → Nat → Hp → Prop, (∃ m, W1 0 m H4) ∧ ∀ j k H, W1 j k H →
      (J1.stop j H ∧ Nx H) ∨ (J1.go j H ∧ ∃ Nx1 : Hp → Prop, (∀ H', Nx1 H' → ∃ k', k' < k ∧ W1 (j + 1) k' H') ∧ ∀ x H', J1.yld j H x H' → g1 x (wipe σ2 vs1) H' fun σ3 H5 => wipe σ3 vs1 = wipe σ2 vs1 ∧ tt1 σ3 H5 fun b H6 =>
        if b = true then te σ3 H6 fun y H7 => ∃ acc, H7 D = some (.lst acc) ∧ acc.length < sizeLine ∧ Nx1 (L2.upd H7 D (.lst (acc ++ [y]))) else Nx1 H6) := by
  refine ⟨fun j k H => k = ys.length - j ∧ j ≤ ys.length ∧ Same H1 H ∧ H D = some (.lst (acc ++ (ys.take j).map v)), ⟨_, rfl, Nat.zero_le _, s4, by rw [List.take_zero]; simpa using a4⟩, ?_⟩
  rintro j k H ⟨rfl, hj, sm, hDD⟩
  by_cases hlt : j < ys.length
  · right
    refine ⟨w1.goes j H hlt (hG H sm), fun H' => Same H1 H' ∧ H' D = some (.lst (acc ++ (ys.take (j + 1)).map v)), fun H' q => ⟨ys.length - (j + 1), by omega, rfl, hlt, q.1, q.2⟩, fun x H' hy => ?_⟩
    obtain ⟨rfl, hx⟩ := w1.yields j H x H' hlt (hG H sm) hy
    have ex : ys[j] = x := (List.getElem?_eq_some_iff.mp hx).2
    refine hs x (List.mem_of_getElem? hx) H' sm _ (fun H2 s2 => ⟨_, s2 _ _ hDD, ?_, ?_, ?_⟩) _
    · refine Evl.sz_lt ?_
      rw [List.length_append, List.length_map, List.length_take]
      omega
    · intro b o e
      rw [upd_ne (ne_of_none e hD)]
      exact s2 _ _ (sm _ _ e)
    · rw [upd_same, List.take_succ_eq_append_getElem hlt, ex, List.map_append, ← List.append_assoc]
      rfl
  · left
    have e : j = ys.length := by omega
    subst e
    rw [List.take_length] at hDD
    exact ⟨w1.stops H (hG H sm), hd H sm hDD⟩
theorem lc2_out {J : It} {n : Nat} {G : Hp → Prop} {Y : Nat → Hp → V → Hp → Prop} (w : Walk J n G Y) {g : TG} {tt : TT} {wi1 : TI} {g1 : TG} {tt1 : TT} {te : TE} {vs vs1 : List Nat} {σ : L2.St} {H1 : Hp} {Q : VK} (out : Nat → List V) (hG : ∀ H, Same H1 H → G H)
    (hs : ∀ i x D H H', i < n → Y i H x H' → H1 D = none → Same H1 H → H D = some (.lst (((List.range i).map out).flatten)) → ∀ Nx : Hp → Prop, (∀ H', Same H1 H' → H' D = some (.lst (((List.range i).map out).flatten ++ out i)) → Nx H') →
      g x (wipe σ vs) H' fun σ2 H2 => wipe σ2 vs = wipe σ vs ∧ tt σ2 H2 fun b H3 => if b = true then wi1 σ2 H3 fun J1 H4 => ∃ W1 : Nat → Nat → Hp → Prop, (∃ m, W1 0 m H4) ∧ ∀ j k H, W1 j k H →
      (J1.stop j H ∧ Nx H) ∨ (J1.go j H ∧ ∃ Nx1 : Hp → Prop, (∀ H', Nx1 H' → ∃ k', k' < k ∧ W1 (j + 1) k' H') ∧ ∀ x H', J1.yld j H x H' → g1 x (wipe σ2 vs1) H' fun σ3 H5 => wipe σ3 vs1 = wipe σ2 vs1 ∧ tt1 σ3 H5 fun b H6 =>
        if b = true then te σ3 H6 fun y H7 => ∃ acc, H7 D = some (.lst acc) ∧ acc.length < sizeLine ∧ Nx1 (L2.upd H7 D (.lst (acc ++ [y]))) else Nx1 H6) else Nx H3)
    (hd : ∀ D H, H1 D = none → Same H1 H → H D = some (.lst (((List.range n).map out).flatten)) → Q (.ref D) H) : tLc2 (fun _ H R => R J H) g tt wi1 g1 tt1 te vs vs1 σ H1 Q := by
  intro D hD
  refine ⟨fun i m H => m = n - i ∧ i ≤ n ∧ Same H1 H ∧ H D = some (.lst (((List.range i).map out).flatten)), ⟨_, rfl, Nat.zero_le _, fun b o e => by rw [upd_ne (ne_of_none e hD)]; exact e, by rw [upd_same]; rfl⟩, ?_⟩
  rintro i m H ⟨rfl, hi, sm, hDD⟩
  by_cases hlt : i < n
  · right
    refine ⟨w.goes i H hlt (hG H sm), fun H' => Same H1 H' ∧ H' D = some (.lst (((List.range (i + 1)).map out).flatten)), fun H' q => ⟨n - (i + 1), by omega, rfl, hlt, q.1, q.2⟩, fun x H' hy => ?_⟩
    refine hs i x D H H' hlt (w.yields i H x H' hlt (hG H sm) hy) hD sm hDD _ fun H2 s2 h2 => ⟨s2, ?_⟩
    rw [h2, List.range_succ, List.map_append, List.flatten_append]
    simp
  · left
    have e : i = n := by omega
    subst e
    exact ⟨w.stops H (hG H sm), hd D H hD sm hDD⟩
theorem pe_fldK {X : Cx} {K : PySem.W.Frag} {e : Expr} {f : Str} {pos : Pos} {ta : TE} (h : X.K = K) (he : PE X e ta) (hb : attributeBase e f X.env (eval e X.env) = eval e X.env) : PE X (.Attribute e f pos) (tFld K ta f) := by
  subst h
  exact pe_fld he hb
theorem ar_lc {wi : TI} {g : TG} {tt : TT} {te : TE} {vs : List Nat} {σ : L2.St} {H : Hp} {Q : List V → Hp → Prop}
    (h : wi σ H fun J H1 => tLc (fun _ H R => R J H) g tt te vs σ H1 fun y H2 => Q [y] H2) : tCons (tLc wi g tt te vs) tNil σ H Q := h
/-! ### the small defs that rims want -/
abbrev sFilled : Stmt := top 43
abbrev sNeedB : Stmt := top 47
abbrev sFewP : Stmt := top 53
abbrev sNexts : Stmt := top 55
structure TxR (mg : Str → Option Value) : Prop where
  words : ∃ t, mg "MOST_WORDS" = some (.int 4 t)
  places : ∃ t, mg "MOST_PLACES" = some (.int 24 t)
  range : mg "range" = none
  enum : mg "enumerate" = none
def spFilled (K : PySem.W.Frag) (C : Addr) : Sp := fun vs H Q _ => ∃ (p : Addr) (ns : List Int), vs = [.ref p] ∧ WordAt K C H p ns ∧ Q (.bl (decide (0 < (ns.length : Int)))) H
def spNeedB (K : PySem.W.Frag) : Sp := fun vs H Q _ => ∃ (a : Addr) (ns : List Int), vs = [.ref a] ∧ SqL K H a (iv ns) ∧ ns.length ≤ 1000 ∧ Lts ns ∧ Fr.bal ns = [] ∧ ∀ H', Same H H' → Q .non H'
def spFewP : Sp := fun vs H Q _ => ∃ n : Int, vs = [.int n] ∧ n ≤ 24 ∧ Q .non H
/-- the places that stand behind each one, from place f on -/
def nxF (f : Nat) : List (List Int) → List Int
  | [] => []
  | w :: r => ((List.range w.length).map fun (t : Nat) => (f : Int) + (((t + 1) % w.length : Nat) : Int)) ++ nxF (f + w.length) r
theorem nxF_len : ∀ (ws : List (List Int)) (f : Nat), (nxF f ws).length = ws.flatten.length
  | [], _ => rfl
  | w :: r, f => by
    unfold nxF
    rw [List.length_append, nxF_len r, List.flatten_cons, List.length_append, List.length_map, List.length_range]
theorem nxF_snoc : ∀ (ws : List (List Int)) (w : List Int) (f : Nat), nxF f (ws ++ [w]) = nxF f ws ++ ((List.range w.length).map fun (t : Nat) => ((f + ws.flatten.length : Nat) : Int) + (((t + 1) % w.length : Nat) : Int))
  | [], w, f => by simp [nxF]
  | a :: r, w, f => by
    rw [List.cons_append]
    unfold nxF
    rw [nxF_snoc r w, List.append_assoc, List.flatten_cons, List.length_append]
    congr 3
    funext t
    congr 2
    omega
theorem nxF_take {ws : List (List Int)} {i : Nat} {w : List Int} (h : ws[i]? = some w) : nxF 0 (ws.take (i + 1)) = nxF 0 (ws.take i) ++ ((List.range w.length).map fun (t : Nat) => (((ws.take i).flatten.length : Nat) : Int) + (((t + 1) % w.length : Nat) : Int)) := by
  have hi := (List.getElem?_eq_some_iff.mp h).1
  have e := (List.getElem?_eq_some_iff.mp h).2
  rw [List.take_succ_eq_append_getElem hi, e, nxF_snoc, Nat.zero_add]
theorem flat_take {ws : List (List Int)} {i : Nat} {w : List Int} (h : ws[i]? = some w) : (ws.take i).flatten.length + w.length ≤ ws.flatten.length := by
  have hi := (List.getElem?_eq_some_iff.mp h).1
  have e := (List.getElem?_eq_some_iff.mp h).2
  have s : ws = ws.take i ++ (w :: ws.drop (i + 1)) := by
    rw [← e, List.getElem_cons_drop, List.take_append_drop]
  have := congrArg (fun z => z.flatten.length) s
  simp only [List.flatten_append, List.flatten_cons, List.length_append] at this
  omega
/-- words that stand at these places -/
def Wds (K : PySem.W.Frag) (C : Addr) (H : Hp) (xs : List Addr) (ws : List (List Int)) : Prop := All2 (fun p ns => WordAt K C H p ns) xs ws
theorem Wds.same {K : PySem.W.Frag} {C : Addr} {H H' : Hp} {xs : List Addr} {ws : List (List Int)} (h : Wds K C H xs ws) (s : Same H H') : Wds K C H' xs ws := h.imp fun _ _ r => r.same s
def spNexts (K : PySem.W.Frag) (C : Addr) : Sp := fun vs H Q _ => ∃ (a : Addr) (xs : List Addr) (ws : List (List Int)), vs = [.ref a] ∧ SqL K H a (xs.map V.ref) ∧ Wds K C H xs ws ∧ ws.length ≤ 4 ∧ (∀ w ∈ ws, w ≠ []) ∧ ws.flatten.length ≤ 24 ∧ NewB K H Q (iv (nxF 0 ws))
section
variable {P : Program} {w : World} {K : PySem.W.Frag} {mg : Str → Option Value} {base : Heap} {C : Addr}
theorem scFilled : FnScope ["value"] ["value"] (defScope sFilled) := ⟨rfl, rfl, rfl, by decide +kernel, rfl, by decide +kernel, by decide +kernel⟩
theorem ok_filled {f : Addr} {fd : FuncData} (F : Fun K "is_filled" "is_filled" sFilled f fd) (T : TxW K mg C) : FnOk P w K mg base CX0 1 f fd ["value"] (spFilled K C) := by
  refine F.ok scFilled (fun vs H Q E h => ?_) (fun cdv A outer s H vs Q E hr h => ?_)
  · obtain ⟨p, ns, rfl, _⟩ := h
    rfl
  · obtain ⟨p, ns, rfl, W1, k⟩ := h
    refine ⟨_, pss_one (ps_ret (pe_and (pe_callB call_isi (by rfl) T.isin (by decide +kernel) (pa_cons (pv 0) (pa_cons (pe_glob (v := .ref C) (by rfl) T.mgW rfl) pa_nil)))
      (pe_one (pe_cmpR op_gt (pe_fld (pv 0) rfl) pe_int (nomark _))))), ?_⟩
    refine ⟨_, rfl, _, _, _, _, _, rfl, .own C, W1.tyx T, kit_self C, _, rfl, ?_⟩
    refine iteT ?_
    obtain ⟨dx, tl, tk, ks, h1, h2, h3, h4⟩ := W1
    exact ⟨_, rfl, p, C, dx, _, _, rfl, h1, T.cl, T.nN, wf_length, _, _, rfl, rfl, k⟩
theorem scFewP : FnScope ["many"] ["many"] (defScope sFewP) := ⟨rfl, rfl, rfl, by decide +kernel, rfl, by decide +kernel, by decide +kernel⟩
theorem ok_fewP {f : Addr} {fd : FuncData} (F : Fun K "need_few_places" "need_few_places" sFewP f fd) (T : TxR mg) : FnOk P w K mg base CX0 1 f fd ["many"] spFewP := by
  refine F.ok scFewP (fun vs H Q E h => ?_) (fun cdv A outer s H vs Q E hr h => ?_)
  · obtain ⟨n, rfl, _⟩ := h
    rfl
  · obtain ⟨n, rfl, hn, k⟩ := h
    obtain ⟨tk, mM⟩ := T.places
    refine ⟨_, pss_one (ps_if (pt_cmpR op_gt (pv 0) (pe_glob (v := .int 24) (by rfl) mM ⟨_, rfl⟩) (nomark _)) (pss_one ps_never) pss_nil), ?_⟩
    refine ⟨_, rfl, _, _, rfl, rfl, _, rfl, ?_⟩
    exact iteF' (decide_eq_false (by omega)) k
theorem scNeedB : FnScope ["letters", "pairs"] ["letters"] (defScope sNeedB) := ⟨rfl, rfl, rfl, by decide +kernel, rfl, by decide +kernel, by decide +kernel⟩
theorem ok_needB {f : Addr} {fd : FuncData} (F : Fun K "need_balanced" "need_balanced" sNeedB f fd) (GB : Cal P w K mg base "balance_of" 2 ["letters"] (spBalOf K)) : FnOk P w K mg base CX0 3 f fd ["letters"] (spNeedB K) := by
  refine F.ok scNeedB (fun vs H Q E h => ?_) (fun cdv A outer s H vs Q E hr h => ?_)
  · obtain ⟨a, ns, rfl, _⟩ := h
    rfl
  · obtain ⟨a, ns, rfl, hA, hlen, hl, hb, k⟩ := h
    refine ⟨_, pss_cons (ps_set (i := 1) scNeedB.nd rfl (Or.inl rfl) (pe_cal GB hr (by decide) (by rfl) (pa_cons (pv 0) pa_nil)))
      (pss_one (ps_if (pt_truth (pv 1) (by intro _; rfl)) (pss_one ps_never) pss_nil)), ?_⟩
    refine ⟨_, rfl, a, ns, rfl, hA, hlen, hl, fun p H1 s1 hB => ?_⟩
    rw [hb] at hB
    obtain ⟨vs, h1, h2⟩ := hB
    cases h2
    refine at_set ?_
    try dsimp only
    exact ⟨_, rfl, _, .inr (.inl ⟨_, h1, rfl⟩), iteF (k H1 s1)⟩
abbrev nNexts : List Str := ["words", "nexts", "word", "first", "at"]
theorem scNexts : FnScope nNexts ["words"] (defScope sNexts) := ⟨rfl, rfl, rfl, by decide +kernel, rfl, by decide +kernel, by decide +kernel⟩
theorem ok_nexts {f : Addr} {fd : FuncData} (F : Fun K "nexts_of" "nexts_of" sNexts f fd) (T : TxW K mg C) (TA : TxA mg) (R : TxR mg) : FnOk P w K mg base CX0 1 f fd ["words"] (spNexts K C) := by
  refine F.ok scNexts (fun vs H Q E h => ?_) (fun cdv A outer s H vs Q E hr h => ?_)
  · obtain ⟨a, xs, ws, rfl, _⟩ := h
    rfl
  · obtain ⟨a, xs, ws, rfl, hA, hW, l4, hne, l24, k⟩ := h
    refine ⟨_, pss_cons (ps_set (i := 1) scNexts.nd rfl (Or.inl rfl) (pe_lst pa_nil))
      (pss_cons (ps_for PassesOwn.never rfl (pi_list (pv 0)) (pg_name (i := 2) scNexts.nd rfl (Or.inr rfl))
        (pss_cons (ps_set (i := 3) scNexts.nd rfl (Or.inr rfl) (pe_callB call_len_seq (by rfl) TA.len PySem.boot_len (pa_cons (pv 1) pa_nil)))
        (pss_one (ps_expr (pe_bm PySem.F.plainAttrs_list PySem.F.slot_list_extend PySem.F.type_list_extend mt_extend (pv 1) (pa_cons (pe_lc (own := [("at", 4)]) (g := gName 4) (tt := tYes) rfl scNexts.nd (pi_range1 (by rfl) R.range (pa_cons (pe_fld (pv 2) rfl) pa_nil))
          (blkOk_by (N := nNexts) (sc := defScope sNexts) (by decide +kernel)) (fun _ _ _ _ _ => pg_name (i := 4) scNexts.nd rfl (Or.inl rfl)) (fun _ _ _ _ _ => pts_nil)
          (fun _ _ _ _ _ => pe_op op_add (pv 3) (pe_op op_mod (pe_op op_add (pv 4) pe_int) (pe_fldK (K := K) rfl (pv 2) rfl)))) pa_nil))))))
      (pss_one (ps_ret (pe_callTy call_tupB (by rfl) TA.tuple (by decide +kernel) (pa_cons (pv 1) pa_nil))))), ?_⟩
    refine ⟨Nat.zero_le _, fun l hl0 => ?_⟩
    have s0 := same_upd (o := .lst []) hl0
    refine ⟨_, rfl, a, rfl, ⟨_, s0.seq hA⟩, for_list (K := K) (a := a) (xs := xs.map V.ref) (fun i σ H' => ∃ v2 v3 : Option V, σ = [some (.ref a), some (.ref l), v2, v3, none] ∧ Same H H' ∧ H' l = some (.lst (iv (nxF 0 (ws.take i)))))
      ⟨none, none, rfl, s0, upd_same⟩ (fun i σ H1 _ ⟨_, _, _, s, _⟩ => s.seq hA) ?_ ?_⟩
    · rintro i y σ H1 hi ⟨v2, v3, rfl, sm, hL⟩
      obtain ⟨q, hq, rfl⟩ : ∃ q, xs[i]? = some q ∧ y = V.ref q := by
        rw [List.getElem?_map] at hi
        cases e : xs[i]? with
        | none => rw [e] at hi; cases hi
        | some q => rw [e] at hi; exact ⟨q, rfl, (Option.some.inj hi).symm⟩
      obtain ⟨u, hu, Wq⟩ := hW.at hq
      have Wq := Wq.same sm
      have hft := flat_take hu
      have hup : 0 < u.length := List.length_pos_iff.mpr (hne u (List.mem_of_getElem? hu))
      refine ⟨_, rfl, l, _, rfl, .inl (SqL.of hL), ?_⟩
      refine at_set ?_
      try dsimp only
      have el : ((iv (nxF 0 (ws.take i))).length : Int) = (((ws.take i).flatten.length : Nat) : Int) := by rw [List.length_map, nxF_len]
      rw [el]
      refine ⟨_, rfl, .inl ⟨rfl, _, SqL.of hL⟩, ?_⟩
      refine ar_lc ?_
      obtain ⟨dx, tl, tk, ks, w1, _⟩ := id Wq
      refine ⟨_, rfl, q, C, dx, _, _, rfl, w1, T.cl, T.nN, wf_length, _, rfl, by omega, by omega, fun D hD => ?_⟩
      have sD := same_upd (o := .lst []) hD
      refine lc_range (lo := 0) (n := ((u.length : Nat) : Int).toNat) (fun j H' => Same H1 H' ∧ H' D = some (.lst (iv ((List.range j).map fun (t : Nat) => (((ws.take i).flatten.length : Nat) : Int) + (((t + 1) % u.length : Nat) : Int))))) ⟨sD, upd_same⟩ ?_ ?_
      · rintro j H2 hj ⟨s2, hDD⟩
        rw [Int.toNat_natCast] at hj
        have w2 := s2 _ _ w1
        refine ⟨rfl, yes_te ?_⟩
        refine ⟨_, rfl, _, rfl, _, _, rfl, rfl, _, rfl, q, C, dx, _, _, rfl, w2, T.cl, T.nN, wf_length, _, _, rfl, rfl, by omega, _, _, rfl, rfl, ?_⟩
        refine ⟨_, hDD, Evl.sz_lt (by rw [List.length_map, List.length_map, List.length_range]; omega), fun b o e => ?_, ?_⟩
        · rw [upd_ne (ne_of_none e hD)]
          exact s2 _ _ e
        · rw [upd_same, List.range_succ, List.map_append]
          unfold iv
          rw [List.map_append]
          have ev : ((0 : Int) + (j : Nat) + 1) % ((u.length : Nat) : Int) = (((j + 1) % u.length : Nat) : Int) := by
            rw [Int.natCast_emod]
            congr 1
            omega
          exact congrArg (fun z => some (HO.lst (_ ++ [V.int ((((ws.take i).flatten.length : Nat) : Int) + z)]))) ev
      · rintro H2 ⟨s2, hDD⟩
        rw [Int.toNat_natCast] at hDD
        have hL2 := s2 _ _ hL
        refine ⟨l, D, _, _, rfl, rfl, hL2, hDD, Evl.sz_of (by rw [List.length_map, List.length_map, List.length_map, List.length_range, nxF_len]; omega), ?_⟩
        refine ⟨_, _, rfl, same_put (sm.trans s2) hl0, ?_⟩
        rw [upd_same, nxF_take hu]
        unfold iv
        rw [List.map_append]
    · rintro σ H1 ⟨v2, v3, rfl, sm, hL⟩
      have e : ws.take (xs.map V.ref).length = ws := List.take_of_length_le (by rw [List.length_map, hW.length]; exact Nat.le_refl _)
      rw [e] at hL
      refine ⟨_, rfl, l, _, rfl, .inl ⟨SqL.of hL, fun t H2 s2 B2 => k t H2 (sm.trans s2) B2⟩⟩
end
end W16
set_option Elab.async false
set_option linter.all false
set_option maxRecDepth 100000
set_option maxHeartbeats 1000000
namespace W16
open PySem L2 PySem.Spec PyProof.Rows WR WB
abbrev sInitR : Stmt := inClass (top 54) 0
theorem pi_tupK {X : Cx} {K : PySem.W.Frag} {tg l : Expr} {tl : TE} (h : X.K = K) (hl : PE X l tl) : PI X tg l (iTup K tl) := by
  subst h
  exact pi_tup hl
theorem nx_lc2 {wi wi1 : TI} {g g1 gg : TG} {tt tt1 : TT} {te : TE} {vs vs1 : List Nat} {D : Ends} {σ : L2.St} {H : Hp} {Cc : TS} {b1 b2 : L2.St → Hp → Prop} {rt : VK}
    (h : wi σ H fun J H1 => tLc2 (fun _ H R => R J H) g tt wi1 g1 tt1 te vs vs1 σ H1 fun z H4 => gg z σ H4 (Cc D)) : tNext { nx := tSeq (tAsg (tLc2 wi g tt wi1 g1 tt1 te vs vs1) gg) Cc D, rt := rt, bk := b1, ct := b2 } σ H := h
theorem nx_not_lc {r : List V → Hp → VK → Prop} {wi : TI} {g : TG} {tt : TT} {te : TE} {vs : List Nat} {D : Ends} {σ : L2.St} {H : Hp} {A B Cc : TS} {b1 b2 : L2.St → Hp → Prop} {rt : VK}
    (h : wi σ H fun J H1 => tLc (fun _ H R => R J H) g tt te vs σ H1 fun x H2 => r [x] H2 fun v H3 => ∃ c, v = .bl c ∧ if (!c) = true then A { D with nx := Cc D } σ H3 else B { D with nx := Cc D } σ H3) :
    tNext { nx := tSeq (tIfS (tNot (fun σ H Q => tCB r (tCons (tLc wi g tt te vs) tNil) σ H fun x H1 => ∃ c, x = .bl c ∧ Q c H1)) A B) Cc D, rt := rt, bk := b1, ct := b2 } σ H := h
theorem sq_fld {K : PySem.W.Frag} {ta tv : TE} {f : Str} {Cc : TS} {D : Ends} {σ : L2.St} {H : Hp} (h : tv σ H fun y H1 => sFld K ta (fun _ H Q => Q y H) f { D with nx := Cc D } σ H1) : tSeq (sFld K ta tv f) Cc D σ H := h
theorem cb_lc2 {r : List V → Hp → VK → Prop} {wi wi1 : TI} {g g1 : TG} {tt tt1 : TT} {te : TE} {vs vs1 : List Nat} {σ : L2.St} {H : Hp} {Q : VK}
    (h : wi σ H fun J H1 => tLc2 (fun _ H R => R J H) g tt wi1 g1 tt1 te vs vs1 σ H1 fun y H2 => r [y] H2 Q) : tCB r (tCons (tLc2 wi g tt wi1 g1 tt1 te vs vs1) tNil) σ H Q := h
theorem flat_to {ws : List (List Int)} {i : Nat} (h : i ≤ ws.length) : ((List.range i).map fun i => iv (ws.getD i [])).flatten = iv (ws.take i).flatten := by
  have e : (List.range i).map (fun i => ws.getD i []) = ws.take i := by
    refine List.ext_getElem (by rw [List.length_map, List.length_range, List.length_take]; omega) fun j h1 h2 => ?_
    rw [List.length_take] at h2
    rw [List.getElem_map, List.getElem_range, List.getElem_take, List.getD_eq_getElem?_getD, List.getElem?_eq_getElem (by omega)]
    rfl
  rw [← e]
  unfold iv
  rw [List.map_flatten, List.map_map]
  rfl
def rf (tw tl : Addr) (n b : Nat) (sh : Bool) (th tn : Addr) : List (Str × V) := [("words", .ref tw), ("letters", .ref tl), ("many", .int (n : Int)), ("bands", .int (b : Int)), ("is_short", .bl sh), ("homes", .ref th), ("nexts", .ref tn)]
theorem pr1 {tw : Addr} : putF "words" (.ref tw) ([] : List (Str × V)) = ([("words", .ref tw)] : List (Str × V)) := by
  rfl
theorem pr2 {tw : Addr} {tl : Addr} : putF "letters" (.ref tl) ([("words", .ref tw)] : List (Str × V)) = ([("words", .ref tw), ("letters", .ref tl)] : List (Str × V)) := by
  rw [pf_ne (show ¬ (("words" : Str) = "letters") by decide +kernel)]
  rfl
theorem pr3 {tw : Addr} {tl : Addr} {n : Nat} : putF "many" (.int (n : Int)) ([("words", .ref tw), ("letters", .ref tl)] : List (Str × V)) = ([("words", .ref tw), ("letters", .ref tl), ("many", .int (n : Int))] : List (Str × V)) := by
  rw [pf_ne (show ¬ (("words" : Str) = "many") by decide +kernel), pf_ne (show ¬ (("letters" : Str) = "many") by decide +kernel)]
  rfl
theorem pr4 {tw : Addr} {tl : Addr} {n : Nat} {b : Nat} : putF "bands" (.int (b : Int)) ([("words", .ref tw), ("letters", .ref tl), ("many", .int (n : Int))] : List (Str × V)) = ([("words", .ref tw), ("letters", .ref tl), ("many", .int (n : Int)), ("bands", .int (b : Int))] : List (Str × V)) := by
  rw [pf_ne (show ¬ (("words" : Str) = "bands") by decide +kernel), pf_ne (show ¬ (("letters" : Str) = "bands") by decide +kernel), pf_ne (show ¬ (("many" : Str) = "bands") by decide +kernel)]
  rfl
theorem pr5 {tw : Addr} {tl : Addr} {n : Nat} {b : Nat} {sh : Bool} : putF "is_short" (.bl sh) ([("words", .ref tw), ("letters", .ref tl), ("many", .int (n : Int)), ("bands", .int (b : Int))] : List (Str × V)) = ([("words", .ref tw), ("letters", .ref tl), ("many", .int (n : Int)), ("bands", .int (b : Int)), ("is_short", .bl sh)] : List (Str × V)) := by
  rw [pf_ne (show ¬ (("words" : Str) = "is_short") by decide +kernel), pf_ne (show ¬ (("letters" : Str) = "is_short") by decide +kernel), pf_ne (show ¬ (("many" : Str) = "is_short") by decide +kernel), pf_ne (show ¬ (("bands" : Str) = "is_short") by decide +kernel)]
  rfl
theorem pr6 {tw : Addr} {tl : Addr} {n : Nat} {b : Nat} {sh : Bool} {th : Addr} : putF "homes" (.ref th) ([("words", .ref tw), ("letters", .ref tl), ("many", .int (n : Int)), ("bands", .int (b : Int)), ("is_short", .bl sh)] : List (Str × V)) = ([("words", .ref tw), ("letters", .ref tl), ("many", .int (n : Int)), ("bands", .int (b : Int)), ("is_short", .bl sh), ("homes", .ref th)] : List (Str × V)) := by
  rw [pf_ne (show ¬ (("words" : Str) = "homes") by decide +kernel), pf_ne (show ¬ (("letters" : Str) = "homes") by decide +kernel), pf_ne (show ¬ (("many" : Str) = "homes") by decide +kernel), pf_ne (show ¬ (("bands" : Str) = "homes") by decide +kernel), pf_ne (show ¬ (("is_short" : Str) = "homes") by decide +kernel)]
  rfl
theorem pr7 {tw : Addr} {tl : Addr} {n : Nat} {b : Nat} {sh : Bool} {th : Addr} {tn : Addr} : putF "nexts" (.ref tn) ([("words", .ref tw), ("letters", .ref tl), ("many", .int (n : Int)), ("bands", .int (b : Int)), ("is_short", .bl sh), ("homes", .ref th)] : List (Str × V)) = rf tw tl n b sh th tn := by
  rw [pf_ne (show ¬ (("words" : Str) = "nexts") by decide +kernel), pf_ne (show ¬ (("letters" : Str) = "nexts") by decide +kernel), pf_ne (show ¬ (("many" : Str) = "nexts") by decide +kernel), pf_ne (show ¬ (("bands" : Str) = "nexts") by decide +kernel), pf_ne (show ¬ (("is_short" : Str) = "nexts") by decide +kernel), pf_ne (show ¬ (("homes" : Str) = "nexts") by decide +kernel)]
  rfl
/-- the number of each letter's word, from f on -/
def hmF (f : Nat) : List (List Int) → List Int
  | [] => []
  | w :: r => List.replicate w.length (f : Int) ++ hmF (f + 1) r
theorem hm_to : ∀ (ws : List (List Int)) (f : Nat), ((List.range ws.length).map fun i => iv (List.replicate (ws.getD i []).length ((f + i : Nat) : Int))).flatten = iv (hmF f ws)
  | [], f => rfl
  | w :: r, f => by
    have ih := hm_to r (f + 1)
    rw [List.length_cons, List.range_succ_eq_map, List.map_cons, List.flatten_cons, List.map_map]
    unfold hmF
    have e : (List.range r.length).map ((fun i => iv (List.replicate ((w :: r).getD i []).length ((f + i : Nat) : Int))) ∘ Nat.succ) = (List.range r.length).map fun i => iv (List.replicate (r.getD i []).length ((f + 1 + i : Nat) : Int)) := by
      refine List.map_congr_left fun i _ => ?_
      show iv (List.replicate ((w :: r).getD (i + 1) []).length ((f + (i + 1) : Nat) : Int)) = _
      rw [List.getD_cons_succ, show f + (i + 1) = f + 1 + i by omega]
    rw [e, ih]
    unfold iv
    rw [List.map_append]
    rfl
theorem all_bl {vs : List V} {ws : List (List Int)} {f : List Int → Bool} (h : All2 (fun v u => v = V.bl (f u)) vs ws) : vs = (ws.map f).map V.bl := by
  induction h with
  | nil => rfl
  | cons e _ ih => rw [e, ih]; rfl
theorem all_map (ws : List (List Int)) (f : List Int → Bool) : (ws.map f).all id = ws.all f := by
  rw [List.all_map]
  rfl
def RimsAt (K : PySem.W.Frag) (C CR : Addr) (H : Hp) (p : Addr) (xs : List Addr) (ws : List (List Int)) : Prop :=
  ∃ (dx tw tl th tn : Addr), H p = some (.ins CR dx (rf tw tl ws.flatten.length (ws.flatten.length / 2) (ws.all fun w => decide (Fr.rnd w = w)) th tn)) ∧ SqB K H tw (xs.map V.ref) ∧ Wds K C H xs ws ∧ SqB K H tl (iv ws.flatten) ∧ SqB K H th (iv (hmF 0 ws)) ∧ SqB K H tn (iv (nxF 0 ws))
/-- what may be made to rims -/
def RimOk (ws : List (List Int)) : Prop := 1 ≤ ws.length ∧ ws.length ≤ 4 ∧ (∀ w ∈ ws, w ≠ []) ∧ ws.flatten.length ≤ 24 ∧ Lts ws.flatten ∧ Fr.bal ws.flatten = []
structure TxRC (K : PySem.W.Frag) (mg : Str → Option Value) (CR : Addr) : Prop where
  cl : Cls K CR
  n1 : NoAttr K CR "words"
  n2 : NoAttr K CR "letters"
  n3 : NoAttr K CR "many"
  n4 : NoAttr K CR "bands"
  n5 : NoAttr K CR "is_short"
  n6 : NoAttr K CR "homes"
  n7 : NoAttr K CR "nexts"
  mgR : mg "Rims" = some (.ref CR)
  ca : PySem.W.findIn K (.ref CR) "__class__" = some (some (.builtin "object.__class__"))
  cm : PySem.W.mroIn K CR (.type "object") = some true
def spInitR (K : PySem.W.Frag) (C CR : Addr) : Sp := fun vs H Q _ => ∃ (H0 : Hp) (p dx a : Addr) (xs : List Addr) (ws : List (List Int)), vs = [.ref p, .ref a] ∧ Same H0 H ∧ H0 p = none ∧ H p = some (.ins CR dx []) ∧ SqL K H0 a (xs.map V.ref) ∧ Wds K C H0 xs ws ∧ RimOk ws ∧
  ∀ H', Same H0 H' → RimsAt K C CR H' p xs ws → Q .non H'
abbrev nInitR : List Str := ["self", "words", "letters", "word", "letter", "home", "_"]
section
variable {P : Program} {w : World} {K : PySem.W.Frag} {mg : Str → Option Value} {base : Heap} {C CR : Addr}
theorem scInitR : FnScope nInitR ["self", "words"] (defScope sInitR) := ⟨rfl, rfl, rfl, by decide +kernel, rfl, by decide +kernel, by decide +kernel⟩
theorem ok_initR {f : Addr} {fd : FuncData} (F : Fun K "__init__" "Rims.__init__" sInitR f fd) (T : TxW K mg C) (TC : TxRC K mg CR) (TA : TxA mg) (R : TxR mg) (GL : Cal P w K mg base "is_listed" 1 ["value"] (spListE K)) (GF : Cal P w K mg base "is_filled" 1 ["value"] (spFilled K C))
    (GP : Cal P w K mg base "need_few_places" 1 ["many"] spFewP) (GB : Cal P w K mg base "need_balanced" 3 ["letters"] (spNeedB K)) (GN : Cal P w K mg base "nexts_of" 1 ["words"] (spNexts K C)) :
    FnOk P w K mg base CX0 4 f fd ["self", "words"] (spInitR K C CR) := by
  refine F.ok scInitR (fun vs H Q E h => ?_) (fun cdv A outer s H vs Q E hr h => ?_)
  · obtain ⟨H0, p, dx, a, xs, ws, rfl, _⟩ := h
    rfl
  · obtain ⟨H0, p, dx, a, xs, ws, rfl, s0, p0, hp, hS, hW, ⟨l1, l4, hne, l24, hl, hb⟩, k⟩ := h
    obtain ⟨tW, mW⟩ := R.words
    refine ⟨_, pss_cons (ps_if (PW.pt (pw_or (pt_not (pt_val (pe_cal GL hr (by decide) (by rfl) (pa_cons (pv 1) pa_nil)))) (pw_or1 (pt_not (pt_chain op_le op_le pe_int (pe_callB call_len_seq (by rfl) TA.len PySem.boot_len (pa_cons (pv 1) pa_nil)) (pe_glob (v := .int 4) (by rfl) mW ⟨_, rfl⟩)))))) (pss_one ps_never) pss_nil)
      (pss_cons (ps_if (pt_not (pt_val (pe_callB (cr_all rfl) (by rfl) T.all (by decide +kernel) (pa_cons (pe_lc (own := [("word", 3)]) (g := gName 3) (tt := tYes) rfl scInitR.nd (pi_list (pv 1))
          (blkOk_by (N := nInitR) (sc := defScope sInitR) (by decide +kernel)) (fun _ _ _ _ _ => pg_name (i := 3) scInitR.nd rfl (Or.inl rfl)) (fun _ _ _ _ _ => pts_nil)
          (fun _ _ _ _ _ => pe_cal GF hr (by decide) (by rfl) (pa_cons (pv 3) pa_nil))) pa_nil)))) (pss_one ps_never) pss_nil)
      (pss_cons (ps_setLc2 (i := 2) (own := [("word", 3), ("letter", 4)]) (vs1 := [4]) (g := gName 3) (tt := tYes) (g1 := gName 4) (tt1 := tYes) rfl scInitR.nd rfl rfl (sw_true rfl rfl rfl (by decide +kernel)) (pi_list (pv 1))
          (blkOk_by (N := nInitR) (sc := defScope sInitR) (by decide +kernel)) (by decide) (fun _ _ _ _ _ => pg_name (i := 3) scInitR.nd rfl (Or.inl rfl)) (fun _ _ _ _ _ => pts_nil)
          (fun _ _ _ _ _ => pi_tupK (K := K) rfl (pe_fldK (K := K) rfl (pv 3) rfl)) (fun _ _ _ _ _ => pg_name (i := 4) scInitR.nd rfl (Or.inl rfl)) (fun _ _ _ _ _ => pts_nil) (fun _ _ _ _ _ => pv 4))
      (pss_cons (ps_expr (pe_cal GP hr (by decide) (by rfl) (pa_cons (pe_callB call_len_seq (by rfl) TA.len PySem.boot_len (pa_cons (pv 2) pa_nil)) pa_nil)))
      (pss_cons (ps_expr (pe_cal GB hr (by decide) (by rfl) (pa_cons (pv 2) pa_nil)))
      (pss_cons (ps_fld (pv 0) (pe_callTy call_tupB (by rfl) TA.tuple (by decide +kernel) (pa_cons (pv 1) pa_nil)) rfl)
      (pss_cons (ps_fld (pv 0) (pe_callTy call_tupB (by rfl) TA.tuple (by decide +kernel) (pa_cons (pv 2) pa_nil)) rfl)
      (pss_cons (ps_fld (pv 0) (pe_callB call_len_seq (by rfl) TA.len PySem.boot_len (pa_cons (pv 2) pa_nil)) rfl)
      (pss_cons (ps_fld (pv 0) (pe_op op_fdiv (pe_callB call_len_seq (by rfl) TA.len PySem.boot_len (pa_cons (pv 2) pa_nil)) pe_int) rfl)
      (pss_cons (ps_fld (pv 0) (pe_callB (cr_all rfl) (by rfl) T.all (by decide +kernel) (pa_cons (pe_lc (own := [("word", 3)]) (g := gName 3) (tt := tYes) rfl scInitR.nd (pi_list (pv 1))
          (blkOk_by (N := nInitR) (sc := defScope sInitR) (by decide +kernel)) (fun _ _ _ _ _ => pg_name (i := 3) scInitR.nd rfl (Or.inl rfl)) (fun _ _ _ _ _ => pts_nil)
          (fun _ _ _ _ _ => pe_fldK (K := K) rfl (pv 3) rfl)) pa_nil)) rfl)
      (pss_cons (ps_fld (pv 0) (pe_callTy call_tupB (by rfl) TA.tuple (by decide +kernel) (pa_cons (pe_lc2 (own := [("home", 5), ("word", 3), ("_", 6)]) (vs1 := [6]) (g := gTup K 2 (gCons (gName 5) (gCons (gName 3) gNil))) (tt := tYes) (g1 := gName 6) (tt1 := tYes) rfl scInitR.nd (pi_enum (by rfl) R.enum (pa_cons (pv 1) pa_nil))
          (blkOk_by (N := nInitR) (sc := defScope sInitR) (by decide +kernel)) (by decide) (fun _ _ _ _ _ => pg_tup (n := 2) rfl (pgs_cons (pg_name (i := 5) scInitR.nd rfl (Or.inl rfl)) (pgs_cons (pg_name (i := 3) scInitR.nd rfl (Or.inl rfl)) pgs_nil))) (fun _ _ _ _ _ => pts_nil)
          (fun _ _ _ _ _ => pi_tupK (K := K) rfl (pe_fldK (K := K) rfl (pv 3) rfl)) (fun _ _ _ _ _ => pg_name (i := 6) scInitR.nd rfl (Or.inl rfl)) (fun _ _ _ _ _ => pts_nil) (fun _ _ _ _ _ => pv 5)) pa_nil)) rfl)
      (pss_one (ps_fld (pv 0) (pe_cal GN hr (by decide) (by rfl) (pa_cons (pv 1) pa_nil)) rfl)))))))))))), ?_⟩
    have lxw : xs.length = ws.length := hW.length
    have E0 : SqE K H0 a (xs.map V.ref) := .inl hS
    refine ⟨_, rfl, a, _, rfl, E0.same s0, fun H1 s1 => ⟨_, rfl, ?_⟩⟩
    have s01 := s0.trans s1
    refine iteF ?_
    have hp1 := s1 _ _ hp
    refine ⟨_, rfl, a, _, rfl, .inl (s01.seq hS), _, _, rfl, rfl, _, rfl, iteT' (decide_eq_true (by rw [List.length_map, lxw]; omega)) ⟨_, _, rfl, rfl, _, rfl, no_ne (decide_eq_true (by rw [List.length_map, lxw]; omega)) ?_⟩⟩
    refine nx_not_lc ?_
    refine ⟨_, rfl, a, rfl, ⟨_, s01.seq hS⟩, ?_⟩
    refine lcp (walk_list (xs := xs.map V.ref)) (fun _ => true) (fun _ => V.bl true) (by rw [List.length_map]; omega) (fun H2 s => (s01.trans s).seq hS) ?_ ?_
    · intro x hx H2 s2 Qy Qn ky kn
      obtain ⟨q, hq, rfl⟩ := List.mem_map.mp hx
      obtain ⟨u, hu, Wq⟩ := All2.mem hW hq
      have up : 0 < u.length := List.length_pos_iff.mpr (hne u hu)
      refine ⟨rfl, yes_te ⟨_, rfl, q, u, rfl, Wq.same (s01.trans s2), ?_⟩⟩
      rw [decide_eq_true (show (0 : Int) < (u.length : Int) by omega)]
      exact ky rfl H2 (fun _ _ e => e)
    intro D1 H2 hD1 s2 h2
    have s02 := s01.trans s2
    have hp2 := s2 _ _ hp1
    refine ⟨D1, xs.map fun _ => true, rfl, SqL.of (by
      rw [h2, List.filter_eq_self.mpr (fun _ _ => rfl), List.map_map, List.map_map]
      rfl), ?_⟩
    have eall : (xs.map fun _ => true).all id = true := by
      rw [List.all_eq_true]
      intro b hb
      obtain ⟨_, _, rfl⟩ := List.mem_map.mp hb
      rfl
    rw [eall]
    refine ⟨_, rfl, iteF ?_⟩
    refine nx_lc2 ?_
    refine ⟨_, rfl, a, rfl, ⟨_, s02.seq hS⟩, ?_⟩
    refine lc2_out (walk_list (xs := xs.map V.ref)) (fun i => iv (ws.getD i [])) (fun H s => (s02.trans s).seq hS) ?_ ?_
    · rintro i x D H H' hi ⟨rfl, hx⟩ hD sm hDD Nx kN
      obtain ⟨q, hq, rfl⟩ : ∃ q, xs[i]? = some q ∧ x = V.ref q := by
        rw [List.getElem?_map] at hx
        cases e : xs[i]? with
        | none => rw [e] at hx; cases hx
        | some q => rw [e] at hx; exact ⟨q, rfl, (Option.some.inj hx).symm⟩
      obtain ⟨u, hu, Wq⟩ := hW.at hq
      have eu : ws.getD i [] = u := by rw [List.getD_eq_getElem?_getD, hu]; rfl
      obtain ⟨dx1, tl, tk, ks, w1, w2, _⟩ := Wq.same s02
      refine ⟨rfl, yes_te ?_⟩
      refine ⟨_, rfl, q, C, dx1, _, _, rfl, sm _ _ w1, T.cl, T.nL, wf_letters, tl, rfl, ⟨_, WR.Same.seqT sm w2.sq⟩, ?_⟩
      have hft := flat_take hu
      refine lc2_in (walk_tup (xs := iv u)) (fun y => y) hD sm hDD ?_ (fun H s => ?_) ?_ ?_
      · rw [flat_to (by have := (List.getElem?_eq_some_iff.mp hu).1; omega)]
        rw [List.length_map, List.length_map]
        omega
      · exact WR.Same.seqT s w2.sq
      · intro y hy H2 s2 Qy ky Qn
        exact ⟨rfl, yes_te ⟨_, rfl, ky H2 (fun _ _ e => e)⟩⟩
      · intro H2 s2 h2
        refine kN H2 s2 ?_
        rw [h2, List.map_id', eu]
    intro D H3 hD s3 h3
    have eD : ((List.range (xs.map V.ref).length).map fun i => iv (ws.getD i [])).flatten = iv ws.flatten := by
      rw [List.length_map, lxw, flat_to (Nat.le_refl _), List.take_length]
    rw [eD] at h3
    refine at_set ?_
    try dsimp only
    have s03 := s02.trans s3
    have hp3 := s3 _ _ hp2
    have elen : ((iv ws.flatten).length : Int) = (ws.flatten.length : Int) := by rw [List.length_map]
    refine ⟨_, rfl, D, _, rfl, .inl (SqL.of h3), _, rfl, by rw [elen]; omega, ?_⟩
    refine ⟨_, rfl, D, ws.flatten, rfl, SqL.of h3, by omega, hl, hb, fun H4 s4 => ?_⟩
    have s04 := s03.trans s4
    have hp4 := s4 _ _ hp3
    have h4 := s4 _ _ h3
    -- its words
    refine ⟨_, rfl, a, _, rfl, .inl ⟨s04.seq hS, fun tw H5 s5 B5 => ?_⟩⟩
    refine ⟨_, rfl, p, CR, dx, _, rfl, s5 _ _ hp4, TC.cl, TC.n1, (by show 0 < 1000; decide), ?_⟩
    have hDp : ¬ D = p := fun c => by
      rw [c, hp4] at h4
      cases h4
    have s05 := s04.trans s5
    have h5 := s5 _ _ h4
    have hpp1 : L2.upd H5 p (.ins CR dx (putF "words" (.ref tw) [])) p = some (.ins CR dx [("words", .ref tw)]) := by rw [upd_same, pr1]
    have s06 := same_put (o := (.ins CR dx (putF "words" (.ref tw) []))) s05 p0
    have w6 := SqB.put (o := (.ins CR dx (putF "words" (.ref tw) []))) B5 (s5 _ _ hp4)
    have h6 : L2.upd H5 p (.ins CR dx (putF "words" (.ref tw) [])) D = some (.lst (iv ws.flatten)) := by rw [upd_ne (fun c => hDp c)]; exact h5
    obtain ⟨H6, eH6⟩ : ∃ H', H' = L2.upd H5 p (.ins CR dx (putF "words" (.ref tw) [])) := ⟨_, rfl⟩
    rw [← eH6] at hpp1 s06 w6 h6 ⊢
    clear eH6
    refine ⟨_, rfl, D, _, rfl, .inl ⟨SqL.of h6, fun tl H7 s7 B7 => ?_⟩⟩
    refine ⟨_, rfl, p, CR, dx, _, rfl, s7 _ _ hpp1, TC.cl, TC.n2, (by show 1 < 1000; decide), ?_⟩
    have s07 := s06.trans s7
    have w7 := SqB.same s7 w6
    have h7 := s7 _ _ h6
    have hpp2 : L2.upd H7 p (.ins CR dx (putF "letters" (.ref tl) [("words", .ref tw)])) p = some (.ins CR dx [("words", .ref tw), ("letters", .ref tl)]) := by rw [upd_same, pr2]
    have s08 := same_put (o := (.ins CR dx (putF "letters" (.ref tl) [("words", .ref tw)]))) s07 p0
    have w8 := SqB.put (o := (.ins CR dx (putF "letters" (.ref tl) [("words", .ref tw)]))) w7 (s7 _ _ hpp1)
    have b8 := SqB.put (o := (.ins CR dx (putF "letters" (.ref tl) [("words", .ref tw)]))) B7 (s7 _ _ hpp1)
    have h8 : L2.upd H7 p (.ins CR dx (putF "letters" (.ref tl) [("words", .ref tw)])) D = some (.lst (iv ws.flatten)) := by rw [upd_ne (fun c => hDp c)]; exact h7
    obtain ⟨H8, eH8⟩ : ∃ H', H' = L2.upd H7 p (.ins CR dx (putF "letters" (.ref tl) [("words", .ref tw)])) := ⟨_, rfl⟩
    rw [← eH8] at hpp2 s08 w8 b8 h8 ⊢
    clear eH8
    refine ⟨_, rfl, D, _, rfl, .inl (SqL.of h8), ?_⟩
    rw [elen]
    refine ⟨_, rfl, p, CR, dx, _, rfl, hpp2, TC.cl, TC.n3, (by show 2 < 1000; decide), ?_⟩
    have hpp3 : L2.upd H8 p (.ins CR dx (putF "many" (.int (ws.flatten.length : Nat)) [("words", .ref tw), ("letters", .ref tl)])) p = some (.ins CR dx [("words", .ref tw), ("letters", .ref tl), ("many", .int (ws.flatten.length : Nat))]) := by rw [upd_same, pr3]
    have s09 := same_put (o := (.ins CR dx (putF "many" (.int (ws.flatten.length : Nat)) [("words", .ref tw), ("letters", .ref tl)]))) s08 p0
    have w9 := SqB.put (o := (.ins CR dx (putF "many" (.int (ws.flatten.length : Nat)) [("words", .ref tw), ("letters", .ref tl)]))) w8 hpp2
    have b9 := SqB.put (o := (.ins CR dx (putF "many" (.int (ws.flatten.length : Nat)) [("words", .ref tw), ("letters", .ref tl)]))) b8 hpp2
    have h9 : L2.upd H8 p (.ins CR dx (putF "many" (.int (ws.flatten.length : Nat)) [("words", .ref tw), ("letters", .ref tl)])) D = some (.lst (iv ws.flatten)) := by rw [upd_ne (fun c => hDp c)]; exact h8
    obtain ⟨H9, eH9⟩ : ∃ H', H' = L2.upd H8 p (.ins CR dx (putF "many" (.int (ws.flatten.length : Nat)) [("words", .ref tw), ("letters", .ref tl)])) := ⟨_, rfl⟩
    rw [← eH9] at hpp3 s09 w9 b9 h9 ⊢
    clear eH9
    refine ⟨_, rfl, D, _, rfl, .inl (SqL.of h9), _, _, rfl, rfl, ⟨by decide, by decide⟩, ?_⟩
    rw [elen]
    have e2 : ((ws.flatten.length : Nat) : Int) / 2 = ((ws.flatten.length / 2 : Nat) : Int) := by omega
    try dsimp only
    rw [e2]
    refine ⟨_, rfl, p, CR, dx, _, rfl, hpp3, TC.cl, TC.n4, (by show 3 < 1000; decide), ?_⟩
    have hpp4 : L2.upd H9 p (.ins CR dx (putF "bands" (.int ((ws.flatten.length / 2) : Nat)) [("words", .ref tw), ("letters", .ref tl), ("many", .int (ws.flatten.length : Nat))])) p = some (.ins CR dx [("words", .ref tw), ("letters", .ref tl), ("many", .int (ws.flatten.length : Nat)), ("bands", .int ((ws.flatten.length / 2) : Nat))]) := by rw [upd_same, pr4]
    have s0A := same_put (o := (.ins CR dx (putF "bands" (.int ((ws.flatten.length / 2) : Nat)) [("words", .ref tw), ("letters", .ref tl), ("many", .int (ws.flatten.length : Nat))]))) s09 p0
    have wA := SqB.put (o := (.ins CR dx (putF "bands" (.int ((ws.flatten.length / 2) : Nat)) [("words", .ref tw), ("letters", .ref tl), ("many", .int (ws.flatten.length : Nat))]))) w9 hpp3
    have bA := SqB.put (o := (.ins CR dx (putF "bands" (.int ((ws.flatten.length / 2) : Nat)) [("words", .ref tw), ("letters", .ref tl), ("many", .int (ws.flatten.length : Nat))]))) b9 hpp3
    obtain ⟨HA, eHA⟩ : ∃ H', H' = L2.upd H9 p (.ins CR dx (putF "bands" (.int ((ws.flatten.length / 2) : Nat)) [("words", .ref tw), ("letters", .ref tl), ("many", .int (ws.flatten.length : Nat))])) := ⟨_, rfl⟩
    rw [← eHA] at hpp4 s0A wA bA ⊢
    clear eHA
    have sqA := s0A.seq hS
    have WA : Wds K C HA xs ws := hW.same s0A
    refine sq_fld ?_
    refine cb_lc ?_
    refine ⟨_, rfl, a, rfl, ⟨_, sqA⟩, ?_⟩
    refine lcM (walk_list (K := K) (a := a) (xs := xs.map V.ref)) ws (fun _ _ v u => v = V.bl (decide (Fr.rnd u = u))) (fun _ _ _ _ _ h _ => h) (fun _ _ _ _ _ _ _ h => h) (by rw [List.length_map]; omega) (by rw [List.length_map]; exact lxw) (fun H s => s.seq sqA) ?_ (fun x σ1 H A B k h => gName_mono k h) ?_
    · intro i x u hx hu D2 H2 hD2 _ s2 Qy ky
      obtain ⟨q, hq, rfl⟩ : ∃ q, xs[i]? = some q ∧ x = V.ref q := by
        rw [List.getElem?_map] at hx
        cases e : xs[i]? with
        | none => rw [e] at hx; cases hx
        | some q => rw [e] at hx; exact ⟨q, rfl, (Option.some.inj hx).symm⟩
      obtain ⟨u', hu', Wq⟩ := WA.at hq
      obtain rfl : u' = u := Option.some.inj (hu'.symm.trans hu)
      obtain ⟨dx1, tl1, tk, ks, w1, _⟩ := Wq.same s2
      exact ⟨rfl, _, rfl, q, C, dx1, _, _, rfl, w1, T.cl, T.nR, wf_round, ky _ H2 (fun _ _ e => e) rfl⟩
    intro D2 HB bs hD2 sB hB2 hbs
    rw [all_bl hbs] at hB2
    refine ⟨D2, _, rfl, SqL.of hB2, ?_⟩
    rw [all_map]
    have s0B := s0A.trans sB
    have wB := SqB.same sB wA
    have bB := SqB.same sB bA
    refine ⟨_, rfl, p, CR, dx, _, rfl, sB _ _ hpp4, TC.cl, TC.n5, (by show 4 < 1000; decide), ?_⟩
    have hpp5 : L2.upd HB p (.ins CR dx (putF "is_short" (.bl (ws.all fun w => decide (Fr.rnd w = w))) [("words", .ref tw), ("letters", .ref tl), ("many", .int (ws.flatten.length : Nat)), ("bands", .int ((ws.flatten.length / 2) : Nat))])) p = some (.ins CR dx [("words", .ref tw), ("letters", .ref tl), ("many", .int (ws.flatten.length : Nat)), ("bands", .int ((ws.flatten.length / 2) : Nat)), ("is_short", .bl (ws.all fun w => decide (Fr.rnd w = w)))]) := by rw [upd_same, pr5]
    have s0C := same_put (o := (.ins CR dx (putF "is_short" (.bl (ws.all fun w => decide (Fr.rnd w = w))) [("words", .ref tw), ("letters", .ref tl), ("many", .int (ws.flatten.length : Nat)), ("bands", .int ((ws.flatten.length / 2) : Nat))]))) s0B p0
    have wC := SqB.put (o := (.ins CR dx (putF "is_short" (.bl (ws.all fun w => decide (Fr.rnd w = w))) [("words", .ref tw), ("letters", .ref tl), ("many", .int (ws.flatten.length : Nat)), ("bands", .int ((ws.flatten.length / 2) : Nat))]))) wB (sB _ _ hpp4)
    have bC := SqB.put (o := (.ins CR dx (putF "is_short" (.bl (ws.all fun w => decide (Fr.rnd w = w))) [("words", .ref tw), ("letters", .ref tl), ("many", .int (ws.flatten.length : Nat)), ("bands", .int ((ws.flatten.length / 2) : Nat))]))) bB (sB _ _ hpp4)
    obtain ⟨HC, eHC⟩ : ∃ H', H' = L2.upd HB p (.ins CR dx (putF "is_short" (.bl (ws.all fun w => decide (Fr.rnd w = w))) [("words", .ref tw), ("letters", .ref tl), ("many", .int (ws.flatten.length : Nat)), ("bands", .int ((ws.flatten.length / 2) : Nat))])) := ⟨_, rfl⟩
    rw [← eHC] at hpp5 s0C wC bC ⊢
    clear eHC
    have sqC := s0C.seq hS
    have WC : Wds K C HC xs ws := hW.same s0C
    try dsimp only
    refine sq_fld ?_
    refine cb_lc2 ?_
    refine ⟨_, rfl, a, _, rfl, sqC, ?_⟩
    refine lc2_out (walk_enum (xs := xs.map V.ref)) (fun i => iv (List.replicate (ws.getD i []).length ((0 + i : Nat) : Int))) (fun H s => s.seq sqC) ?_ ?_
    · rintro i x D3 H H' hi ⟨T3, y1, y2, rfl, hT, rfl, e1, hx⟩ hD sm hDD Nx kN
      cases e1
      have hx : (xs.map V.ref)[i]? = some y2 := hx
      obtain ⟨q, hq, rfl⟩ : ∃ q, xs[i]? = some q ∧ y2 = V.ref q := by
        rw [List.getElem?_map] at hx
        cases e : xs[i]? with
        | none => rw [e] at hx; cases hx
        | some q => rw [e] at hx; exact ⟨q, rfl, (Option.some.inj hx).symm⟩
      obtain ⟨u, hu, Wq⟩ := WC.at hq
      have eu : ws.getD i [] = u := by rw [List.getD_eq_getElem?_getD, hu]; rfl
      have sT := same_upd (o := .tup [.int (i : Nat), .ref q]) hT
      have smT := sm.trans sT
      obtain ⟨dx1, tl1, tk, ks, w1, w2, _⟩ := Wq
      have hft := flat_take hu
      refine ⟨T3, _, rfl, SqT.of upd_same, rfl, _, _, rfl, _, _, rfl, rfl, ?_⟩
      refine ⟨rfl, yes_te ?_⟩
      refine ⟨_, rfl, q, C, dx1, _, _, rfl, smT _ _ w1, T.cl, T.nL, wf_letters, tl1, rfl, ⟨_, WR.Same.seqT smT w2.sq⟩, ?_⟩
      refine lc2_in (walk_tup (xs := iv u)) (fun _ => .int ((0 + i : Nat) : Int)) hD smT (sT _ _ hDD) ?_ (fun H s => WR.Same.seqT s w2.sq) ?_ ?_
      · have el : ∀ j, j ≤ ws.length → (((List.range j).map fun i => iv (List.replicate (ws.getD i []).length ((0 + i : Nat) : Int))).flatten).length = (ws.take j).flatten.length := by
          intro j
          induction j with
          | zero => intro _; rfl
          | succ j ih =>
            intro hj
            have ej : ws[j]? = some (ws.getD j []) := by
              rw [List.getD_eq_getElem?_getD, List.getElem?_eq_getElem (show j < ws.length by omega)]
              rfl
            rw [List.range_succ, List.map_append, List.flatten_append, List.length_append, ih (by omega), List.take_succ_eq_append_getElem (show j < ws.length by omega), List.flatten_append, List.length_append]
            simp only [List.map_cons, List.map_nil, List.flatten_cons, List.flatten_nil, List.append_nil, List.length_map, List.length_replicate]
            rw [List.getD_eq_getElem?_getD, List.getElem?_eq_getElem (show j < ws.length by omega)]
            rfl
        rw [el i (by have := (List.getElem?_eq_some_iff.mp hu).1; omega), List.length_map]
        omega
      · intro y hy H2 s2 Qy ky Qn
        refine ⟨rfl, yes_te ⟨_, rfl, ?_⟩⟩
        have := ky H2 (fun _ _ e => e)
        rw [Nat.zero_add] at this
        exact this
      · intro H2 s2 h2
        refine kN H2 s2 ?_
        rw [h2, eu]
        congr 3
        unfold iv
        rw [List.map_map, List.map_replicate]
        exact List.map_const ..
    intro D3 HD hD3 sD hDD
    rw [List.length_map, lxw, hm_to ws 0] at hDD
    have s0D := s0C.trans sD
    refine ⟨D3, _, rfl, .inl ⟨SqL.of hDD, fun th HE sE BE => ?_⟩⟩
    have s0E := s0D.trans sE
    have sCE := sD.trans sE
    have wE := SqB.same sCE wC
    have bE := SqB.same sCE bC
    refine ⟨_, rfl, p, CR, dx, _, rfl, sCE _ _ hpp5, TC.cl, TC.n6, (by show 5 < 1000; decide), ?_⟩
    have hpp6 : L2.upd HE p (.ins CR dx (putF "homes" (.ref th) [("words", .ref tw), ("letters", .ref tl), ("many", .int (ws.flatten.length : Nat)), ("bands", .int ((ws.flatten.length / 2) : Nat)), ("is_short", .bl (ws.all fun w => decide (Fr.rnd w = w)))])) p = some (.ins CR dx [("words", .ref tw), ("letters", .ref tl), ("many", .int (ws.flatten.length : Nat)), ("bands", .int ((ws.flatten.length / 2) : Nat)), ("is_short", .bl (ws.all fun w => decide (Fr.rnd w = w))), ("homes", .ref th)]) := by rw [upd_same, pr6]
    have s0F := same_put (o := (.ins CR dx (putF "homes" (.ref th) [("words", .ref tw), ("letters", .ref tl), ("many", .int (ws.flatten.length : Nat)), ("bands", .int ((ws.flatten.length / 2) : Nat)), ("is_short", .bl (ws.all fun w => decide (Fr.rnd w = w)))]))) s0E p0
    have wF := SqB.put (o := (.ins CR dx (putF "homes" (.ref th) [("words", .ref tw), ("letters", .ref tl), ("many", .int (ws.flatten.length : Nat)), ("bands", .int ((ws.flatten.length / 2) : Nat)), ("is_short", .bl (ws.all fun w => decide (Fr.rnd w = w)))]))) wE (sCE _ _ hpp5)
    have bF := SqB.put (o := (.ins CR dx (putF "homes" (.ref th) [("words", .ref tw), ("letters", .ref tl), ("many", .int (ws.flatten.length : Nat)), ("bands", .int ((ws.flatten.length / 2) : Nat)), ("is_short", .bl (ws.all fun w => decide (Fr.rnd w = w)))]))) bE (sCE _ _ hpp5)
    have tF := SqB.put (o := (.ins CR dx (putF "homes" (.ref th) [("words", .ref tw), ("letters", .ref tl), ("many", .int (ws.flatten.length : Nat)), ("bands", .int ((ws.flatten.length / 2) : Nat)), ("is_short", .bl (ws.all fun w => decide (Fr.rnd w = w)))]))) BE (sCE _ _ hpp5)
    obtain ⟨HF, eHF⟩ : ∃ H', H' = L2.upd HE p (.ins CR dx (putF "homes" (.ref th) [("words", .ref tw), ("letters", .ref tl), ("many", .int (ws.flatten.length : Nat)), ("bands", .int ((ws.flatten.length / 2) : Nat)), ("is_short", .bl (ws.all fun w => decide (Fr.rnd w = w)))])) := ⟨_, rfl⟩
    rw [← eHF] at hpp6 s0F wF bF tF ⊢
    clear eHF
    refine ⟨_, rfl, a, xs, ws, rfl, s0F.seq hS, hW.same s0F, l4, hne, l24, fun tn HG sG BG => ?_⟩
    have s0G := s0F.trans sG
    have wG := SqB.same sG wF
    have bG := SqB.same sG bF
    have tG := SqB.same sG tF
    refine ⟨_, rfl, p, CR, dx, _, rfl, sG _ _ hpp6, TC.cl, TC.n7, (by show 6 < 1000; decide), ?_⟩
    have hpp7 : L2.upd HG p (.ins CR dx (putF "nexts" (.ref tn) [("words", .ref tw), ("letters", .ref tl), ("many", .int (ws.flatten.length : Nat)), ("bands", .int ((ws.flatten.length / 2) : Nat)), ("is_short", .bl (ws.all fun w => decide (Fr.rnd w = w))), ("homes", .ref th)])) p = some (.ins CR dx (rf tw tl ws.flatten.length (ws.flatten.length / 2) (ws.all fun w => decide (Fr.rnd w = w)) th tn)) := by rw [upd_same, pr7]
    have s0I := same_put (o := (.ins CR dx (putF "nexts" (.ref tn) [("words", .ref tw), ("letters", .ref tl), ("many", .int (ws.flatten.length : Nat)), ("bands", .int ((ws.flatten.length / 2) : Nat)), ("is_short", .bl (ws.all fun w => decide (Fr.rnd w = w))), ("homes", .ref th)]))) s0G p0
    have wI := SqB.put (o := (.ins CR dx (putF "nexts" (.ref tn) [("words", .ref tw), ("letters", .ref tl), ("many", .int (ws.flatten.length : Nat)), ("bands", .int ((ws.flatten.length / 2) : Nat)), ("is_short", .bl (ws.all fun w => decide (Fr.rnd w = w))), ("homes", .ref th)]))) wG (sG _ _ hpp6)
    have bI := SqB.put (o := (.ins CR dx (putF "nexts" (.ref tn) [("words", .ref tw), ("letters", .ref tl), ("many", .int (ws.flatten.length : Nat)), ("bands", .int ((ws.flatten.length / 2) : Nat)), ("is_short", .bl (ws.all fun w => decide (Fr.rnd w = w))), ("homes", .ref th)]))) bG (sG _ _ hpp6)
    have tI := SqB.put (o := (.ins CR dx (putF "nexts" (.ref tn) [("words", .ref tw), ("letters", .ref tl), ("many", .int (ws.flatten.length : Nat)), ("bands", .int ((ws.flatten.length / 2) : Nat)), ("is_short", .bl (ws.all fun w => decide (Fr.rnd w = w))), ("homes", .ref th)]))) tG (sG _ _ hpp6)
    have nI := SqB.put (o := (.ins CR dx (putF "nexts" (.ref tn) [("words", .ref tw), ("letters", .ref tl), ("many", .int (ws.flatten.length : Nat)), ("bands", .int ((ws.flatten.length / 2) : Nat)), ("is_short", .bl (ws.all fun w => decide (Fr.rnd w = w))), ("homes", .ref th)]))) BG (sG _ _ hpp6)
    obtain ⟨HI, eHI⟩ : ∃ H', H' = L2.upd HG p (.ins CR dx (putF "nexts" (.ref tn) [("words", .ref tw), ("letters", .ref tl), ("many", .int (ws.flatten.length : Nat)), ("bands", .int ((ws.flatten.length / 2) : Nat)), ("is_short", .bl (ws.all fun w => decide (Fr.rnd w = w))), ("homes", .ref th)])) := ⟨_, rfl⟩
    rw [← eHI] at hpp7 s0I wI bI tI nI ⊢
    clear eHI
    exact k HI s0I ⟨dx, tw, tl, th, tn, hpp7, wI, hW.same s0I, bI, tI, nI⟩
end
end W16
set_option Elab.async false
set_option linter.all false
set_option maxRecDepth 100000
set_option maxHeartbeats 2000000
/-! t == u of tuples, whatever their items' == answers. -/
namespace TE
open PySem PySem.SeqAt PySem.Spec PyProof.Rows
open AutoSeq1 (wpAny_loadPart')
section
variable {P : Program} {w : World} {A : Around} {R : Result → Shared → Prop}
/-- the whole answer -/
abbrev ans (xs ys : Array Value) (e : Nat → Bool) : Bool := (List.range (min xs.size ys.size)).all e && xs.size == ys.size
theorem tup_eq (l b : Addr) (xs ys : Array Value) (n k : Nat) (d1 d2 : Option Addr) (o1 o2 : Array (Option Value)) (e : Nat → Bool) (I : Nat → Shared → Prop)
    (step : ∀ i (h1 : i < xs.size) (h2 : i < ys.size) t, I i t → wpAny (model P w) A.in1 (eqBool xs[i] ys[i]) (fun r t' => r = e i ∧ I (i + 1) t') (fun x t' => R (.error x) t') t)
    (out : ∀ i t, I i t → R (.ok (.ret (.bool (ans xs ys e)))) t) {s : Shared} (at1 : s.heap.get? l = some { cls := .type "tuple", dict := d1, data := .seq xs n, slots := o1 }) (at2 : s.heap.get? b = some { cls := .type "tuple", dict := d2, data := .seq ys k, slots := o2 }) (start : I 0 s) :
    wpAny (model P w) A.in1 (Builtin.«tuple.__eq__» ⟨[.ref l, .ref b], []⟩) (GQ.FinOf P w A R) (fun x t => R (.error x) t) s := by
  have sub := AutoSeq1.sub_tuple_tuple
  have len : (xs.toList.zip ys.toList).length = min xs.size ys.size := by simp
  have i0 := start
  obtain ⟨hp, g, d, tk, os⟩ := s
  wp_walk using wpAny_loadPart' at1, wpAny_loadPart' at2, wpAny_forIn_list _ (fun rest b t => b.1 = none ∧ ∃ i, rest = (xs.toList.zip ys.toList).drop i ∧ (∀ j, j < i → j < min xs.size ys.size → e j = true) ∧ I i t) _
  case turn =>
    rintro ⟨y, x⟩ rest b t ⟨hb, i, hz, before, it⟩
    have lt : i < (xs.toList.zip ys.toList).length := Nat.lt_of_not_le fun h' => by
      rw [List.drop_of_length_le h'] at hz
      cases hz
    have lm : i < min xs.size ys.size := len ▸ lt
    have h1 : i < xs.size := by omega
    have h2 : i < ys.size := by omega
    rw [List.drop_eq_getElem_cons lt] at hz
    obtain ⟨pq, more⟩ := List.cons.inj hz
    obtain rfl : y = xs[i] := by simpa using congrArg Prod.fst pq
    obtain rfl : x = ys[i] := by simpa using congrArg Prod.snd pq
    refine wpAny_bind (wpAny_mono (step i h1 h2 t it) (fun r t2 q => ?_) fun _ _ z => z)
    obtain ⟨rfl, it2⟩ := q
    cases he : e i with
    | true =>
      wp_walk
      refine ⟨rfl, i + 1, more, fun j hj lj => ?_, it2⟩
      rcases Nat.lt_succ_iff_lt_or_eq.mp hj with h | rfl
      · exact before j h lj
      · exact he
    | false =>
      wp_walk
      have no : ans xs ys e = false := by
        have : (List.range (min xs.size ys.size)).all e = false := List.all_eq_false.mpr ⟨i, List.mem_range.mpr lm, by rw [he]; decide⟩
        rw [ans, this, Bool.false_and]
      have := out _ _ it2
      rw [no] at this
      exact this
  case fin =>
    rintro ⟨b1, b2⟩ t ⟨hb, i, hz, before, it⟩
    simp only at hb
    subst hb
    have ge : min xs.size ys.size ≤ i := Nat.le_of_not_lt fun h => by
      rw [List.drop_eq_getElem_cons (len ▸ h)] at hz
      cases hz
    have yes : (List.range (min xs.size ys.size)).all e = true := List.all_eq_true.mpr fun j hj => before j (by have := List.mem_range.mp hj; omega) (List.mem_range.mp hj)
    have fin := out _ _ it
    rw [ans, yes, Bool.true_and] at fin
    wp_walk
    simpa [Builtin.Tuple.tupleCompareSizes] using fin
  case h => exact ⟨rfl, 0, rfl, fun j hj => absurd hj (Nat.not_lt_zero j), i0⟩
end
end TE
set_option Elab.async false
set_option linter.all false
set_option maxRecDepth 100000
set_option maxHeartbeats 1000000
namespace W16
open PySem L2 PySem.Spec PyProof.Rows WR WB
/-! ### tuples of words, held against one another -/
section
variable {X : Cx} {C : Addr} {pins : List (Addr × Obj)} {σ : L2.St} {H : Hp} {s : Shared}
theorem vals_ints_inj : ∀ {ns ms : List Int} {us : List Value}, Vals (iv ns) us → Vals (iv ms) us → ns = ms
  | [], [], _, _, _ => rfl
  | [], _ :: _, _, .nil, h => nomatch h
  | _ :: _, [], _, h, .nil => nomatch h
  | n :: ns, m :: ms, _, .cons h1 t1, h2 => by
    cases h2 with
    | cons h3 t3 =>
      obtain ⟨t, rfl⟩ := h1
      obtain ⟨t', e⟩ := h3
      cases e
      rw [vals_ints_inj t1 t3]
theorem word_inj (I : Inv X pins σ H s) {p : Addr} {ns ms : List Int} (h1 : WordAt X.K C H p ns) (h2 : WordAt X.K C H p ms) : ns = ms := by
  obtain ⟨dx, tl, tk, ks, a1, a2, _⟩ := h1
  obtain ⟨dy, ul, uk, js, b1, b2, _⟩ := h2
  have e := Option.some.inj (a1.symm.trans b1)
  injection e with _ _ ef
  have et : tl = ul := by
    have := List.cons.inj ef
    have := Prod.mk.inj this.1
    injection this.2
  subst et
  obtain ⟨its, v1, ⟨o1, g1, _, n1, d1⟩, _⟩ := I.tuple a2.sq
  obtain ⟨its2, v2, ⟨o2, g2, _, n2, d2⟩, _⟩ := I.tuple b2.sq
  have eo := Option.some.inj (g1.symm.trans g2)
  subst eo
  have ei : its = its2 := by
    have := d1.symm.trans d2
    injection this with this
    simpa using this
  subst ei
  exact vals_ints_inj v1 v2
theorem rcW (M : EqW X.prog X.w X.K X.mg X.base C) {A : Around} (sb : Sub X 1 A) (I : Inv X pins σ H s) {a b : Addr} {ns ms : List Int} (W1 : WordAt X.K C H a ns) (W2 : WordAt X.K C H b ms) :
    wpAny (model X.prog X.w) A (richCompare .Eq (.ref a) (.ref b)) (fun r s' => r = .bool (decide (ns = ms)) ∧ Inv X pins σ H s') X.xe s := by
  obtain ⟨f, fd, F, hs, hf, hb⟩ := M.ex
  obtain ⟨dx, tl, tk, ks, ha, _⟩ := id W1
  obtain ⟨dx', tl', tk', ks', hb', _⟩ := id W2
  obtain ⟨mA, J, _⟩ := ins_get I.hok ha
  obtain ⟨mB, J', _⟩ := ins_get I.hok hb'
  obtain ⟨od, J, _⟩ := J.look
  obtain ⟨od', J', _⟩ := J'.look
  obtain ⟨m, hF⟩ := I.fr
  refine PySem.W.cmp_K (op := .Eq) (tb := .ref C) sb.room.units0 hF I.ok.mod.kin J J'.type (by simp [PySem.W.notFirst]) hs hf ?_
  have hsp : spEq X.K C [.ref a, .ref b] H (fun v H' => v = .bl (decide (ns = ms)) ∧ H' = H) E0 := ⟨a, b, ns, ms, rfl, W1, W2, rfl, rfl⟩
  have e0 : Env0 X.prog X.w X.K X.mg X.base A X.stack s H := by
    have e := I.env0
    exact ⟨by rw [sb.fr]; exact e.frames, e.mod, e.bs, e.bsz, e.funs, e.frf, e.hok, e.bare⟩
  have hl := F.len _ _ _ _ hsp
  have r2 : Vals [V.ref a, V.ref b] [Value.ref a, Value.ref b] := .cons rfl (.cons rfl .nil)
  refine wpAny_call (codeAny_mono (F.run A X.stack s H ⟨[.ref a, .ref b], []⟩ [.ref a, .ref b] [.ref a, .ref b] _ E0 sb.room e0 (by
    have := hb s [.ref a, .ref b] I.kIn (by simpa using hl)
    simpa using this) r2 hsp) fun r s' hq => ?_)
  cases r with
  | error e => exact pass0 pins σ H s e s' I hq
  | ok fl =>
    cases fl with
    | ret w =>
      obtain ⟨z, H', I', rz, ez, eH⟩ := I.after hq
      subst ez eH
      cases rz
      exact ⟨rfl, I'⟩
    | next => exact False.elim hq
    | brk => exact False.elim hq
    | cont => exact False.elim hq
theorem ebW (M : EqW X.prog X.w X.K X.mg X.base C) {A : Around} (sb : Sub X 1 A) (I : Inv X pins σ H s) {a b : Addr} {ns ms : List Int} (W1 : WordAt X.K C H a ns) (W2 : WordAt X.K C H b ms) :
    wpAny (model X.prog X.w) A (eqBool (.ref a) (.ref b)) (fun r s' => r = decide (ns = ms) ∧ Inv X pins σ H s') X.xe s := by
  by_cases hab : a = b
  · subst hab
    have e := word_inj I W1 W2
    subst e
    exact (SeqAt.EqAt.same (A := A) (s := s) (.ref a)) X.prog X.w X.xe _ ⟨(decide_eq_true rfl).symm, I⟩
  · refine GQ.eqBool_refG hab (wpAny_mono (rcW M sb I W1 W2) (fun v s' q => ⟨_, q.1, rfl, q.2⟩) fun _ _ z => z)
end
def rEqWT (K : PySem.W.Frag) (C : Addr) : R2 := fun x y H Q => ∃ (a b : Addr) (xs ys : List Addr) (ws vs : List (List Int)), x = .ref a ∧ y = .ref b ∧ SqT K H a (xs.map V.ref) ∧ SqT K H b (ys.map V.ref) ∧ Wds K C H xs ws ∧ Wds K C H ys vs ∧ Q (.bl (decide (ws = vs))) H
theorem all_same {ws vs : List (List Int)} {n m : Nat} (hn : n = ws.length) (hm : m = vs.length) : (((List.range (min n m)).all fun i => decide (ws.getD i [] = vs.getD i [])) && n == m) = decide (ws = vs) := by
  subst hn hm
  rw [Bool.eq_iff_iff, Bool.and_eq_true, List.all_eq_true, decide_eq_true_eq, beq_iff_eq]
  constructor
  · rintro ⟨h1, h2⟩
    refine List.ext_getElem h2 fun i a b => ?_
    have := of_decide_eq_true (h1 i (List.mem_range.mpr (by omega)))
    rw [List.getD_eq_getElem?_getD, List.getD_eq_getElem?_getD, List.getElem?_eq_getElem a, List.getElem?_eq_getElem b] at this
    exact this
  · rintro rfl
    exact ⟨fun i _ => decide_eq_true rfl, rfl⟩
section
variable {X : Cx} {C : Addr}
theorem op_eqWT (M : EqW X.prog X.w X.K X.mg X.base C) {j : Nat} (hr : Room j X.A) (hj : 2 ≤ j) : OpR X (compareOp .Eq) (rEqWT X.K C) := by
  intro pins s σ H x y u v Q I rx ry d
  obtain ⟨a, b, xs, ys, ws, vs, rfl, rfl, ha, hb, hW, hV, q⟩ := d
  cases rx
  cases ry
  have rm : Room 2 X.A := hr.mono hj
  obtain ⟨its, r, ⟨⟨cls, dd, data, sl⟩, ho, hc, n, hd⟩, _⟩ := I.tuple ha
  obtain ⟨its2, r2, ⟨⟨cls2, dd2, data2, sl2⟩, ho2, hc2, n2, hd2⟩, _⟩ := I.tuple hb
  simp only at hc hd hc2 hd2
  subst hc hd hc2 hd2
  have l1 : its.toArray.size = ws.length := by rw [List.size_toArray, ← r.length, List.length_map, hW.length]
  have l2 : its2.toArray.size = vs.length := by rw [List.size_toArray, ← r2.length, List.length_map, hV.length]
  have sb : Sub X 1 X.A.in1 := ⟨rm.in1, rfl⟩
  show wpAny (model X.prog X.w) X.A (richCompare .Eq (.ref a) (.ref b)) (EP X pins σ Q) X.xe s
  refine wpAny_richCompare_same_room (op := .Eq) ⟨_, ho, rfl⟩ ⟨_, ho2, rfl⟩ PySem.F.slot_tuple_eq (GQ.call_here PySem.F.slot_tuple_eq ⟨_, ho, rfl⟩ PySem.F.entry_tuple_eq (PySem.F.args_tuple_eq_2 _ _) ?_) rm.units0
  refine TE.tup_eq a b its.toArray its2.toArray n n2 dd dd2 sl sl2 (fun i => decide (ws.getD i [] = vs.getD i [])) (fun _ t => Inv X pins σ H t) (fun i h1 h2 t It => ?_) (fun i t It => ?_) ho ho2 I
  · have k1 : i < xs.length := by rw [hW.length]; omega
    have k2 : i < ys.length := by rw [hV.length]; omega
    obtain ⟨w1, hw1, Wa⟩ := hW.at (List.getElem?_eq_getElem k1)
    obtain ⟨w2, hw2, Wb⟩ := hV.at (List.getElem?_eq_getElem k2)
    obtain ⟨u1, hu1, ru1⟩ := r.get (show (xs.map V.ref)[i]? = some (V.ref xs[i]) by rw [List.getElem?_map, List.getElem?_eq_getElem k1]; rfl)
    obtain ⟨u2, hu2, ru2⟩ := r2.get (show (ys.map V.ref)[i]? = some (V.ref ys[i]) by rw [List.getElem?_map, List.getElem?_eq_getElem k2]; rfl)
    cases ru1
    cases ru2
    have e1 : its.toArray[i] = .ref xs[i] := by
      have := (List.getElem?_eq_some_iff.mp hu1).2
      simpa using this
    have e2 : its2.toArray[i] = .ref ys[i] := by
      have := (List.getElem?_eq_some_iff.mp hu2).2
      simpa using this
    rw [e1, e2, List.getD_eq_getElem?_getD, List.getD_eq_getElem?_getD, hw1, hw2]
    exact ebW M sb It Wa Wb
  · have e : TE.ans its.toArray its2.toArray (fun i => decide (ws.getD i [] = vs.getD i [])) = decide (ws = vs) := all_same l1 l2
    rw [e]
    exact ⟨(fun z => nomatch z), .bl _, H, It, rfl, q⟩
end
end W16
set_option Elab.async false
set_option linter.all false
set_option maxRecDepth 100000
set_option maxHeartbeats 1000000
namespace W16
open PySem L2 PySem.Spec PyProof.Rows WR WB
theorem rf_words {tw tl th tn : Addr} {n b : Nat} {sh : Bool} : (rf tw tl n b sh th tn).lookup ("words" : Str) = some (.ref tw) := by
  unfold rf
  exact lk_eq
theorem rf_letters {tw tl th tn : Addr} {n b : Nat} {sh : Bool} : (rf tw tl n b sh th tn).lookup ("letters" : Str) = some (.ref tl) := by
  unfold rf
  rw [lk_ne (show ¬ (("letters" : Str) = "words") by decide +kernel)]
  exact lk_eq
theorem rf_many {tw tl th tn : Addr} {n b : Nat} {sh : Bool} : (rf tw tl n b sh th tn).lookup ("many" : Str) = some (.int (n : Int)) := by
  unfold rf
  rw [lk_ne (show ¬ (("many" : Str) = "words") by decide +kernel), lk_ne (show ¬ (("many" : Str) = "letters") by decide +kernel)]
  exact lk_eq
theorem rf_bands {tw tl th tn : Addr} {n b : Nat} {sh : Bool} : (rf tw tl n b sh th tn).lookup ("bands" : Str) = some (.int (b : Int)) := by
  unfold rf
  rw [lk_ne (show ¬ (("bands" : Str) = "words") by decide +kernel), lk_ne (show ¬ (("bands" : Str) = "letters") by decide +kernel), lk_ne (show ¬ (("bands" : Str) = "many") by decide +kernel)]
  exact lk_eq
theorem rf_homes {tw tl th tn : Addr} {n b : Nat} {sh : Bool} : (rf tw tl n b sh th tn).lookup ("homes" : Str) = some (.ref th) := by
  unfold rf
  rw [lk_ne (show ¬ (("homes" : Str) = "words") by decide +kernel), lk_ne (show ¬ (("homes" : Str) = "letters") by decide +kernel), lk_ne (show ¬ (("homes" : Str) = "many") by decide +kernel), lk_ne (show ¬ (("homes" : Str) = "bands") by decide +kernel), lk_ne (show ¬ (("homes" : Str) = "is_short") by decide +kernel)]
  exact lk_eq
theorem rf_nexts {tw tl th tn : Addr} {n b : Nat} {sh : Bool} : (rf tw tl n b sh th tn).lookup ("nexts" : Str) = some (.ref tn) := by
  unfold rf
  rw [lk_ne (show ¬ (("nexts" : Str) = "words") by decide +kernel), lk_ne (show ¬ (("nexts" : Str) = "letters") by decide +kernel), lk_ne (show ¬ (("nexts" : Str) = "many") by decide +kernel), lk_ne (show ¬ (("nexts" : Str) = "bands") by decide +kernel), lk_ne (show ¬ (("nexts" : Str) = "is_short") by decide +kernel), lk_ne (show ¬ (("nexts" : Str) = "homes") by decide +kernel)]
  exact lk_eq
theorem RimsAt.same {K : PySem.W.Frag} {C CR : Addr} {H H' : Hp} {p : Addr} {xs : List Addr} {ws : List (List Int)} (h : RimsAt K C CR H p xs ws) (s : Same H H') : RimsAt K C CR H' p xs ws := by
  obtain ⟨dx, tw, tl, th, tn, h1, h2, h3, h4, h5, h6⟩ := h
  exact ⟨dx, tw, tl, th, tn, s _ _ h1, SqB.same s h2, h3.same s, SqB.same s h4, SqB.same s h5, SqB.same s h6⟩
theorem RimsAt.tyx {K : PySem.W.Frag} {mg : Str → Option Value} {C CR : Addr} {H : Hp} {p : Addr} {xs : List Addr} {ws : List (List Int)} (h : RimsAt K C CR H p xs ws) (T : TxW K mg C) (TC : TxRC K mg CR) : TyX K H (.ref p) (.ref CR) := by
  obtain ⟨dx, tw, tl, th, tn, h1, _⟩ := h
  exact .base (.ins h1 TC.cl TC.ca T.cn T.ct TC.cm)
/-! ### rims made -/
structure MkR (P : Program) (w : World) (K : PySem.W.Frag) (mg : Str → Option Value) (base : Heap) (C CR : Addr) : Prop where
  ex : ∃ (f : Addr) (fd : FuncData), Mk K CR f ∧ FnOk P w K mg base CX0 4 f fd ["self", "words"] (spInitR K C CR) ∧ Binds K fd ["self", "words"] []
section
variable {X : Cx} {C CR : Addr} {p pos : Pos} {e : Expr} {es : List Expr} {t : TA} {j : Nat}
theorem pe_rims {mg : Str → Option Value} (M : MkR X.prog X.w X.K X.mg X.base C CR) (T : TxRC X.K X.mg CR) (hr : Room j X.A) (hkj : 5 ≤ j) (hg : Gl X "Rims") (ha : PA X (e :: es) t)
    (he : starEach (e :: es) X.env = (false, eval e X.env) :: starEach es X.env := by rfl) (hpl : (backTo pos (starEach es X.env)).any (·.1) = false := by rfl) :
    PE X (.Call (.Name "Rims" p) (e :: es) [] pos) (tMake CR (spInitR X.K C CR) [] E0 t) := by
  obtain ⟨f, fd, M, F, hb⟩ := M.ex
  exact pe_make M F (hr.mono hkj) hg T.mgR hb .nil pass0 ha (by decide) he hpl
end
theorem rims_at {K : PySem.W.Frag} {C CR : Addr} {H1 : Hp} {q x dx : Addr} {xs : List Addr} {ws : List (List Int)} {G : Hp → Prop} {E : XK} (nx : H1 x = none) (ndx : H1 dx = none) (hq : SqL K H1 q (xs.map V.ref)) (hW : Wds K C H1 xs ws) (ok : RimOk ws) (k : ∀ H', Same H1 H' → RimsAt K C CR H' x xs ws → G H') :
    spInitR K C CR [.ref x, .ref q] (L2.upd (L2.upd H1 dx (.own x)) x (.ins CR dx [])) (fun v H2 => v = .non ∧ G H2) E := by
  have s0 : Same H1 (L2.upd (L2.upd H1 dx (.own x)) x (.ins CR dx [])) := fun b o e => by
    rw [upd_ne (ne_of_none e nx), upd_ne (ne_of_none e ndx)]
    exact e
  exact ⟨H1, x, dx, q, xs, ws, rfl, s0, nx, upd_same, hq, hW, ok, fun H' s' W' => ⟨rfl, k H' s' W'⟩⟩
/-! ### rims held against one another, and their places -/
abbrev sEqR : Stmt := inClass (top 54) 1
abbrev sNextR : Stmt := inClass (top 54) 3
abbrev sNeedPl : Stmt := top 52
def spEqR (K : PySem.W.Frag) (C CR : Addr) : Sp := fun vs H Q _ => ∃ (p q : Addr) (xs ys : List Addr) (ws us : List (List Int)), vs = [.ref p, .ref q] ∧ RimsAt K C CR H p xs ws ∧ RimsAt K C CR H q ys us ∧ Q (.bl (decide (ws = us))) H
def spNeedPl (K : PySem.W.Frag) (C CR : Addr) : Sp := fun vs H Q _ => ∃ (p : Addr) (i : Int) (xs : List Addr) (ws : List (List Int)), vs = [.ref p, .int i] ∧ RimsAt K C CR H p xs ws ∧ 0 ≤ i ∧ i < ws.flatten.length ∧ Q .non H
def spNextR (K : PySem.W.Frag) (C CR : Addr) (g : List (List Int) → List Int) : Sp := fun vs H Q _ => ∃ (p : Addr) (i : Nat) (xs : List Addr) (ws : List (List Int)), vs = [.ref p, .int (i : Int)] ∧ RimsAt K C CR H p xs ws ∧ i < ws.flatten.length ∧ ∀ z, (g ws)[i]? = some z → Q (.int z) H
theorem hmF_len : ∀ (ws : List (List Int)) (f : Nat), (hmF f ws).length = ws.flatten.length
  | [], _ => rfl
  | w :: r, f => by
    unfold hmF
    rw [List.length_append, hmF_len r, List.flatten_cons, List.length_append, List.length_replicate]
section
variable {P : Program} {w : World} {K : PySem.W.Frag} {mg : Str → Option Value} {base : Heap} {C CR : Addr}
theorem scEqR : FnScope ["self", "other"] ["self", "other"] (defScope sEqR) := ⟨rfl, rfl, rfl, by decide +kernel, rfl, by decide +kernel, by decide +kernel⟩
theorem ok_eqR {f : Addr} {fd : FuncData} (F : Fun K "__eq__" "Rims.__eq__" sEqR f fd) (T : TxW K mg C) (TC : TxRC K mg CR) (M : EqW P w K mg base C) : FnOk P w K mg base CX0 3 f fd ["self", "other"] (spEqR K C CR) := by
  refine F.ok scEqR (fun vs H Q E h => ?_) (fun cdv A outer s H vs Q E hr h => ?_)
  · obtain ⟨p, q, xs, ys, ws, us, rfl, _⟩ := h
    rfl
  · obtain ⟨p, q, xs, ys, ws, us, rfl, R1, R2, k⟩ := h
    refine ⟨_, pss_one (ps_ret (pe_and (pe_callB call_isi (by rfl) T.isin (by decide +kernel) (pa_cons (pv 1) (pa_cons (pe_glob (v := .ref CR) (by rfl) TC.mgR rfl) pa_nil)))
      (pe_one (pe_cmpR (op_eqWT M hr (by decide)) (pe_fld (pv 0) rfl) (pe_fld (pv 1) rfl) (nomark _))))), ?_⟩
    refine ⟨_, rfl, _, _, _, _, _, rfl, .own CR, R2.tyx T TC, kit_self CR, _, rfl, ?_⟩
    refine iteT ?_
    obtain ⟨dx, tw, tl, th, tn, h1, h2, h3, _⟩ := R1
    obtain ⟨dy, uw, ul, uh, un, g1, g2, g3, _⟩ := R2
    exact ⟨_, rfl, p, CR, dx, _, _, rfl, h1, TC.cl, TC.n1, rf_words, _, rfl, q, CR, dy, _, _, rfl, g1, TC.cl, TC.n1, rf_words, tw, uw, xs, ys, ws, us, rfl, rfl, h2.sq, g2.sq, h3, g3, k⟩
theorem scNeedPl : FnScope ["rims", "value"] ["rims", "value"] (defScope sNeedPl) := ⟨rfl, rfl, rfl, by decide +kernel, rfl, by decide +kernel, by decide +kernel⟩
theorem scNextR : FnScope ["self", "place"] ["self", "place"] (defScope sNextR) := ⟨rfl, rfl, rfl, by decide +kernel, rfl, by decide +kernel, by decide +kernel⟩
theorem ok_needPl {f : Addr} {fd : FuncData} (F : Fun K "need_place" "need_place" sNeedPl f fd) (TC : TxRC K mg CR) (GW : Cal P w K mg base "is_within" 2 ["value", "least", "most"] spWithin) : FnOk P w K mg base CX0 3 f fd ["rims", "value"] (spNeedPl K C CR) := by
  refine F.ok scNeedPl (fun vs H Q E h => ?_) (fun cdv A outer s H vs Q E hr h => ?_)
  · obtain ⟨p, i, xs, ws, rfl, _⟩ := h
    rfl
  · obtain ⟨p, i, xs, ws, rfl, R1, i0, i1, k⟩ := h
    refine ⟨_, pss_one (ps_if (pt_not (pt_val (pe_cal GW hr (by decide) (by rfl) (pa_cons (pv 1) (pa_cons pe_int (pa_cons (pe_op op_sub (pe_fld (pv 0) rfl) pe_int) pa_nil)))))) (pss_one ps_never) pss_nil), ?_⟩
    obtain ⟨dx, tw, tl, th, tn, h1, _⟩ := R1
    refine ⟨_, rfl, _, rfl, p, CR, dx, _, _, rfl, h1, TC.cl, TC.n3, rf_many, _, _, rfl, rfl, ?_⟩
    refine ⟨.int i, .int 0, .int ((ws.flatten.length : Int) - 1), "int", rfl, .int i, .inr ⟨_, rfl⟩, .inr ⟨_, rfl⟩, _, rfl, ?_⟩
    refine no_ne ?_ k
    show (decide ((0 : Int) ≤ i) && decide (i ≤ (ws.flatten.length : Int) - 1)) = true
    rw [decide_eq_true i0, decide_eq_true (show i ≤ (ws.flatten.length : Int) - 1 by omega)]
    rfl
theorem ok_nextR {f : Addr} {fd : FuncData} (F : Fun K "next" "Rims.next" sNextR f fd) (TC : TxRC K mg CR) (GP : Cal P w K mg base "need_place" 3 ["rims", "value"] (spNeedPl K C CR)) : FnOk P w K mg base CX0 4 f fd ["self", "place"] (spNextR K C CR (nxF 0)) := by
  refine F.ok scNextR (fun vs H Q E h => ?_) (fun cdv A outer s H vs Q E hr h => ?_)
  · obtain ⟨p, i, xs, ws, rfl, _⟩ := h
    rfl
  · obtain ⟨p, i, xs, ws, rfl, R1, i1, k⟩ := h
    refine ⟨_, pss_cons (ps_expr (pe_cal GP hr (by decide) (by rfl) (pa_cons (pv 0) (pa_cons (pv 1) pa_nil))))
      (pss_one (ps_ret (pe_ix ix_tup (pe_fld (pv 0) rfl) (pv 1) (fun _ _ => rfl)))), ?_⟩
    refine ⟨_, rfl, _, rfl, p, _, xs, ws, rfl, R1, by omega, by omega, ?_⟩
    obtain ⟨dx, tw, tl, th, tn, h1, _, _, _, _, h6⟩ := R1
    have lt : i < (nxF 0 ws).length := by rw [nxF_len]; exact i1
    exact ⟨_, rfl, p, CR, dx, _, _, rfl, h1, TC.cl, TC.n7, rf_nexts, _, rfl, tn, _, _, _, rfl, rfl, h6.sq, atI_nat (iv_get (List.getElem?_eq_getElem lt)), k _ (List.getElem?_eq_getElem lt)⟩
end
end W16
set_option Elab.async false
set_option linter.all false
set_option maxRecDepth 100000
set_option maxHeartbeats 1000000
namespace W16
open PySem L2 PySem.Spec PyProof.Rows WR WB
/-! ### rims == rims, rims != rims -/
structure EqR (P : Program) (w : World) (K : PySem.W.Frag) (mg : Str → Option Value) (base : Heap) (C CR : Addr) : Prop where
  ex : ∃ (f : Addr) (fd : FuncData), FnOk P w K mg base CX0 3 f fd ["self", "other"] (spEqR K C CR) ∧ PySem.W.findIn K (.ref CR) "__eq__" = some (some (.ref f)) ∧ PySem.W.isFn K (.ref f) = true ∧ Binds K fd ["self", "other"] []
def rEqR (K : PySem.W.Frag) (C CR : Addr) : R2 := fun x y H Q => ∃ (p q : Addr) (xs ys : List Addr) (ws us : List (List Int)), x = .ref p ∧ y = .ref q ∧ RimsAt K C CR H p xs ws ∧ RimsAt K C CR H q ys us ∧ Q (.bl (decide (ws = us))) H
section
variable {X : Cx} {C CR : Addr} {pins : List (Addr × Obj)} {σ : L2.St} {H : Hp} {s : Shared}
theorem callEqR (M : EqR X.prog X.w X.K X.mg X.base C CR) {A : Around} (sb : Sub X 3 A) (I : Inv X pins σ H s) {a b : Addr} {xs ys : List Addr} {ws us : List (List Int)} (R1 : RimsAt X.K C CR H a xs ws) (R2 : RimsAt X.K C CR H b ys us) :
    ∃ f : Addr, PySem.W.findIn X.K (.ref CR) "__eq__" = some (some (.ref f)) ∧ PySem.W.isFn X.K (.ref f) = true ∧ wpAny (model X.prog X.w) A (call (.ref f) [.ref a, .ref b]) (fun r s' => r = .bool (decide (ws = us)) ∧ Inv X pins σ H s') X.xe s := by
  obtain ⟨f, fd, F, hs, hf, hb⟩ := M.ex
  refine ⟨f, hs, hf, ?_⟩
  have hsp : spEqR X.K C CR [.ref a, .ref b] H (fun v H' => v = .bl (decide (ws = us)) ∧ H' = H) E0 := ⟨a, b, xs, ys, ws, us, rfl, R1, R2, rfl, rfl⟩
  have e0 : Env0 X.prog X.w X.K X.mg X.base A X.stack s H := by
    have e := I.env0
    exact ⟨by rw [sb.fr]; exact e.frames, e.mod, e.bs, e.bsz, e.funs, e.frf, e.hok, e.bare⟩
  have hl := F.len _ _ _ _ hsp
  have r2 : Vals [V.ref a, V.ref b] [Value.ref a, Value.ref b] := .cons rfl (.cons rfl .nil)
  refine wpAny_call (codeAny_mono (F.run A X.stack s H ⟨[.ref a, .ref b], []⟩ [.ref a, .ref b] [.ref a, .ref b] _ E0 sb.room e0 (by
    have := hb s [.ref a, .ref b] I.kIn (by simpa using hl)
    simpa using this) r2 hsp) fun r s' hq => ?_)
  cases r with
  | error e => exact pass0 pins σ H s e s' I hq
  | ok fl =>
    cases fl with
    | ret w =>
      obtain ⟨z, H', I', rz, ez, eH⟩ := I.after hq
      subst ez eH
      cases rz
      exact ⟨rfl, I'⟩
    | next => exact False.elim hq
    | brk => exact False.elim hq
    | cont => exact False.elim hq
theorem op_eqR (M : EqR X.prog X.w X.K X.mg X.base C CR) {j : Nat} (hr : Room j X.A) (hj : 3 ≤ j) : OpR X (compareOp .Eq) (rEqR X.K C CR) := by
  intro pins s σ H x y u v Q I rx ry d
  obtain ⟨a, b, xs, ys, ws, us, rfl, rfl, R1, R2, hq⟩ := d
  cases rx
  cases ry
  obtain ⟨dx, tw, tl, th, tn, ha, _⟩ := id R1
  obtain ⟨dy, uw, ul, uh, un, hb', _⟩ := id R2
  obtain ⟨mA, J, _⟩ := ins_get I.hok ha
  obtain ⟨mB, J', _⟩ := ins_get I.hok hb'
  obtain ⟨od, J, _⟩ := J.look
  obtain ⟨od', J', _⟩ := J'.look
  obtain ⟨m, hF⟩ := I.fr
  have rm : Room 3 X.A := hr.mono hj
  obtain ⟨f, hs, hf, hc⟩ := callEqR M ⟨rm, rfl⟩ I R1 R2
  show wpAny (model X.prog X.w) X.A (richCompare .Eq (.ref a) (.ref b)) (EP X pins σ Q) X.xe s
  refine PySem.W.cmp_K (op := .Eq) (tb := .ref CR) rm.units0 hF I.ok.mod.kin J J'.type (by simp [PySem.W.notFirst]) hs hf (wpAny_mono hc (fun r s' q => ?_) fun _ _ z => z)
  obtain ⟨rfl, I'⟩ := q
  exact ⟨.bl _, H, I', rfl, hq⟩
end
end W16
set_option Elab.async false
set_option linter.all false
set_option maxRecDepth 100000
set_option maxHeartbeats 1000000
namespace W16
open PySem L2 PySem.Spec PyProof.Rows WR WB
/-! ### str of rims -/
theorem Lts.word {ws : List (List Int)} (h : Lts ws.flatten) {w : List Int} (hw : w ∈ ws) : Lts w := fun x hx => h x (List.mem_flatten.mpr ⟨w, hw, hx⟩)
theorem word_le {ws : List (List Int)} {w : List Int} (hw : w ∈ ws) : w.length ≤ ws.flatten.length := by
  obtain ⟨i, hi, e⟩ := List.mem_iff_getElem.mp hw
  have := flat_take (ws := ws) (i := i) (w := w) (by rw [List.getElem?_eq_getElem hi, e])
  omega
end W16
set_option Elab.async false
set_option linter.all false
set_option maxRecDepth 100000
set_option maxHeartbeats 2000000
/-! enumerate(a tuple), and enumerate of what is a list or a tuple -/
namespace WE
open PySem PySem.W PySem.Spec PyProof.Rows L2
abbrev enObj (j : Addr) : Obj := { cls := .type "enumerate", data := .fields #[.none, .bool false, .ref j, rawInt 0, .none, .none] }
set_option maxHeartbeats 4000000 in
theorem enum_new {v : Value} {o : Obj} {G : Heap → Prop} (B : Begins v o G) :
    Meets (Builtin.«enumerate.__new__» ⟨[.type "enumerate", v], []⟩) (fun _ R t => G t.heap ∧ R (.ok (.ret (.ref (t.heap.push o).objs.size))) { t with heap := (t.heap.push o).push (enObj t.heap.objs.size) }) :=
  .of_wp fun P0 w0 A0 R t k => by
    obtain ⟨hp, gl, dr, tk, os⟩ := t
    obtain ⟨g, k⟩ := k
    have subE := sub_enumerate
    have goes : ∀ {A1 : Around} {E1 : Value → Shared → Prop} {Q1 : Value → Shared → Prop}, Q1 (.ref hp.objs.size) ⟨hp.push o, gl, dr, tk, os⟩ → wpAny (model P0 w0) A1 (pyIter v) Q1 E1 ⟨hp, gl, dr, tk, os⟩ := fun q => B.iter P0 w0 _ _ ⟨hp, gl, dr, tk, os⟩ _ g q
    wp_walk using goes
    refine wpAny_stack_any fun st => wpAny_pure ?_
    split
    · rename_i c _ _ _ _ _
      cases (c == Value.type "enumerate") <;> (wp_walk using goes; exact ⟨_, rfl, k⟩)
    · wp_walk using goes
      exact ⟨_, rfl, k⟩
section
variable {prog : Program} {w : World} {A : Around} {E : Value → Shared → Prop} {s : Shared}
theorem call_enum {v : Value} {o : Obj} {G : Heap → Prop} {Q : Value → Shared → Prop} (B : Begins v o G) (g : G s.heap)
    (k : (s.heap.push o).objs.size = s.heap.objs.size + 1 → IsEnum ((s.heap.push o).push (enObj s.heap.objs.size)) (s.heap.objs.size + 1) s.heap.objs.size 0 .none → Q (.ref (s.heap.objs.size + 1)) { s with heap := (s.heap.push o).push (enObj s.heap.objs.size) }) :
    wpAny (model prog w) A (call (.type "enumerate") [v]) Q E s := by
  refine callType_new F.called_enumerate (by decide) (F.typeCall_enumerate_1 _) (F.newCall_enumerate_1 _) (fun z => F.args_object_init_2 z _) F.entry_enumerate_new (enum_new B) ⟨g, ?_⟩
  have sz : (s.heap.push o).objs.size = s.heap.objs.size + 1 := Heap.size_push ..
  have en : IsEnum ((s.heap.push o).push (enObj s.heap.objs.size)) (s.heap.objs.size + 1) s.heap.objs.size 0 .none := by
    have at_ := Heap.get?_push_size (s.heap.push o) (o := enObj s.heap.objs.size) rfl
    rw [sz] at at_
    exact at_
  show _ ∧ _
  rw [sz]
  exact ⟨⟨_, en, rfl⟩, k sz en⟩
theorem enum_end {e j t : Addr} {i : Nat} {its : Array Value} {old : Value} {Q : Option Value → Shared → Prop} (quiet : A.handled = none) (en : IsEnum s.heap e j i old) (at_ : s.heap.IsTupleIter j t i) (tp : s.heap.IsTuple t its) (no : its[i]? = none)
    (k : ∀ h', Heap.ExtBut j s.heap h' → Q none { s with heap := h' }) : wpAny (model prog w) A (pyNext (.ref e)) Q E s := by
  have ty : s.TypeIs (.ref e) "enumerate" := ⟨_, en, rfl⟩
  unfold pyNext
  refine wpAny_bind (wpAny_attempt (wpAny_callSpecial?_slot (name := Str.ofString "__next__") ty F.slot_enumerate_next (wpAny_call_entry F.slot_enumerate_next ty F.entry_enumerate_next ?_ (F.args_enumerate_next_1 _))))
  show wpAny _ _ (field (.ref e) 2 >>= _) _ _ _
  refine wpAny_bind (wpAny_field en rfl (x := .ref j) rfl (wpAny_bind (wpAny_nextOf_tuple_end quiet at_ tp no fun h' x ext ⟨o, ho, hc⟩ => ?_)))
  exact wpAny_bind (wpAny_isInstance (T := "StopIteration") (b := true) ⟨o, ho, hc⟩ isSubtype_stop (wpAny_pure (k _ ext)))
end
/-- the tuple at a, each item in a new pair -/
def IteT (K : PySem.W.Frag) (a : Addr) : It :=
  ⟨fun i H => ∃ (xs : List V) (x : V), SqT K H a xs ∧ xs[i]? = some x, fun i H v H' => ∃ T x, v = .ref T ∧ H T = none ∧ H' = upd H T (.tup [.int (i : Nat), x]) ∧ ∀ xs, SqT K H a xs → xs[i]? = some x, fun i H => ∃ xs : List V, SqT K H a xs ∧ xs.length ≤ i⟩
theorem apart {h : Heap} {a b : Addr} {x y : String} (h1 : ∃ o, h.get? a = some o ∧ o.cls = .type x) (h2 : ∃ o, h.get? b = some o ∧ o.cls = .type y) (n : x ≠ y) : a ≠ b := by
  rintro rfl
  obtain ⟨o1, e1, c1⟩ := h1
  obtain ⟨o2, e2, c2⟩ := h2
  rw [e1] at e2
  cases e2
  rw [c1] at c2
  injection c2 with c3
  exact n c3
theorem turn_enumT {P : Program} {w : World} {K : PySem.W.Frag} {elts : List Expr} {kk : Nat} {tpos : Pos} (a e j : Addr) :
    Turn P w K (.Tuple elts kk tpos) (IteT K a) [e, j] e (fun i h => (∃ o, IsEnum h e j ((i : Nat) : Int) o) ∧ h.IsTupleIter j a i ∧ e ≠ j) where
  mem := by simp
  obj := fun i h ⟨⟨o1, h1⟩, ⟨o2, h2, c2, d2⟩, _⟩ b hb => by
    rcases List.mem_cons.mp hb with z | z
    · subst z
      exact ⟨_, h1, fun _ q => nomatch q⟩
    · rw [List.mem_singleton.mp z]
      exact ⟨o2, h2, fun _ q => by rw [d2] at q; cases q⟩
  keep := fun i h h' st k => ⟨st.1.imp fun _ z => k e (by simp) _ z, st.2.1.at fun o z => k j (by simp) o z, st.2.2⟩
  item := by
    intro X eP eW eK calm i pins s σ H E I fps st go
    subst eP eW eK
    obtain ⟨⟨o1, h1⟩, h2, ej⟩ := st
    obtain ⟨xs, x, sq, hx⟩ := go
    obtain ⟨its, rv, tp, _⟩ := I.tuple sq
    obtain ⟨u, hu, ru⟩ := rv.get hx
    have in_e : e < s.heap.objs.size := Heap.lt_size h1
    have in_j : j < s.heap.objs.size := by
      obtain ⟨_, q, _⟩ := id h2
      exact Heap.lt_size q
    have ta : ∃ o, s.heap.get? a = some o ∧ o.cls = .type "tuple" := by
      obtain ⟨o, z1, z2, _⟩ := id tp
      exact ⟨o, z1, z2⟩
    have tj : ∃ o, s.heap.get? j = some o ∧ o.cls = .type "tuple_iterator" := by
      obtain ⟨o, z1, z2, _⟩ := id h2
      exact ⟨o, z1, z2⟩
    have aj := apart ta tj (by decide)
    have ea : e ≠ a := apart ⟨_, h1, rfl⟩ ta (by decide)
    have lt : i < its.toArray.size := by
      rw [List.size_toArray]
      exact (List.getElem?_eq_some_iff.mp hu).1
    refine wpAny_pyNext_enum_itemD (Draws.tuple (A := X.A.in1) (I.ok.hd calm) j a aj its.toArray) h1 ⟨h2, tp⟩ lt ej (by simp [ej, ea]) fun y h3 tk hy out at3 new sz kp => ?_
    obtain rfl : u = y := by
      rw [List.getElem?_toArray, hu] at hy
      exact Option.some.inj hy
    refine ⟨_, rfl, wpAny_letOwnedTupleGo_enum (s := { s with heap := h3, toks := tk + 1 }) out fun h4 en4 sb => ?_⟩
    have new4 : h4.get? s.heap.objs.size = some { cls := .type "tuple", data := .seq #[.int i tk, u] } := (sb.2 _ (Nat.ne_of_gt in_e)).trans new
    have ok4 : ObjOk X.prog X.w (upd H s.heap.objs.size (.tup [.int (i : Nat), x])) h4 s.heap.objs.size (.tup [.int (i : Nat), x]) :=
      ⟨Nat.le_trans (by show 2 ≤ 16; decide) (by decide), [.int i tk, u], .cons ⟨_, rfl⟩ (.cons ru .nil), ⟨_, new4, rfl, _, rfl⟩⟩
    have I4 : Inv X pins σ (upd H s.heap.objs.size (.tup [.int (i : Nat), x])) { s with heap := h4, toks := tk + 1 } :=
      I.turnedNew (ch := [e, j]) (fun b ob hb q => (sb.2 b fun z => hb (by simp [z])).trans (kp b ob (fun z => hb (by simp [z])) (fun z => hb (by simp [z])) q)) fps (Nat.le_refl _) ok4
    refine ⟨.ref s.heap.objs.size, _, I4, rfl, ⟨_, x, rfl, I.hok.fresh (Nat.le_refl _), rfl, fun ys hy => ?_⟩, ⟨⟨u, ?_⟩, at3.1.at fun o q => (sb.2 j ej.symm).trans q, ej⟩, fun b hb => ?_⟩
    · rw [I.tuple_inj hy sq]
      exact hx
    · rw [show ((i + 1 : Nat) : Int) = (i : Int) + 1 by omega]
      exact en4
    · have lb : b < s.heap.objs.size := by
        rcases List.mem_cons.mp hb with z | z
        · rw [z]; exact in_e
        · rw [List.mem_singleton.mp z]; exact in_j
      rw [upd_ne (Nat.ne_of_lt lb)]
      exact (fps b hb).1
  done := by
    intro X eP eW eK calm i pins s σ H E I fps st go
    subst eP eW eK
    obtain ⟨⟨o1, h1⟩, h2, ej⟩ := st
    obtain ⟨xs, sq, le⟩ := go
    obtain ⟨its, rv, tp, _⟩ := I.tuple sq
    have ll := rv.length
    obtain ⟨f0, f1, f2, f3, f4, f5⟩ := fps j (by simp)
    exact enum_end (I.ok.hd calm) h1 h2 tp (by rw [List.getElem?_toArray]; exact List.getElem?_eq_none (by omega)) fun h' eb => ⟨rfl, I.turned (t' := s.toks) (fun b o hb q => eb b o hb q) f0 f1 f3 f4 f5⟩
  self := fun A i s Q E st h => let ⟨⟨_, he⟩, _⟩ := st; wpAny_pyIter_enum he h
/-- what is a list or a tuple, by any walk that goes through it -/
def iEnumA (K : PySem.W.Frag) (ta : TA) : TI := fun σ H R => ta σ H fun vs H1 => ∃ a xs, vs = [.ref a] ∧ (SqL K H1 a xs ∨ SqT K H1 a xs) ∧ ∀ J G, Walk J xs.length G (YPair (fun i => some (.int (i : Nat))) (fun i => xs[i]?)) → (∀ H, Same H1 H → G H) → R J H1
theorem walk_enumT {K : PySem.W.Frag} {a : Addr} {xs : List V} : Walk (IteT K a) xs.length (fun H => SqT K H a xs) (YPair (fun i => some (.int (i : Nat))) (fun i => xs[i]?)) := by
  refine ⟨fun i _ lt q => ⟨xs, xs[i], q, List.getElem?_eq_getElem lt⟩, fun _ q => ⟨xs, q, Nat.le_refl _⟩, fun i H v H' _ q y => ?_⟩
  obtain ⟨T, x, h1, h2, h3, h4⟩ := y
  exact ⟨T, .int (i : Nat), x, h1, h2, h3, rfl, h4 xs q⟩
theorem seqL {K : PySem.W.Frag} {H H' : Hp} {a : Addr} {xs : List V} (s : Same H H') (h : SqL K H a xs) : SqL K H' a xs := s.seq h
theorem seqT {K : PySem.W.Frag} {H H' : Hp} {a : Addr} {xs : List V} (s : Same H H') (h : SqT K H a xs) : SqT K H' a xs := WR.Same.seqT s h
theorem pi_enumA {X : Cx} {K : PySem.W.Frag} {e : Expr} {ta : TA} {p pos tpos : Pos} {elts : List Expr} {kk : Nat} (hK : X.K = K) (hg : Gl X "enumerate") (hm : X.mg "enumerate" = none) (ha : PA X [e] ta) (one : starEach [e] X.env = [(false, eval e X.env)] := by rfl) :
    PI X (.Tuple elts kk tpos) (.Call (.Name "enumerate" p) [e] [] pos) (iEnumA K ta) := by
  subst hK
  refine ⟨fun pins s σ H R I h => ?_⟩
  refine Call_ (ld_blt I hg hm boot_enumerate (PyProof.Rows.callWith_type1 (thn (ha.run pos pins s σ H _ I h) fun us s1 ⟨vs, H1, I1, rv, q1⟩ => ?_) one rfl))
  obtain ⟨a, xs, ex, sq, k⟩ := q1
  subst ex
  obtain ⟨u, rfl, ru⟩ := vals1 rv
  cases ru
  have free : ∀ b ∈ [s1.heap.objs.size + 1, s1.heap.objs.size], FpOk X pins H1 b := fun b hb => by
    have ge : s1.heap.objs.size ≤ b := by
      rcases List.mem_cons.mp hb with z | z
      · rw [z]; exact Nat.le_succ _
      · rw [List.mem_singleton.mp z]; exact Nat.le_refl _
    exact I1.fpOk ge (I1.hok.fresh ge)
  rcases sq with sq | sq
  · obtain ⟨its, rw_, pl, _⟩ := I1.list sq
    refine call_enumerate_list pl.isList fun h2 en at_ _ kp => wpAny_pyIter_enum en ?_
    exact ⟨s1.heap.objs.size + 1, [s1.heap.objs.size + 1, s1.heap.objs.size], _, _, H1, rfl, I1.kept (t' := s1.toks) kp, turn_enum a (s1.heap.objs.size + 1) s1.heap.objs.size, ⟨⟨.none, en⟩, at_, Nat.succ_ne_self _⟩, free, k _ _ walk_enum fun _ z => seqL z sq⟩
  · obtain ⟨its, rw_, tp, _⟩ := I1.tuple sq
    refine call_enum (begins_tuple a its.toArray) tp fun sz en => wpAny_pyIter_enum en ?_
    have kp : ∀ b o, s1.heap.get? b = some o → ((s1.heap.push { cls := .type "tuple_iterator", data := .fields #[.ref a, .int 0 0] }).push (enObj s1.heap.objs.size)).get? b = some o := fun b o z => Heap.get?_push_of_some _ (Heap.get?_push_of_some _ z)
    exact ⟨s1.heap.objs.size + 1, [s1.heap.objs.size + 1, s1.heap.objs.size], _, _, H1, rfl, I1.kept (t' := s1.toks) kp, turn_enumT a (s1.heap.objs.size + 1) s1.heap.objs.size, ⟨⟨.none, en⟩, ⟨_, Heap.get?_push_of_some _ (Heap.get?_push_size _ rfl), rfl, rfl⟩, Nat.succ_ne_self _⟩, free, k _ _ walk_enumT fun _ z => seqT z sq⟩
/-- a walk through what is a list or a tuple -/
def iSeqA (K : PySem.W.Frag) (te : TE) : TI := fun σ H R => te σ H fun x H1 => ∃ a xs, x = .ref a ∧ (SqL K H1 a xs ∨ SqT K H1 a xs) ∧ ∀ J G, Walk J xs.length G (YAt xs) → (∀ H, Same H1 H → G H) → R J H1
theorem pi_seqA {X : Cx} {K : PySem.W.Frag} {tg e : Expr} {te : TE} (hK : X.K = K) (he : PE X e te) : PI X tg e (iSeqA K te) := by
  subst hK
  refine ⟨fun pins s σ H R I h => ?_⟩
  refine thn (he.run pins s σ H _ I h) fun v s1 ⟨x, H1, I1, rx, q1⟩ => ?_
  obtain ⟨a, xs, ex, sq, k⟩ := q1
  subst ex
  cases rx
  have free : ∀ b ∈ [s1.heap.objs.size], FpOk X pins H1 b := fun b hb => by
    rw [List.mem_singleton.mp hb]
    exact I1.fpOk (Nat.le_refl _) (I1.hok.fresh (Nat.le_refl _))
  rcases sq with sq | sq
  · obtain ⟨its, _, pl, _⟩ := I1.list sq
    exact wpAny_pyIter_list pl.isList ⟨s1.heap.objs.size, [s1.heap.objs.size], _, _, H1, rfl, I1.kept (t' := s1.toks) fun b o e => Heap.get?_push_of_some _ e, turn_list a _, ⟨_, Heap.get?_push_size _ rfl, rfl, rfl⟩, free, k _ _ walk_list fun _ z => seqL z sq⟩
  · obtain ⟨its, _, pl, _⟩ := I1.tuple sq
    exact wpAny_pyIter_tuple (show s1.heap.IsTuple a its.toArray from pl) ⟨s1.heap.objs.size, [s1.heap.objs.size], _, _, H1, rfl, I1.kept (t' := s1.toks) fun b o e => Heap.get?_push_of_some _ e, turn_tuple a _, ⟨_, Heap.get?_push_size _ rfl, rfl, rfl⟩, free, k _ _ walk_tup fun _ z => seqT z sq⟩
/-- an item of what is a list or a tuple -/
def rIxA (K : PySem.W.Frag) : R2 := fun x y H Q => ∃ p xs i v, x = .ref p ∧ y = .int i ∧ (SqL K H p xs ∨ SqT K H p xs) ∧ atI xs i = some v ∧ Q v H
theorem ixA {X : Cx} {K : PySem.W.Frag} (hK : X.K = K) : IxR X (rIxA K) := by
  subst hK
  intro value slice pins s σ H x y v u Q I rx ry ⟨p, xs, i, w, e1, e2, sq, at_, q⟩ hs
  rcases sq with sq | sq
  · exact ix_list value slice pins s σ H x y v u Q I rx ry ⟨p, xs, i, w, e1, e2, sq, at_, q⟩ hs
  · exact ix_tup value slice pins s σ H x y v u Q I rx ry ⟨p, xs, i, w, e1, e2, sq, at_, q⟩ hs
end WE
set_option Elab.async false
set_option linter.all false
set_option maxRecDepth 100000
set_option maxHeartbeats 1000000
namespace W16
open PySem L2 PySem.Spec PyProof.Rows WR WB WE
/-! ### the corners of a sewing -/
/-- the place behind the mate of a place -/
def nxt (nx mt : List Int) (p : Nat) : Nat := (nx.getD (mt.getD p 0).toNat 0).toNat
/-- on from place to place until one was seen: all that were seen, and those of this corner -/
def orb (nx mt : List Int) : Nat → List Nat → Nat → List Nat → List Nat × List Nat
  | 0, s, _, c => (s, c)
  | k + 1, s, p, c => if p ∈ s then (s, c) else orb nx mt k (p :: s) (nxt nx mt p) (c ++ [p])
def crn (nx mt : List Int) (n : Nat) : Nat → List Nat × List (List Nat)
  | 0 => ([], [])
  | i + 1 => ((orb nx mt (n + 1) (crn nx mt n i).1 i []).1, if (orb nx mt (n + 1) (crn nx mt n i).1 i []).2 = [] then (crn nx mt n i).2 else (crn nx mt n i).2 ++ [(orb nx mt (n + 1) (crn nx mt n i).1 i []).2])
def nats (c : List Nat) : List Int := c.map fun (x : Nat) => (x : Int)
def SeenAt (w : World) (H : Hp) (a : Addr) (s : List Nat) : Prop := ∃ f : Int → Bool, H a = some (SetO w a f s.length) ∧ ∀ j, f j = true ↔ j ∈ nats s
/-- seen places: each once, none too great -/
def SeenOk (n : Nat) (s : List Nat) : Prop := s.Nodup ∧ ∀ x ∈ s, x < n
theorem SeenOk.lt {n : Nat} {s : List Nat} (h : SeenOk n s) {p : Nat} (hp : p < n) (hn : p ∉ s) : s.length < n := by
  have := L2.nat_nodup_len (p :: s) (List.range n) (List.nodup_cons.mpr ⟨hn, h.1⟩) fun x hx => by
    rcases List.mem_cons.mp hx with rfl | hx
    · exact List.mem_range.mpr hp
    · exact List.mem_range.mpr (h.2 x hx)
  rw [List.length_range, List.length_cons] at this
  omega
theorem nxF_rng : ∀ (ws : List (List Int)) (f : Nat), (∀ w ∈ ws, w ≠ []) → ∀ z ∈ nxF f ws, 0 ≤ z ∧ z < ((f + ws.flatten.length : Nat) : Int)
  | [], _, _, z, hz => nomatch hz
  | w :: r, f, hne, z, hz => by
    unfold nxF at hz
    rw [List.flatten_cons, List.length_append]
    rcases List.mem_append.mp hz with hz | hz
    · obtain ⟨t, ht, rfl⟩ := List.mem_map.mp hz
      have hl : 0 < w.length := List.length_pos_iff.mpr (hne w List.mem_cons_self)
      have := Nat.mod_lt (t + 1) hl
      omega
    · have := nxF_rng r (f + w.length) (fun u hu => hne u (List.mem_cons_of_mem _ hu)) z hz
      omega
def CornAt (K : PySem.W.Frag) (H : Hp) (a : Addr) (cs : List (List Nat)) : Prop := ∃ vs, SqB K H a vs ∧ All2 (fun v c => ∃ q, v = V.ref q ∧ SqB K H q (iv (nats c))) vs cs
abbrev sCorn : Stmt := top 60
abbrev nCorn : List Str := ["rims", "mates", "corners", "seen", "start", "corner", "place"]
def MatesOk (n : Nat) (mt : List Int) : Prop := mt.length = n ∧ ∀ z ∈ mt, 0 ≤ z ∧ z < (n : Int)
def spCorn (K : PySem.W.Frag) (C CR : Addr) : Sp := fun vs H Q _ => ∃ (p m : Addr) (xs : List Addr) (ws : List (List Int)) (mt : List Int), vs = [.ref p, .ref m] ∧ RimsAt K C CR H p xs ws ∧ RimOk ws ∧ SqE K H m (iv mt) ∧ MatesOk ws.flatten.length mt ∧
  ∀ q H', Same H H' → CornAt K H' q (crn (nxF 0 ws) mt ws.flatten.length ws.flatten.length).2 → Q (.ref q) H'
theorem SqB.keptL {K : PySem.W.Frag} {H H' : Hp} {l q : Addr} {vs xs : List V} (hl : H l = some (.lst vs)) (d : Kept l H H') (h : SqB K H q xs) : SqB K H' q xs := by
  refine ⟨SqT.keptL hl d h.sq, ?_⟩
  obtain ⟨o, u, e, z⟩ := h.bare
  refine ⟨o, u, d _ _ (fun c => ?_) e, z⟩
  subst c
  rw [hl] at e
  cases e
theorem SqB.keptS {K : PySem.W.Frag} {w : World} {H H' : Hp} {a q : Addr} {f : Int → Bool} {n : Nat} {xs : List V} (hs : H a = some (SetO w a f n)) (d : Kept a H H') (h : SqB K H q xs) : SqB K H' q xs := by
  obtain ⟨o, u, e, z⟩ := h.bare
  have nq : q ≠ a := fun c => by
    rw [c, hs] at e
    cases e
  refine ⟨?_, ⟨o, u, d _ _ nq e, z⟩⟩
  exact h.sq.elim (fun r => .inl (r.elim (fun r => .inl (d _ _ nq r)) fun ⟨o, r⟩ => .inr ⟨o, d _ _ nq r⟩)) fun r => .inr r
theorem orb_in {nx mt : List Int} {k p : Nat} {s c : List Nat} (hk : 0 < k) (h : p ∈ s) : orb nx mt k s p c = (s, c) := by
  cases k with
  | zero => exact absurd hk (by decide)
  | succ k => unfold orb; rw [if_pos h]
theorem orb_out {nx mt : List Int} {k p : Nat} {s c : List Nat} (h : p ∉ s) : orb nx mt (k + 1) s p c = orb nx mt k (p :: s) (nxt nx mt p) (c ++ [p]) := by
  conv => lhs; unfold orb
  rw [if_neg h]
theorem seqN {t u : TS} {D : Ends} {σ : L2.St} {H : Hp} (h : ∀ N : L2.St → Hp → Prop, (∀ σ H, u D σ H → N σ H) → t { D with nx := N } σ H) : tSeq t u D σ H := h (u D) fun _ _ z => z
section
variable {P : Program} {w : World} {K : PySem.W.Frag} {mg : Str → Option Value} {base : Heap} {C CR : Addr}
theorem scCorn : FnScope nCorn ["rims", "mates"] (defScope sCorn) := ⟨rfl, rfl, rfl, by decide +kernel, rfl, by decide +kernel, by decide +kernel⟩
theorem ok_corn {f : Addr} {fd : FuncData} (F : Fun K "corners_of" "corners_of" sCorn f fd) (TC : TxRC K mg CR) (TA : TxA mg) (R : TxR mg) (hset : mg "set" = none) : FnOk P w K mg base CX0 1 f fd ["rims", "mates"] (spCorn K C CR) := by
  refine F.ok scCorn (fun vs H Q E h => ?_) (fun cdv A outer s H vs Q E hr h => ?_)
  · obtain ⟨p, m, xs, ws, mt, rfl, _⟩ := h
    rfl
  · obtain ⟨p, m, xs, ws, mt, rfl, R1, ⟨l1, l4, hne, l24, hl, hb⟩, hM, ⟨lm, hm⟩, k⟩ := h
    refine ⟨_, pss_cons (ps_set (i := 2) scCorn.nd rfl (Or.inl rfl) (pe_lst pa_nil))
      (pss_cons (ps_set (i := 3) scCorn.nd rfl (Or.inl rfl) (pe_callTy0 cr_set0 (by rfl) hset (by decide +kernel)))
      (pss_cons (ps_for PassesOwn.never rfl (pi_range1 (by rfl) R.range (pa_cons (pe_fld (pv 0) rfl) pa_nil)) (pg_name (i := 4) scCorn.nd rfl (Or.inl rfl))
        (pss_cons (ps_set (i := 5) scCorn.nd rfl (Or.inl rfl) (pe_lst pa_nil))
        (pss_cons (ps_set (i := 6) scCorn.nd rfl (Or.inl rfl) (pv 4))
        (pss_cons (ps_while PassesOwn.never (pt_cmpR or_snotin (pv 6) (pv 3) (by rfl))
          (pss_cons (ps_expr (pe_sadd (pv 3) (pa_cons (pv 6) pa_nil)))
          (pss_cons (ps_expr (pe_bm PySem.F.plainAttrs_list PySem.F.slot_list_append PySem.F.type_list_append mt_append (pv 5) (pa_cons (pv 6) pa_nil)))
          (pss_one (ps_set (i := 6) scCorn.nd rfl (Or.inl rfl) (pe_ix ix_tup (pe_fld (pv 0) rfl) (pe_ix (ixA (K := K) rfl) (pv 1) (pv 6) (fun _ _ => rfl)) (fun _ _ => rfl)))))))
        (pss_one (ps_if (pt_truth (pv 5) (by intro _; rfl)) (pss_one (ps_expr (pe_bm PySem.F.plainAttrs_list PySem.F.slot_list_append PySem.F.type_list_append mt_append (pv 2) (pa_cons (pe_callTy call_tupB (by rfl) TA.tuple (by decide +kernel) (pa_cons (pv 5) pa_nil)) pa_nil)))) pss_nil))))))
      (pss_one (ps_ret (pe_callTy call_tupB (by rfl) TA.tuple (by decide +kernel) (pa_cons (pv 2) pa_nil)))))), ?_⟩
    obtain ⟨dx, tw, tl, th, tn, h1, h2, h3, h4, h5, h6⟩ := id R1
    obtain ⟨n, en⟩ : ∃ n, n = ws.flatten.length := ⟨_, rfl⟩
    rw [← en] at lm hm k l24
    have hnx : (nxF 0 ws).length = n := by rw [nxF_len, en]
    refine ⟨Nat.zero_le _, fun lc hlc => ?_⟩
    have s1 := same_upd (o := .lst []) hlc
    refine ⟨rfl, fun ss hss => ?_⟩
    have s2 := s1.trans (same_upd (o := SetO w ss (fun _ => false) 0) hss)
    have nss : H ss = none := s1.free hss
    have ncs : lc ≠ ss := fun e => by rw [← e, upd_same] at hss; cases hss
    have gc : L2.upd (L2.upd H lc (.lst [])) ss (SetO w ss (fun _ => false) 0) lc = some (.lst []) := by rw [upd_ne ncs, upd_same]
    have gs : L2.upd (L2.upd H lc (.lst [])) ss (SetO w ss (fun _ => false) 0) ss = some (SetO w ss (fun _ => false) 0) := upd_same
    refine at_set ?_
    try dsimp only
    refine seqN fun N1 hN1 => ?_
    refine ⟨_, rfl, p, CR, dx, _, _, rfl, s2 _ _ h1, TC.cl, TC.n3, rf_many, _, rfl, by omega, by omega, ?_⟩
    rw [← en]
    refine for_range (lo := 0) (n := ((n : Nat) : Int).toNat) (fun i σ H' => ∃ (v4 v5 v6 : Option V) (vs : List V), σ = [some (.ref p), some (.ref m), some (.ref lc), some (.ref ss), v4, v5, v6] ∧ Same H H' ∧ SeenAt w H' ss (crn (nxF 0 ws) mt n i).1 ∧ SeenOk n (crn (nxF 0 ws) mt n i).1 ∧ H' lc = some (.lst vs) ∧ vs.length ≤ i ∧
        All2 (fun v c => ∃ q, v = V.ref q ∧ SqB K H' q (iv (nats c))) vs (crn (nxF 0 ws) mt n i).2)
      ⟨none, none, none, [], rfl, s2, ⟨fun _ => false, gs, fun j => by simp [crn, nats]⟩, ⟨List.nodup_nil, fun _ h => nomatch h⟩, gc, Nat.le_refl _, .nil⟩ ?_ ?_
    · rintro i σ H3 hi ⟨v4, v5, v6, vs, rfl, sm, hse, hso, hlcs, lvs, hcs⟩
      rw [Int.toNat_natCast] at hi
      refine ⟨Nat.zero_le _, fun lk hlk => ?_⟩
      have kss : ss ≠ lk := fun e => by
        obtain ⟨f, hf, _⟩ := hse
        rw [e, hlk] at hf
        cases hf
      have nlk : H lk = none := sm.free hlk
      refine ⟨_, rfl, ?_⟩
      refine at_set ?_
      try dsimp only
      refine seqN fun N2 hN2 => ?_
      refine while_by (fun σ H4 => ∃ (k pl : Nat) (s c : List Nat), σ = [some (.ref p), some (.ref m), some (.ref lc), some (.ref ss), some (.int (0 + (i : Nat))), some (.ref lk), some (.int (pl : Int))] ∧ Kept ss H3 H4 ∧ SeenAt w H4 ss s ∧ SeenOk n s ∧ pl < n ∧ H4 lk = some (.lst (iv (nats c))) ∧ c.length ≤ s.length ∧
          orb (nxF 0 ws) mt k s pl c = orb (nxF 0 ws) mt (n + 1) (crn (nxF 0 ws) mt n i).1 i [] ∧ n - s.length < k)
        (fun _ H4 => match H4 lk with | some (.lst xs) => n + 1 - xs.length | _ => 0) ?_ ?_ ?_
      · refine ⟨n + 1, i, (crn (nxF 0 ws) mt n i).1, [], by rw [Int.zero_add]; rfl, fun b o nb e => by rw [upd_ne (ne_of_none e hlk)]; exact e, ?_, hso, hi, upd_same, Nat.zero_le _, rfl, by omega⟩
        obtain ⟨f, hf, hj⟩ := hse
        exact ⟨f, by rw [upd_ne kss]; exact hf, hj⟩
      · rintro σ H4 ⟨kk, pl, s, c, rfl, kp, ⟨f, hf, hj⟩, hok, hpl, hL, lcs, eo, hkk⟩
        have sm4 : Same H H4 := fun b o e => kp b o (fun z => by rw [z, nss] at e; cases e) (sm _ _ e)
        refine ⟨_, rfl, _, rfl, (pl : Int), ss, f, s.length, rfl, rfl, hf, _, rfl, ?_⟩
        have fpl : f (pl : Int) = true ↔ pl ∈ s := by
          rw [hj]
          unfold nats
          rw [List.mem_map]
          constructor
          · rintro ⟨x, hx, e⟩
            have : x = pl := by omega
            exact this ▸ hx
          · intro h
            exact ⟨pl, h, rfl⟩
        by_cases hin : pl ∈ s
        · refine iteF' (by rw [fpl.mpr hin]; rfl) ?_
          refine hN2 _ _ ?_
          rw [orb_in (by omega) hin] at eo
          have f1 : (crn (nxF 0 ws) mt n (i + 1)).1 = s := by
            show (orb (nxF 0 ws) mt (n + 1) (crn (nxF 0 ws) mt n i).1 i []).1 = s
            rw [← eo]
          have f2 : (crn (nxF 0 ws) mt n (i + 1)).2 = if c = [] then (crn (nxF 0 ws) mt n i).2 else (crn (nxF 0 ws) mt n i).2 ++ [c] := by
            show (if (orb (nxF 0 ws) mt (n + 1) (crn (nxF 0 ws) mt n i).1 i []).2 = [] then _ else _ ++ [(orb (nxF 0 ws) mt (n + 1) (crn (nxF 0 ws) mt n i).1 i []).2]) = _
            rw [← eo]
          have hlc4 := kp _ _ ncs hlcs
          obtain ⟨f0, hf0, _⟩ := hse
          have hcs4 : All2 (fun v c => ∃ q, v = V.ref q ∧ SqB K H4 q (iv (nats c))) vs (crn (nxF 0 ws) mt n i).2 := hcs.imp fun _ _ ⟨a, e, r⟩ => ⟨a, e, SqB.keptS hf0 kp r⟩
          refine ⟨_, rfl, _, .inl ⟨_, SqL.of hL, rfl⟩, ?_⟩
          by_cases hc : c = []
          · subst hc
            refine iteF ?_
            refine ⟨_, _, _, vs, rfl, sm4, ?_, ?_, hlc4, by omega, ?_⟩
            · rw [f1]
              exact ⟨f, hf, hj⟩
            · rw [f1]
              exact hok
            · rw [f2, if_pos rfl]
              exact hcs4
          · have hne' : (iv (nats c)).isEmpty = false := by
              cases c with
              | nil => exact absurd rfl hc
              | cons => rfl
            refine iteT' (by rw [hne']; rfl) ?_
            refine ⟨_, rfl, .inl ⟨rfl, _, SqL.of hlc4⟩, _, rfl, lk, _, rfl, .inl ⟨SqL.of hL, fun q H5 s5 B5 => ?_⟩⟩
            have hlc5 := s5 _ _ hlc4
            refine ⟨lc, _, _, rfl, rfl, hlc5, Evl.sz_lt (by omega), ?_⟩
            have kc : Kept lc H5 (L2.upd H5 lc (.lst (vs ++ [.ref q]))) := Kept.upd
            refine ⟨_, _, _, vs ++ [.ref q], rfl, same_put (sm4.trans s5) hlc, ?_, ?_, upd_same, by rw [List.length_append]; show vs.length + 1 ≤ i + 1; omega, ?_⟩
            · rw [f1]
              exact ⟨f, kc _ _ ncs.symm (s5 _ _ hf), hj⟩
            · rw [f1]
              exact hok
            · rw [f2, if_neg hc]
              refine All2.app (hcs4.imp fun _ _ ⟨a, e, r⟩ => ⟨a, e, SqB.keptL hlc5 kc (SqB.same s5 r)⟩) (.cons ⟨q, rfl, SqB.keptL hlc5 kc B5⟩ .nil)
        · have ff : f (pl : Int) = false := by
            cases e : f (pl : Int) with
            | false => rfl
            | true => exact absurd (fpl.mp e) hin
          have hsl := hok.lt hpl hin
          refine iteT' (by rw [ff]; rfl) ?_
          refine ⟨_, rfl, ⟨ss, f, _, rfl, hf⟩, _, rfl, ss, (pl : Int), f, s.length, rfl, rfl, hf, ?_, ?_⟩
          · exact Nat.lt_of_le_of_lt (show s.length + 1 ≤ 64 by omega) (by decide)
          rw [ff]
          have hL5 : L2.upd H4 ss (SetO w ss (fun j => f j || decide (j = (pl : Int))) (s.length + 1)) lk = some (.lst (iv (nats c))) := by
            rw [upd_ne kss.symm]
            exact hL
          have kp5 : Kept ss H3 (L2.upd H4 ss (SetO w ss (fun j => f j || decide (j = (pl : Int))) (s.length + 1))) := kp.trans Kept.upd
          have hs5 : L2.upd H4 ss (SetO w ss (fun j => f j || decide (j = (pl : Int))) (s.length + 1)) ss = some (SetO w ss (fun j => f j || decide (j = (pl : Int))) (s.length + 1)) := upd_same
          obtain ⟨H5, e5⟩ : ∃ H5, H5 = L2.upd H4 ss (SetO w ss (fun j => f j || decide (j = (pl : Int))) (s.length + 1)) := ⟨_, rfl⟩
          try dsimp only
          rw [if_neg Bool.false_ne_true]
          show tSeq _ _ _ _ (L2.upd H4 ss (SetO w ss (fun j => f j || decide (j = (pl : Int))) (s.length + 1)))
          rw [← e5]
          rw [← e5] at hL5 kp5 hs5
          refine ⟨_, rfl, .inl ⟨rfl, _, SqL.of hL5⟩, _, rfl, lk, _, _, rfl, rfl, hL5, Evl.sz_lt (by unfold nats; rw [List.length_map, List.length_map]; omega), ?_⟩
          have kp6 : Kept ss H3 (L2.upd H5 lk (.lst (iv (nats c) ++ [.int (pl : Int)]))) := fun b o nb e => by
            rw [upd_ne (ne_of_none e hlk)]
            exact kp5 b o nb e
          have hs6 : L2.upd H5 lk (.lst (iv (nats c) ++ [.int (pl : Int)])) ss = some (SetO w ss (fun j => f j || decide (j = (pl : Int))) (s.length + 1)) := by
            rw [upd_ne kss]
            exact hs5
          have hL6 : L2.upd H5 lk (.lst (iv (nats c) ++ [.int (pl : Int)])) lk = some (.lst (iv (nats (c ++ [pl])))) := by
            rw [upd_same]
            unfold iv nats
            rw [List.map_append, List.map_append]
            rfl
          obtain ⟨H6, e6⟩ : ∃ H6, H6 = L2.upd H5 lk (.lst (iv (nats c) ++ [.int (pl : Int)])) := ⟨_, rfl⟩
          rw [← e6] at kp6 hs6 hL6 ⊢
          have sm6 : Same H H6 := fun b o e => kp6 b o (fun z => by rw [z, nss] at e; cases e) (sm _ _ e)
          have lpm : pl < mt.length := by omega
          obtain ⟨m0, m1⟩ := hm _ (List.getElem_mem lpm)
          have lmn : mt[pl].toNat < (nxF 0 ws).length := by omega
          obtain ⟨x0, x1⟩ := nxF_rng ws 0 hne _ (List.getElem_mem lmn)
          rw [Nat.zero_add, ← en] at x1
          have enx : nxt (nxF 0 ws) mt pl = ((nxF 0 ws)[mt[pl].toNat]).toNat := by
            unfold nxt
            rw [List.getD_eq_getElem?_getD, List.getD_eq_getElem?_getD, List.getElem?_eq_getElem lpm]
            show ((nxF 0 ws)[mt[pl].toNat]?.getD 0).toNat = _
            rw [List.getElem?_eq_getElem lmn]
            rfl
          have em : mt[pl] = ((mt[pl].toNat : Nat) : Int) := by omega
          refine ⟨_, rfl, p, CR, dx, _, _, rfl, sm6 _ _ h1, TC.cl, TC.n7, rf_nexts, _, rfl, _, rfl, m, _, _, _, rfl, rfl, hM.same sm6, atI_nat (iv_get (List.getElem?_eq_getElem lpm)), tn, _, _, _, rfl, rfl, (SqB.same sm6 h6).sq, (by rw [em]; exact atI_nat (iv_get (List.getElem?_eq_getElem lmn))), ?_⟩
          refine at_set ?_
          obtain ⟨k', rfl⟩ : ∃ k', kk = k' + 1 := ⟨kk - 1, by omega⟩
          have eo' := (orb_out hin).symm.trans eo
          have ex : ((nxt (nxF 0 ws) mt pl : Nat) : Int) = (nxF 0 ws)[mt[pl].toNat] := by
            rw [enx]
            omega
          refine ⟨⟨k', nxt (nxF 0 ws) mt pl, pl :: s, c ++ [pl], by rw [ex]; rfl, kp6, ⟨_, hs6, fun j => ?_⟩, ⟨List.nodup_cons.mpr ⟨hin, hok.1⟩, fun x hx => ?_⟩, by omega, hL6, ?_, eo', ?_⟩, ?_⟩
          · rw [Bool.or_eq_true, decide_eq_true_eq, hj]
            show _ ↔ j ∈ (pl : Int) :: nats s
            rw [List.mem_cons]
            exact or_comm
          · rcases List.mem_cons.mp hx with rfl | hx
            · exact hpl
            · exact hok.2 x hx
          · rw [List.length_append, List.length_cons]
            show c.length + 1 ≤ s.length + 1
            omega
          · rw [List.length_cons]
            omega
          · show (match H6 lk with | some (.lst xs) => n + 1 - xs.length | _ => 0) < (match H4 lk with | some (.lst xs) => n + 1 - xs.length | _ => 0)
            rw [hL6, hL]
            show n + 1 - (iv (nats (c ++ [pl]))).length < n + 1 - (iv (nats c)).length
            unfold iv nats
            simp only [List.length_map, List.length_append, List.length_cons, List.length_nil]
            omega
      · rintro σ H4 Q Q' hh ⟨v, e1, u, e2, kk, a, S, n', ex, ey, hs, c, ec, q⟩
        exact ⟨v, e1, u, e2, kk, a, S, n', ex, ey, hs, c, ec, hh c H4 q⟩
    · rintro σ H3 ⟨v4, v5, v6, vs, rfl, sm, _, _, hlcs, lvs, hcs⟩
      refine hN1 _ _ ?_
      rw [Int.toNat_natCast] at hcs
      refine ⟨_, rfl, lc, _, rfl, .inl ⟨SqL.of hlcs, fun q H4 s4 B4 => ?_⟩⟩
      exact k q H4 (sm.trans s4) ⟨vs, B4, hcs.imp fun _ _ ⟨a, e, r⟩ => ⟨a, e, SqB.same s4 r⟩⟩
end
end W16
set_option Elab.async false
set_option linter.all false
set_option maxRecDepth 100000
set_option maxHeartbeats 1000000
namespace W16
open PySem L2 PySem.Spec PyProof.Rows WR WB WE
/-! ### mates that are mates -/
abbrev sAreI : Stmt := top 27
abbrev sPaired : Stmt := top 29
abbrev sAreM : Stmt := top 59
abbrev sNeedR : Stmt := top 51
/-- each place and its mate are mates of one another, and not the same -/
def PairOk (n : Nat) (mt : List Int) : Prop := MatesOk n mt ∧ ∀ i (h : i < mt.length), mt[i] ≠ (i : Int) ∧ mt[mt[i].toNat]? = some (i : Int)
/-- mates bear contrary letters -/
def MatOk (ls mt : List Int) : Prop := PairOk ls.length mt ∧ ∀ i (h : i < mt.length), ls.getD mt[i].toNat 0 = -ls.getD i 0
def spAreI (K : PySem.W.Frag) : Sp := fun vs H Q _ => ∃ (a : Addr) (ns : List Int), vs = [.ref a] ∧ SqE K H a (iv ns) ∧ ns.length ≤ 1000 ∧ ∀ H', Same H H' → Q (.bl true) H'
def spPaired (K : PySem.W.Frag) : Sp := fun vs H Q _ => ∃ (a : Addr) (mt : List Int) (n : Nat), vs = [.ref a, .int (n : Int)] ∧ SqE K H a (iv mt) ∧ n ≤ 1000 ∧ PairOk n mt ∧ ∀ H', Same H H' → Q (.bl true) H'
def spAreM (K : PySem.W.Frag) : Sp := fun vs H Q _ => ∃ (l a : Addr) (ls mt : List Int), vs = [.ref l, .ref a] ∧ SqB K H l (iv ls) ∧ SqE K H a (iv mt) ∧ ls.length ≤ 1000 ∧ MatOk ls mt ∧ ∀ H', Same H H' → Q (.bl true) H'
def spNeedR (K : PySem.W.Frag) (C CR : Addr) : Sp := fun vs H Q _ => ∃ (p : Addr) (z : V) (xs : List Addr) (ws : List (List Int)), vs = [.ref p, z] ∧ RimsAt K C CR H p xs ws ∧ Q .non H
theorem nx_ret_lc {r : List V → Hp → VK → Prop} {wi : TI} {g : TG} {tt : TT} {te : TE} {vs : List Nat} {D : Ends} {σ : L2.St} {H : Hp} {b1 b2 : L2.St → Hp → Prop} {rt : VK}
    (h : wi σ H fun J H1 => tLc (fun _ H R => R J H) g tt te vs σ H1 fun y H2 => r [y] H2 D.rt) : tNext { nx := tRet (tCB r (tCons (tLc wi g tt te vs) tNil)) D, rt := rt, bk := b1, ct := b2 } σ H := h
theorem lcE {J : It} {G : Hp → Prop} {xs : List V} (wk : Walk J xs.length G (YPair (fun i => some (.int (i : Nat))) (fun i => xs[i]?))) {g : TG} {tt : TT} {te : TE} {vs : List Nat} {σ : L2.St} {H1 : Hp} {Q : VK} (f : Nat → Bool) (v : Nat → V) (hz : xs.length < 40000) (hG : ∀ H, Same H1 H → G H)
    (hs : ∀ i x, xs[i]? = some x → ∀ H, Same H1 H → ∀ T, H T = none → ∀ (Qy : V → Hp → Prop) (Qn : Hp → Prop), (f i = true → ∀ H', Same H H' → Qy (v i) H') → (f i = false → ∀ H', Same H H' → Qn H') →
      g (.ref T) (wipe σ vs) (L2.upd H T (.tup [.int (i : Nat), x])) fun σ2 H2 => wipe σ2 vs = wipe σ vs ∧ tt σ2 H2 fun b H3 => if b = true then te σ2 H3 Qy else Qn H3)
    (hd : ∀ (D : Addr) H', H1 D = none → Same H1 H' → H' D = some (.lst (((List.range xs.length).filter f).map v)) → Q (.ref D) H') : tLc (fun _ H R => R J H) g tt te vs σ H1 Q := by
  intro D hD
  refine lc_it wk (fun i H => Same H1 H ∧ H D = some (.lst (((List.range i).filter f).map v))) ⟨fun b o e => by rw [upd_ne (ne_of_none e hD)]; exact e, upd_same⟩ (fun i H _ q => hG _ q.1) ?_ ?_
  · rintro i x H H' hi q ⟨T, y1, y2, rfl, hT, rfl, e1, hx⟩
    cases e1
    refine hs i y2 hx H q.1 T hT _ _ (fun hf H2 s2 => ⟨_, s2 _ _ q.2, ?_, ?_, ?_⟩) (fun hf H2 s2 => ⟨fun b o e => s2 b o (q.1 b o e), ?_⟩)
    · refine Evl.sz_lt ?_
      rw [List.length_map]
      have := List.length_filter_le f (List.range i)
      rw [List.length_range] at this
      omega
    · intro b o e
      rw [upd_ne (ne_of_none e hD)]
      exact s2 b o (q.1 b o e)
    · rw [upd_same, List.range_succ, List.filter_append, List.map_append, List.filter_cons, if_pos hf]
      rfl
    · rw [List.range_succ, List.filter_append, List.filter_cons, if_neg (by rw [hf]; decide)]
      show H2 D = some (.lst (((List.range i).filter f ++ []).map v))
      rw [List.append_nil]
      exact s2 _ _ q.2
  · intro H q
    exact hd D H hD q.1 q.2
theorem ixt {X : Cx} {K : PySem.W.Frag} (h : X.K = K) : IxR X (rIxT K) := h ▸ ix_tup
section
variable {P : Program} {w : World} {K : PySem.W.Frag} {mg : Str → Option Value} {base : Heap} {C CR : Addr}
theorem scNeedR : FnScope ["value", "part"] ["value", "part"] (defScope sNeedR) := ⟨rfl, rfl, rfl, by decide +kernel, rfl, by decide +kernel, by decide +kernel⟩
theorem ok_needR {f : Addr} {fd : FuncData} (F : Fun K "need_rims" "need_rims" sNeedR f fd) (T : TxW K mg C) (TC : TxRC K mg CR) : FnOk P w K mg base CX0 1 f fd ["value", "part"] (spNeedR K C CR) := by
  refine F.ok scNeedR (fun vs H Q E h => ?_) (fun cdv A outer s H vs Q E hr h => ?_)
  · obtain ⟨p, z, xs, ws, rfl, _⟩ := h
    rfl
  · obtain ⟨p, z, xs, ws, rfl, R1, k⟩ := h
    refine ⟨_, pss_one (ps_if (pt_not (pt_val (pe_callB call_isi (by rfl) T.isin (by decide +kernel) (pa_cons (pv 0) (pa_cons (pe_glob (v := .ref CR) (by rfl) TC.mgR rfl) pa_nil))))) (pss_one ps_never) pss_nil), ?_⟩
    exact ⟨_, rfl, _, _, _, _, _, rfl, .own CR, R1.tyx T TC, kit_self CR, _, rfl, iteF k⟩
theorem scAreI : FnScope ["value", "part"] ["value"] (defScope sAreI) := ⟨rfl, rfl, rfl, by decide +kernel, rfl, by decide +kernel, by decide +kernel⟩
theorem ok_areI {f : Addr} {fd : FuncData} (F : Fun K "are_integers" "are_integers" sAreI f fd) (hall : mg "all" = none) (GL : Cal P w K mg base "is_listed" 1 ["value"] (spListE K)) (GI : Cal P w K mg base "is_integer" 1 ["value"] spIsInt) : FnOk P w K mg base CX0 2 f fd ["value"] (spAreI K) := by
  refine F.ok scAreI (fun vs H Q E h => ?_) (fun cdv A outer s H vs Q E hr h => ?_)
  · obtain ⟨a, ns, rfl, _⟩ := h
    rfl
  · obtain ⟨a, ns, rfl, hA, ln, k⟩ := h
    refine ⟨_, pss_one (ps_ret (pe_and (pe_cal GL hr (by decide) (by rfl) (pa_cons (pv 0) pa_nil)) (pe_one (pe_callB (cr_all rfl) (by rfl) hall (by decide +kernel) (pa_cons (pe_lc (own := [("part", 1)]) (g := gName 1) (tt := tYes) rfl scAreI.nd (pi_seqA (K := K) rfl (pv 0))
      (blkOk_by (N := ["value", "part"]) (sc := defScope sAreI) (by decide +kernel)) (fun _ _ _ _ _ => pg_name (i := 1) scAreI.nd rfl (Or.inl rfl)) (fun _ _ _ _ _ => pts_nil)
      (fun _ _ _ _ _ => pe_cal GI hr (by decide) (by rfl) (pa_cons (pv 1) pa_nil))) pa_nil))))), ?_⟩
    refine ⟨_, rfl, a, _, rfl, hA, fun H1 s1 => ⟨_, rfl, iteT ?_⟩⟩
    refine cb_lc ?_
    refine ⟨_, rfl, a, _, rfl, hA.same s1, fun J G wk hG => ?_⟩
    refine lcp wk (fun _ => true) (fun _ => .bl true) (by rw [List.length_map]; omega) hG ?_ ?_
    · intro x hx H2 s2 Qy Qn ky kn
      obtain ⟨i, hi, rfl⟩ := List.mem_map.mp hx
      exact ⟨rfl, yes_te ⟨_, rfl, .int i, _, rfl, .int i, ky rfl H2 (fun _ _ e => e)⟩⟩
    · intro D H2 hD s2 h2
      refine ⟨D, ns.map fun _ => true, rfl, SqL.of (by
        rw [h2, List.filter_eq_self.mpr (fun _ _ => rfl), List.map_map, List.map_map]
        rfl), ?_⟩
      have e : (ns.map fun _ => true).all id = true := by
        rw [List.all_eq_true]
        intro b hb
        obtain ⟨_, _, rfl⟩ := List.mem_map.mp hb
        rfl
      rw [e]
      exact k H2 (s1.trans s2)
theorem scPaired : FnScope ["value", "many", "place", "mate"] ["value", "many"] (defScope sPaired) := ⟨rfl, rfl, rfl, by decide +kernel, rfl, by decide +kernel, by decide +kernel⟩
theorem ok_paired {f : Addr} {fd : FuncData} (F : Fun K "are_paired" "are_paired" sPaired f fd) (TA : TxA mg) (R : TxR mg) (GI : Cal P w K mg base "are_integers" 2 ["value"] (spAreI K)) : FnOk P w K mg base CX0 3 f fd ["value", "many"] (spPaired K) := by
  refine F.ok scPaired (fun vs H Q E h => ?_) (fun cdv A outer s H vs Q E hr h => ?_)
  · obtain ⟨a, mt, n, rfl, _⟩ := h
    rfl
  · obtain ⟨a, mt, n, rfl, hA, hn, ⟨⟨lm, hm⟩, hp⟩, k⟩ := h
    refine ⟨_, pss_cons (ps_if (PW.pt (pw_or (pt_not (pt_val (pe_cal GI hr (by decide) (by rfl) (pa_cons (pv 0) pa_nil)))) (pw_or1 (pt_cmpR op_ne (pe_callB call_len_seq (by rfl) TA.len PySem.boot_len (pa_cons (pv 0) pa_nil)) (pv 1) (nomark _))))) (pss_one (ps_ret pe_bl)) pss_nil)
      (pss_cons (ps_for PassesOwn.never rfl (pi_enumA (K := K) rfl (by rfl) R.enum (pa_cons (pv 0) pa_nil)) (pg_tup (n := 2) rfl (pgs_cons (pg_name (i := 2) scPaired.nd rfl (Or.inl rfl)) (pgs_cons (pg_name (i := 3) scPaired.nd rfl (Or.inl rfl)) pgs_nil)))
        (pss_one (ps_if (PW.pt (pw_or (pt_not (pt_chain op_le op_lt pe_int (pv 3) (pv 1))) (pw_or (pt_cmpR op_eq (pv 3) (pv 2) (nomark _)) (pw_or1 (pt_cmpR op_ne (pe_ix (ixA (K := K) rfl) (pv 0) (pv 3) (fun _ _ => rfl)) (pv 2) (nomark _)))))) (pss_one (ps_ret pe_bl)) pss_nil)))
      (pss_one (ps_ret pe_bl))), ?_⟩
    refine ⟨_, rfl, a, mt, rfl, hA, by omega, fun H1 s1 => ⟨_, rfl, iteF ?_⟩⟩
    have hA1 := hA.same s1
    refine ⟨_, rfl, a, _, rfl, hA1, _, rfl, rfl, _, rfl, no_ne (decide_eq_true (by rw [List.length_map, lm])) ?_⟩
    refine ⟨_, rfl, a, _, rfl, hA1, fun J G wk hG => ?_⟩
    refine for_it wk (fun i σ H' => ∃ v2 v3 : Option V, σ = [some (.ref a), some (.int (n : Int)), v2, v3] ∧ Same H1 H') ⟨none, none, rfl, Same.refl _⟩ (fun i σ H' _ ⟨_, _, _, s⟩ => hG _ s) ?_ ?_
    · rintro i x σ H3 H4 hi ⟨v2, v3, rfl, sm⟩ ⟨T0, xi, yi, rfl, hT0, rfl, hx, hy⟩
      have hin : i < mt.length := by rw [List.length_map] at hi; exact hi
      obtain rfl := Option.some.inj hx
      have ey : yi = V.int mt[i] := by
        have hy : (iv mt)[i]? = some yi := hy
        rw [List.getElem?_map, List.getElem?_eq_getElem hin] at hy
        exact (Option.some.inj hy).symm
      subst ey
      obtain ⟨z0, z1⟩ := hm _ (List.getElem_mem hin)
      obtain ⟨p0, p1⟩ := hp i hin
      have sT := sm.trans (same_upd (o := .tup [.int (i : Nat), .int mt[i]]) hT0)
      have em : mt[i] = ((mt[i].toNat : Nat) : Int) := by omega
      refine ⟨T0, _, rfl, SqT.of upd_same, rfl, _, _, rfl, _, _, rfl, rfl, ?_⟩
      refine ⟨_, rfl, _, _, rfl, rfl, _, rfl, iteT' (decide_eq_true z0) ⟨_, rfl, _, _, rfl, rfl, _, rfl, no_ne (decide_eq_true z1) ?_⟩⟩
      refine ⟨_, rfl, _, rfl, rfl, _, rfl, iteF' (decide_eq_false fun z => p0 (by injection z)) ?_⟩
      refine ⟨_, rfl, _, rfl, a, _, _, _, rfl, rfl, hA1.same sT, (by rw [em]; exact atI_nat (iv_get p1)), _, rfl, rfl, _, rfl, no_ne (decide_eq_true rfl) ?_⟩
      exact ⟨_, _, rfl, sT⟩
    · rintro σ H' ⟨v2, v3, rfl, sm⟩
      exact k _ (s1.trans sm)
abbrev nAreM : List Str := ["letters", "value", "place", "mate"]
theorem scAreM : FnScope nAreM ["letters", "value"] (defScope sAreM) := ⟨rfl, rfl, rfl, by decide +kernel, rfl, by decide +kernel, by decide +kernel⟩
theorem ok_areM {f : Addr} {fd : FuncData} (F : Fun K "are_mates" "are_mates" sAreM f fd) (TA : TxA mg) (R : TxR mg) (hall : mg "all" = none) (GP : Cal P w K mg base "are_paired" 3 ["value", "many"] (spPaired K)) : FnOk P w K mg base CX0 4 f fd ["letters", "value"] (spAreM K) := by
  refine F.ok scAreM (fun vs H Q E h => ?_) (fun cdv A outer s H vs Q E hr h => ?_)
  · obtain ⟨l, a, ls, mt, rfl, _⟩ := h
    rfl
  · obtain ⟨l, a, ls, mt, rfl, hL, hA, ln, ⟨hp, hm⟩, k⟩ := h
    have lm := hp.1.1
    refine ⟨_, pss_cons (ps_if (pt_not (pt_val (pe_cal GP hr (by decide) (by rfl) (pa_cons (pv 1) (pa_cons (pe_callB call_len_seq (by rfl) TA.len PySem.boot_len (pa_cons (pv 0) pa_nil)) pa_nil))))) (pss_one (ps_ret pe_bl)) pss_nil)
      (pss_one (ps_ret (pe_callB (cr_all rfl) (by rfl) hall (by decide +kernel) (pa_cons (pe_lc (own := [("place", 2), ("mate", 3)]) (g := gTup K 2 (gCons (gName 2) (gCons (gName 3) gNil))) (tt := tYes) rfl scAreM.nd (pi_enumA (K := K) rfl (by rfl) R.enum (pa_cons (pv 1) pa_nil))
        (blkOk_by (N := nAreM) (sc := defScope sAreM) (by decide +kernel)) (fun _ _ _ _ _ => pg_tup (n := 2) rfl (pgs_cons (pg_name (i := 2) scAreM.nd rfl (Or.inl rfl)) (pgs_cons (pg_name (i := 3) scAreM.nd rfl (Or.inl rfl)) pgs_nil))) (fun _ _ _ _ _ => pts_nil)
        (fun _ _ _ _ _ => pe_cmpR op_eq (pe_ix (ixt (K := K) rfl) (pv 0) (pv 3) (fun _ _ => rfl)) (pe_un un_neg (pe_ix (ixt (K := K) rfl) (pv 0) (pv 2) (fun _ _ => rfl))) (nomark _))) pa_nil)))), ?_⟩
    refine ⟨_, rfl, _, rfl, l, _, rfl, .inr hL.sq, a, mt, ls.length, congrArg (fun z => [V.ref a, V.int z]) (by rw [List.length_map]), hA, ln, hp, fun H1 s1 => ⟨_, rfl, iteF ?_⟩⟩
    refine nx_ret_lc ?_
    refine ⟨_, rfl, a, _, rfl, hA.same s1, fun J G wk hG => ?_⟩
    refine lcE wk (fun _ => true) (fun _ => .bl true) (by rw [List.length_map]; omega) hG ?_ ?_
    · intro i x hx H2 s2 T0 hT Qy Qn ky kn
      have hin : i < mt.length := by
        have := (List.getElem?_eq_some_iff.mp hx).1
        rwa [List.length_map] at this
      obtain rfl : x = V.int mt[i] := by
        rw [List.getElem?_map, List.getElem?_eq_getElem hin] at hx
        exact (Option.some.inj hx).symm
      obtain ⟨z0, z1⟩ := hp.1.2 _ (List.getElem_mem hin)
      have sT := same_upd (o := .tup [.int (i : Nat), .int mt[i]]) hT
      have hL2 := (SqB.same ((s1.trans s2).trans sT) hL).sq
      have em : mt[i] = ((mt[i].toNat : Nat) : Int) := by omega
      have l1 : mt[i].toNat < ls.length := by omega
      have l2 : i < ls.length := by omega
      have eq := hm i hin
      rw [List.getD_eq_getElem?_getD, List.getD_eq_getElem?_getD, List.getElem?_eq_getElem l1, List.getElem?_eq_getElem l2] at eq
      have eq : ls[mt[i].toNat] = -ls[i] := eq
      refine ⟨T0, _, rfl, SqT.of upd_same, rfl, _, _, rfl, _, _, rfl, rfl, ?_⟩
      refine ⟨rfl, yes_te ?_⟩
      refine ⟨_, rfl, _, rfl, l, _, _, _, rfl, rfl, hL2, (by rw [em]; exact atI_nat (iv_get (List.getElem?_eq_getElem l1))), _, rfl, _, rfl, l, _, _, _, rfl, rfl, hL2, atI_nat (iv_get (List.getElem?_eq_getElem l2)), _, rfl, rfl, ?_⟩
      have e : decide (V.int ls[mt[i].toNat] = V.int (-ls[i])) = true := decide_eq_true (by rw [eq])
      show Qy (.bl (decide (V.int ls[mt[i].toNat] = V.int (-ls[i])))) _
      rw [e]
      exact ky rfl _ sT
    · intro D H2 hD s2 h2
      refine ⟨D, (List.range (iv mt).length).map fun _ => true, rfl, SqL.of (by
        rw [h2, List.filter_eq_self.mpr (fun _ _ => rfl), List.map_map]
        rfl), ?_⟩
      have e : ((List.range (iv mt).length).map fun _ => true).all id = true := by
        rw [List.all_eq_true]
        intro b hb
        obtain ⟨_, _, rfl⟩ := List.mem_map.mp hb
        rfl
      rw [e]
      exact k H2 (s1.trans s2)
end
end W16
set_option Elab.async false
set_option linter.all false
set_option maxRecDepth 100000
set_option maxHeartbeats 1000000
namespace W16
open PySem L2 PySem.Spec PyProof.Rows WR WB WE
/-! ### numbers joined by pairs -/
abbrev sJoined : Stmt := top 32
/-- on to where a number leads, at most k times -/
def rt (ab : List Nat) : Nat → Nat → Nat
  | 0, x => x
  | k + 1, x => if ab.getD x 0 = x then x else rt ab k (ab.getD x 0)
def jnS (ab : List Nat) (p : Nat × Nat) : List Nat := ab.set (max (rt ab p.1 p.1) (rt ab p.2 p.2)) (min (rt ab p.1 p.1) (rt ab p.2 p.2))
def jn : List Nat → List (Nat × Nat) → List Nat
  | ab, [] => ab
  | ab, p :: r => jn (jnS ab p) r
/-- the number i put to the row of r -/
def putR : List (Nat × List Nat) → Nat → Nat → List (Nat × List Nat)
  | [], r, i => [(r, [i])]
  | (k, m) :: t, r, i => if k = r then (k, m ++ [i]) :: t else (k, m) :: putR t r i
def flr (ab : List Nat) : Nat → List Nat × List (Nat × List Nat)
  | 0 => (ab, [])
  | i + 1 => ((flr ab i).1.set i ((flr ab i).1.getD ((flr ab i).1.getD i 0) 0), putR (flr ab i).2 ((flr ab i).1.getD ((flr ab i).1.getD i 0) 0) i)
def joinF (n : Nat) (ps : List (Nat × Nat)) : List (List Nat) := (flr (jn (List.range n) ps) n).2.map (·.2)
/-- each leads to none that is greater -/
def DnOk (n : Nat) (ab : List Nat) : Prop := ab.length = n ∧ ∀ i, i < n → ab.getD i 0 ≤ i
theorem DnOk.rt_le {n : Nat} {ab : List Nat} (h : DnOk n ab) : ∀ (k x : Nat), x < n → rt ab k x ≤ x
  | 0, x, _ => Nat.le_refl _
  | k + 1, x, hx => by
    unfold rt
    split
    · exact Nat.le_refl _
    · exact Nat.le_trans (h.rt_le k _ (by have := h.2 x hx; omega)) (h.2 x hx)
theorem getD_set {l : List Nat} {i j v : Nat} (h : i < l.length) : (l.set i v).getD j 0 = if j = i then v else l.getD j 0 := by
  rw [List.getD_eq_getElem?_getD, List.getD_eq_getElem?_getD, List.getElem?_set]
  by_cases e : i = j
  · subst e
    rw [if_pos rfl, if_pos rfl, if_pos h]
    rfl
  · rw [if_neg e, if_neg (fun z => e z.symm)]
theorem DnOk.set {n : Nat} {ab : List Nat} (h : DnOk n ab) {i v : Nat} (hi : i < n) (hv : v ≤ i) : DnOk n (ab.set i v) := by
  refine ⟨by rw [List.length_set, h.1], fun j hj => ?_⟩
  rw [getD_set (by rw [h.1]; exact hi)]
  split
  · omega
  · exact h.2 j hj
theorem DnOk.jnS {n : Nat} {ab : List Nat} (h : DnOk n ab) {p : Nat × Nat} (h1 : p.1 < n) (h2 : p.2 < n) : DnOk n (jnS ab p) := by
  have a := h.rt_le p.1 p.1 h1
  have b := h.rt_le p.2 p.2 h2
  exact h.set (by omega) (by omega)
theorem dn_range (n : Nat) : DnOk n (List.range n) := by
  refine ⟨List.length_range, fun i hi => ?_⟩
  rw [List.getD_eq_getElem?_getD, List.getElem?_range hi]
  exact Nat.le_refl _
theorem DnOk.jn {n : Nat} : ∀ (ps : List (Nat × Nat)) {ab : List Nat}, DnOk n ab → (∀ p ∈ ps, p.1 < n ∧ p.2 < n) → DnOk n (W16.jn ab ps)
  | [], _, h, _ => h
  | p :: r, _, h, hp => DnOk.jn r (h.jnS (hp p List.mem_cons_self).1 (hp p List.mem_cons_self).2) fun q hq => hp q (List.mem_cons_of_mem _ hq)
theorem DnOk.flr {n : Nat} {ab : List Nat} (h : DnOk n ab) : ∀ i, i ≤ n → DnOk n (W16.flr ab i).1
  | 0, _ => h
  | i + 1, hi => by
    have d := DnOk.flr h i (by omega)
    have a := d.2 i (by omega)
    have b := d.2 ((W16.flr ab i).1.getD i 0) (by omega)
    exact d.set (by omega) (by omega)
/-- where numbers lead stays the same for any k that is great enough -/
theorem DnOk.rt_end {n : Nat} {ab : List Nat} (h : DnOk n ab) {x : Nat} (k : Nat) (e : ab.getD x 0 = x) : rt ab k x = x := by
  cases k with
  | zero => rfl
  | succ k => unfold rt; rw [if_pos e]
theorem DnOk.rt_step {n : Nat} {ab : List Nat} (h : DnOk n ab) {x k : Nat} (hx : x < n) (hk : x ≤ k) (e : ab.getD x 0 ≠ x) : ∃ k', k = k' + 1 ∧ ab.getD x 0 ≤ k' ∧ rt ab k x = rt ab k' (ab.getD x 0) := by
  have a := h.2 x hx
  obtain ⟨k', rfl⟩ : ∃ k', k = k' + 1 := ⟨k - 1, by omega⟩
  refine ⟨k', rfl, by omega, ?_⟩
  conv => lhs; unfold rt
  rw [if_neg e]
theorem nats_get {l : List Nat} {i : Nat} (h : i < l.length) : atI (iv (nats l)) ((i : Nat) : Int) = some (V.int ((l.getD i 0 : Nat) : Int)) := by
  refine atI_nat (iv_get ?_)
  unfold nats
  rw [List.getElem?_map, List.getElem?_eq_getElem h, List.getD_eq_getElem?_getD, List.getElem?_eq_getElem h]
  rfl
theorem nats_set {l : List Nat} {i v : Nat} : (iv (nats l)).set i (V.int (v : Int)) = iv (nats (l.set i v)) := by
  unfold nats
  rw [List.map_set, ← List.map_set, ← List.map_set]
theorem nats_len (l : List Nat) : (iv (nats l)).length = l.length := by
  unfold nats
  rw [List.length_map, List.length_map]
theorem ixN_nat {n i : Nat} (h : i < n) : ixN n ((i : Nat) : Int) = some i := by
  unfold ixN
  rw [if_pos (by omega), if_pos (by omega), Int.toNat_natCast]
/-- rows of a dict: each key a number, its value a list of numbers -/
def RowsAt (H : Hp) (kvs : List (L2.Key × V)) (rs : List (Nat × List Nat)) : Prop := All2 (fun kv r => kv.1 = Sum.inl ((r.1 : Nat) : Int) ∧ ∃ q, kv.2 = V.ref q ∧ H q = some (.lst (iv (nats r.2)))) kvs rs
theorem rows_none {H : Hp} {kvs : List (L2.Key × V)} {rs : List (Nat × List Nat)} (h : RowsAt H kvs rs) {r i : Nat} (e : valV kvs (Sum.inl ((r : Nat) : Int)) = none) : putR rs r i = rs ++ [(r, [i])] := by
  induction h with
  | nil => rfl
  | @cons kv p kvs rs hp _ ih =>
    have n : ¬ kv.1 = Sum.inl ((r : Nat) : Int) := fun z => by
      rw [valV_pos z] at e
      cases e
    rw [valV_neg n] at e
    have n2 : ¬ p.1 = r := fun z => n (by rw [hp.1, z])
    obtain ⟨k, m⟩ := p
    unfold putR
    rw [if_neg n2, ih e]
    rfl
theorem rows_some {H : Hp} {kvs : List (L2.Key × V)} {rs : List (Nat × List Nat)} (h : RowsAt H kvs rs) {r i : Nat} {v : V} (e : valV kvs (Sum.inl ((r : Nat) : Int)) = some v) :
    ∃ K1 K2 R1 R2 m, kvs = K1 ++ (Sum.inl ((r : Nat) : Int), v) :: K2 ∧ rs = R1 ++ (r, m) :: R2 ∧ RowsAt H K1 R1 ∧ RowsAt H K2 R2 ∧ (∃ q, v = V.ref q ∧ H q = some (.lst (iv (nats m)))) ∧ putR rs r i = R1 ++ (r, m ++ [i]) :: R2 := by
  induction h with
  | nil => cases e
  | @cons kv p kvs rs hp t ih =>
    obtain ⟨k, m⟩ := p
    by_cases z : kv.1 = Sum.inl ((r : Nat) : Int)
    · rw [valV_pos z] at e
      obtain rfl : k = r := by
        have := hp.1.symm.trans z
        injection this with this
        omega
      cases e
      refine ⟨[], kvs, [], rs, m, ?_, rfl, .nil, t, hp.2, ?_⟩
      · rw [← z]
        rfl
      · unfold putR
        rw [if_pos rfl]
        rfl
    · rw [valV_neg z] at e
      have n2 : ¬ k = r := fun y => z (by rw [hp.1, y])
      obtain ⟨K1, K2, R1, R2, m2, e1, e2, h1, h2, h3, e3⟩ := ih e
      refine ⟨kv :: K1, K2, (k, m) :: R1, R2, m2, by rw [e1]; rfl, by rw [e2]; rfl, .cons hp h1, h2, h3, ?_⟩
      unfold putR
      rw [if_neg n2, e3]
      rfl
end W16
set_option Elab.async false
set_option linter.all false
set_option maxRecDepth 100000
set_option maxHeartbeats 1000000
namespace W16
open PySem L2 PySem.Spec PyProof.Rows WR WB WE
theorem call_tupNw {X : Cx} {K : PySem.W.Frag} (hK : X.K = K) : CallR X (.type "tuple") (fun xs H Q => ∃ p ys, xs = [.ref p] ∧ SqL K H p ys ∧ ∀ q (o : Obj), H q = none → o.dict = none → Q (.ref q) (L2.upd H q (.frz o (.tup ys)))) := by
  subst hK
  intro pins s σ H vs us Q I r h
  obtain ⟨p, ys, rfl, hq, k⟩ := h
  obtain ⟨u, rfl, rx⟩ := vals1 r
  cases rx
  obtain ⟨its, rv, pl, hz⟩ := I.list hq
  refine call_tuple_list pl.isList (fun h1 kp => ?_) (by rw [List.size_toArray, ← rv.length]; exact hz)
  have J : Inv X pins σ H { s with heap := h1 } := I.kept (t' := s.toks) kp
  have new : (h1.push { cls := .type "tuple", data := .seq its.toArray }).get? h1.objs.size = some { cls := .type "tuple", data := .seq its.toArray } := Heap.get?_push_size _ rfl
  exact ⟨.ref _, _, J.laid (t' := s.toks) (o := .frz { cls := .type "tuple", data := .seq its.toArray } (.tup ys)) (fun _ _ e => Heap.get?_push_of_some _ e) (Nat.le_refl _) ⟨new, hz, its, rv, IsTup.new _ _⟩, rfl, k _ _ (J.hok.fresh (Nat.le_refl _)) rfl⟩
def PrN (K : PySem.W.Frag) (H : Hp) (v : V) (p : Nat × Nat) : Prop := ∃ q : Addr, v = .ref q ∧ SqT K H q [.int (p.1 : Int), .int (p.2 : Int)]
theorem PrN.same {K : PySem.W.Frag} {H H' : Hp} {v : V} {p : Nat × Nat} (h : PrN K H v p) (s : Same H H') : PrN K H' v p := by
  obtain ⟨q, e, t⟩ := h
  exact ⟨q, e, WR.Same.seqT s t⟩
def spJoined (K : PySem.W.Frag) : Sp := fun vs H Q _ => ∃ (n : Nat) (a : Addr) (us : List V) (ps : List (Nat × Nat)), vs = [.int (n : Int), .ref a] ∧ H a = some (.lst us) ∧ All2 (PrN K H) us ps ∧ n ≤ 40 ∧ us.length ≤ 1000 ∧ (∀ p ∈ ps, p.1 < n ∧ p.2 < n) ∧
  ∀ q H', Same H H' → CornAt K H' q (joinF n ps) → Q (.ref q) H'
abbrev nJoined : List Str := ["many", "pairs", "above", "one", "other", "rows", "at", "row"]
theorem rgV_nats (n : Nat) : rgV 0 (n : Int) = iv (nats (List.range n)) := by
  unfold rgV nats
  show _ = ((List.range n).map fun (x : Nat) => (x : Int)).map V.int
  rw [List.map_map, show ((n : Int) - 0).toNat = n by omega]
  refine List.map_congr_left fun i _ => ?_
  show V.int (0 + (i : Nat)) = V.int ((i : Nat) : Int)
  rw [Int.zero_add]
theorem wk_vals {d : Addr} {o : Obj} {kvs : List (L2.Key × V)} : Walk (Itd d o kvs) (kvs.map (·.2)).length (fun H => H d = some (.frz o (.dK kvs))) (YAt (kvs.map (·.2))) := by
  have w := walk_values (d := d) (o := o) (kvs := kvs)
  rw [List.length_map]
  refine ⟨w.goes, w.stops, fun i H x H' hi g y => ?_⟩
  obtain ⟨e, k, hk⟩ := w.yields i H x H' hi g y
  refine ⟨e, ?_⟩
  rw [List.getElem?_map, hk]
  rfl
def slotN (i : Nat) (σ : L2.St) : Nat := match σ[i]? with | some (some (V.int y)) => y.toNat | _ => 0
theorem ret_cb_lock {r : List V → Hp → VK → Prop} {t : TE} {D : Ends} {σ : L2.St} {H : Hp} (h : tLockE t σ H fun y H2 => r [y] H2 D.rt) : tRet (tCB r (tCons (tLockE t) tNil)) D σ H := h
theorem flr_rows_len (ab : List Nat) : ∀ i, (∀ p ∈ (flr ab i).2, p.2.length ≤ i)
  | 0, p, h => nomatch h
  | i + 1, p, h => by
    have ih := flr_rows_len ab i
    have key : ∀ (rs : List (Nat × List Nat)) (r : Nat), (∀ p ∈ rs, p.2.length ≤ i) → ∀ p ∈ putR rs r i, p.2.length ≤ i + 1 := by
      intro rs r
      induction rs with
      | nil =>
        intro _ p hp
        unfold putR at hp
        rw [List.mem_singleton.mp hp]
        show 1 ≤ i + 1
        omega
      | cons x t iht =>
        intro hx p hp
        obtain ⟨k, m⟩ := x
        unfold putR at hp
        split at hp
        · rcases List.mem_cons.mp hp with rfl | hp
          · have := hx (k, m) List.mem_cons_self
            show (m ++ [i]).length ≤ i + 1
            rw [List.length_append]
            show m.length + 1 ≤ i + 1
            have this : m.length ≤ i := this
            omega
          · have := hx p (List.mem_cons_of_mem _ hp)
            omega
        · rcases List.mem_cons.mp hp with rfl | hp
          · have := hx (k, m) List.mem_cons_self
            have this : m.length ≤ i := this
            show m.length ≤ i + 1
            omega
          · exact iht (fun q hq => hx q (List.mem_cons_of_mem _ hq)) p hp
    exact key _ _ ih p h
section
variable {P : Program} {w : World} {K : PySem.W.Frag} {mg : Str → Option Value} {base : Heap} {C CR : Addr}
theorem scJoined : FnScope nJoined ["many", "pairs"] (defScope sJoined) := ⟨rfl, rfl, rfl, by decide +kernel, rfl, by decide +kernel, by decide +kernel⟩
theorem ok_joined {f : Addr} {fd : FuncData} (F : Fun K "joined" "joined" sJoined f fd) (TA : TxA mg) (R : TxR mg) (hlist : mg "list" = none) (hmax : mg "max" = none) (hmin : mg "min" = none) : FnOk P w K mg base CX0 1 f fd ["many", "pairs"] (spJoined K) := by
  refine F.ok scJoined (fun vs H Q E h => ?_) (fun cdv A outer s H vs Q E hr h => ?_)
  · obtain ⟨n, a, us, ps, rfl, _⟩ := h
    rfl
  · obtain ⟨n, a, us, ps, rfl, hA, hP, hn, hu, hps, k⟩ := h
    refine ⟨_, pss_cons (ps_set (i := 2) scJoined.nd rfl (Or.inl rfl) (pe_listRg rfl (by rfl) hlist (prg_1 (by rfl) R.range (pv 0))))
      (pss_cons (ps_for PassesOwn.never rfl (pi_list (pv 1)) (pg_tup (n := 2) rfl (pgs_cons (pg_name (i := 3) scJoined.nd rfl (Or.inl rfl)) (pgs_cons (pg_name (i := 4) scJoined.nd rfl (Or.inl rfl)) pgs_nil)))
        (pss_cons (ps_while PassesOwn.never (pt_cmpR op_ne (pe_ix ix_list (pv 2) (pv 3) (fun _ _ => rfl)) (pv 3) (nomark _)) (pss_one (ps_set (i := 3) scJoined.nd rfl (Or.inl rfl) (pe_ix ix_list (pv 2) (pv 3) (fun _ _ => rfl)))))
        (pss_cons (ps_while PassesOwn.never (pt_cmpR op_ne (pe_ix ix_list (pv 2) (pv 4) (fun _ _ => rfl)) (pv 4) (nomark _)) (pss_one (ps_set (i := 4) scJoined.nd rfl (Or.inl rfl) (pe_ix ix_list (pv 2) (pv 4) (fun _ _ => rfl)))))
        (pss_one (ps_asg (pe_callB (call_min2 rfl) (by rfl) hmin (by decide +kernel) (pa_cons (pv 3) (pa_cons (pv 4) pa_nil))) (pg_sub (pv 2) (pe_callB (call_max2 rfl) (by rfl) hmax (by decide +kernel) (pa_cons (pv 3) (pa_cons (pv 4) pa_nil))) set_list))))))
      (pss_cons (ps_set (i := 5) scJoined.nd rfl (Or.inl rfl) pe_dnewK)
      (pss_cons (ps_for PassesOwn.never rfl (pi_range1 (by rfl) R.range (pa_cons (pv 0) pa_nil)) (pg_name (i := 6) scJoined.nd rfl (Or.inl rfl))
        (pss_cons (ps_asg (pe_ix ix_list (pv 2) (pe_ix ix_list (pv 2) (pv 6) (fun _ _ => rfl)) (fun _ _ => rfl)) (pg_sub (pv 2) (pv 6) set_list))
        (pss_one (ps_expr (pe_bm PySem.F.plainAttrs_list PySem.F.slot_list_append PySem.F.type_list_append mt_append (pe_dsetd (pv 5) (pe_ix ix_list (pv 2) (pv 6) (fun _ _ => rfl)) (pe_lst pa_nil) ⟨rfl, rfl, rfl, rfl⟩) (pa_cons (pv 6) pa_nil))))))
      (pss_one (ps_ret (pe_callTy call_tupB (by rfl) TA.tuple (by decide +kernel) (pa_cons (pe_lock (pe_lc (own := [("row", 7)]) (g := gName 7) (tt := tYes) rfl scJoined.nd (pi_values (pv 5))
        (blkOk_by (N := nJoined) (sc := defScope sJoined) (by decide +kernel)) (fun _ _ _ _ _ => pg_name (i := 7) scJoined.nd rfl (Or.inl rfl)) (fun _ _ _ _ _ => pts_nil)
        (fun _ _ _ _ _ => pe_callTy (call_tupNw (K := K) rfl) (by rfl) TA.tuple (by decide +kernel) (pa_cons (pv 7) pa_nil)))) pa_nil))))))), ?_⟩
    refine ⟨_, rfl, n, rfl, RgOk.of_le (by omega) (by omega) (by omega) (by omega), fun lc hlc => ?_⟩
    rw [rgV_nats]
    have na : a ≠ lc := ne_of_none hA hlc
    refine at_set ?_
    try dsimp only
    refine seqN fun N1 hN1 => ?_
    refine ⟨_, rfl, a, rfl, ⟨us, SqL.of (by rw [upd_ne na]; exact hA)⟩, ?_⟩
    have lps := hP.length
    refine for_it (walk_list (K := K) (a := a) (xs := us)) (fun i σ H' => ∃ (v3 v4 : Option V) (ab : List Nat), σ = [some (.int (n : Int)), some (.ref a), some (.ref lc), v3, v4, none, none, none] ∧ Kept lc H H' ∧ H' lc = some (.lst (iv (nats ab))) ∧ DnOk n ab ∧ jn ab (ps.drop i) = jn (List.range n) ps)
      ⟨none, none, List.range n, rfl, fun b o nb e => by rw [upd_ne nb]; exact e, upd_same, dn_range n, rfl⟩ (fun i σ H' _ hI_ => by obtain ⟨_, _, _, _, kp, _⟩ := hI_; exact SqL.of (kp _ _ na hA)) ?_ ?_
    · rintro i x σ H3 H4 hi ⟨v3, v4, ab, rfl, kp, hL, dn, ej⟩ ⟨rfl, hx⟩
      obtain ⟨⟨o1, o2⟩, hp, q, rfl, hq⟩ := hP.at hx
      have hq3 : SqT K H4 q [.int (o1 : Int), .int (o2 : Int)] := by
        refine hq.elim (fun r => .inl (r.elim (fun r => .inl (kp _ _ (ne_of_none r hlc) r)) fun ⟨o, r⟩ => .inr ⟨o, kp _ _ (ne_of_none r hlc) r⟩)) fun r => .inr r
      obtain ⟨b1, b2⟩ := hps (o1, o2) (List.mem_of_getElem? hp)
      have b1 : o1 < n := b1
      have b2 : o2 < n := b2
      refine ⟨q, _, rfl, hq3, rfl, _, _, rfl, _, _, rfl, rfl, ?_⟩
      try dsimp only
      refine seqN fun N2 hN2 => ?_
      refine while_by (fun σ H5 => ∃ (kk y : Nat), σ = [some (.int (n : Int)), some (.ref a), some (.ref lc), some (.int (y : Int)), some (.int (o2 : Int)), none, none, none] ∧ H4 = H5 ∧ y < n ∧ y ≤ kk ∧ rt ab kk y = rt ab o1 o1)
        (fun σ _ => slotN 3 σ) ⟨o1, o1, rfl, rfl, b1, Nat.le_refl _, rfl⟩ ?_ ?_
      · rintro σ H5 ⟨kk, y, rfl, rfl, hy, hyk, ey⟩
        have hyl : y < ab.length := by rw [dn.1]; exact hy
        refine ⟨_, rfl, _, rfl, lc, _, _, _, rfl, rfl, SqL.of hL, nats_get hyl, _, rfl, rfl, _, rfl, ?_⟩
        by_cases e : ab.getD y 0 = y
        · refine iteF' (by rw [e]; show (!decide (V.int (y : Int) = V.int (y : Int))) = false; rw [decide_eq_true rfl]; rfl) ?_
          rw [dn.rt_end _ e] at ey
          refine hN2 _ _ (seqN fun N3 hN3 => ?_)
          refine while_by (fun σ H5 => ∃ (kk y2 : Nat), σ = [some (.int (n : Int)), some (.ref a), some (.ref lc), some (.int (y : Int)), some (.int (y2 : Int)), none, none, none] ∧ H4 = H5 ∧ y2 < n ∧ y2 ≤ kk ∧ rt ab kk y2 = rt ab o2 o2)
            (fun σ _ => slotN 4 σ) ⟨o2, o2, rfl, rfl, b2, Nat.le_refl _, rfl⟩ ?_ ?_
          · rintro σ H5 ⟨kk2, y2, rfl, rfl, hy2, hyk2, ey2⟩
            have hyl2 : y2 < ab.length := by rw [dn.1]; exact hy2
            refine ⟨_, rfl, _, rfl, lc, _, _, _, rfl, rfl, SqL.of hL, nats_get hyl2, _, rfl, rfl, _, rfl, ?_⟩
            by_cases e2 : ab.getD y2 0 = y2
            · refine iteF' (by rw [e2]; show (!decide (V.int (y2 : Int) = V.int (y2 : Int))) = false; rw [decide_eq_true rfl]; rfl) ?_
              rw [dn.rt_end _ e2] at ey2
              refine hN3 _ _ ?_
              have hmx : max y y2 < ab.length := by omega
              have e3 : (if (y2 : Int) < (y : Int) then (y2 : Int) else (y : Int)) = ((min y y2 : Nat) : Int) := by split <;> omega
              have e4 : (if (y2 : Int) > (y : Int) then (y2 : Int) else (y : Int)) = ((max y y2 : Nat) : Int) := by split <;> omega
              refine ⟨_, rfl, _, rfl, _, _, rfl, ?_⟩
              refine ⟨_, rfl, _, rfl, _, rfl, _, _, rfl, ?_⟩
              rw [e4]
              refine ⟨lc, _, _, max y y2, rfl, rfl, hL, by rw [nats_len]; exact ixN_nat hmx, ?_⟩
              rw [e3, nats_set]
              have ejs : ab.set (max y y2) (min y y2) = jnS ab (o1, o2) := by
                unfold jnS
                rw [← ey, ← ey2]
              rw [ejs]
              refine ⟨_, _, jnS ab (o1, o2), rfl, kp.trans Kept.upd, upd_same, dn.jnS b1 b2, ?_⟩
              rw [← ej]
              have ed : ps.drop i = (o1, o2) :: ps.drop (i + 1) := by
                have hil : i < ps.length := (List.getElem?_eq_some_iff.mp hp).1
                rw [List.drop_eq_getElem_cons hil]
                congr 1
                exact Option.some.inj ((List.getElem?_eq_getElem hil).symm.trans hp)
              rw [ed]
              rfl
            · have hle2 := dn.2 y2 hy2
              obtain ⟨k', ek, hk', er⟩ := dn.rt_step hy2 hyk2 e2
              refine iteT' (by show (!decide (V.int ((ab.getD y2 0 : Nat) : Int) = V.int (y2 : Int))) = true; rw [decide_eq_false (fun z => e2 (by injection z with z; omega))]; rfl) ?_
              refine ⟨_, rfl, _, rfl, lc, _, _, _, rfl, rfl, SqL.of hL, nats_get hyl2, ?_⟩
              refine ⟨⟨k', ab.getD y2 0, rfl, rfl, by omega, hk', er.symm.trans ey2⟩, ?_⟩
              show ((ab.getD y2 0 : Nat) : Int).toNat < ((y2 : Nat) : Int).toNat
              omega
          · rintro σ H5 Q Q' hh ⟨v, e1, u, e2, p, xs, z, v', ex, ey, hs, ha, u', e3, fl, c, ec, q⟩
            exact ⟨v, e1, u, e2, p, xs, z, v', ex, ey, hs, ha, u', e3, fl, c, ec, hh c H5 q⟩
        · have hle := dn.2 y hy
          obtain ⟨k', ek, hk', er⟩ := dn.rt_step hy hyk e
          refine iteT' (by show (!decide (V.int ((ab.getD y 0 : Nat) : Int) = V.int (y : Int))) = true; rw [decide_eq_false (fun z => e (by injection z with z; omega))]; rfl) ?_
          refine ⟨_, rfl, _, rfl, lc, _, _, _, rfl, rfl, SqL.of hL, nats_get hyl, ?_⟩
          refine ⟨⟨k', ab.getD y 0, rfl, rfl, by omega, hk', er.symm.trans ey⟩, ?_⟩
          show ((ab.getD y 0 : Nat) : Int).toNat < ((y : Nat) : Int).toNat
          omega
      · rintro σ H5 Q Q' hh ⟨v, e1, u, e2, p, xs, z, v', ex, ey, hs, ha, u', e3, fl, c, ec, q⟩
        exact ⟨v, e1, u, e2, p, xs, z, v', ex, ey, hs, ha, u', e3, fl, c, ec, hh c H5 q⟩
    · rintro σ H3 ⟨v3, v4, ab, rfl, kp, hL, dn, ej⟩
      rw [lps, List.drop_length] at ej
      have ej : ab = jn (List.range n) ps := ej
      refine hN1 _ _ ?_
      have sm3 : Same H H3 := fun b o e => kp _ _ (ne_of_none e hlc) e
      refine fun dd hdd => ?_
      have nLd : lc ≠ dd := ne_of_none hL hdd
      have nHd : H dd = none := sm3.free hdd
      refine at_set ?_
      try dsimp only
      refine seqN fun N4 hN4 => ?_
      refine ⟨_, rfl, _, rfl, by omega, by omega, ?_⟩
      refine for_range (lo := 0) (n := ((n : Nat) : Int).toNat) (fun i σ H' => ∃ (v6 : Option V) (kvs : List (L2.Key × V)), σ = [some (.int (n : Int)), some (.ref a), some (.ref lc), v3, v4, some (.ref dd), v6, none] ∧ Same H H' ∧ H' lc = some (.lst (iv (nats (flr ab i).1))) ∧
          H' dd = some (.dK kvs) ∧ RowsAt H' kvs (flr ab i).2 ∧ (kvs.map (·.2)).Nodup ∧ kvs.length ≤ i ∧ ∀ q, V.ref q ∈ kvs.map (·.2) → H q = none ∧ q ≠ lc)
        ⟨none, [], rfl, sm3.trans (same_upd hdd), by rw [upd_ne nLd]; exact hL, upd_same, .nil, List.nodup_nil, Nat.le_refl _, fun _ h => nomatch h⟩ ?_ ?_
      · rintro i σ H4 hi ⟨v6, kvs, rfl, sm, hL4, hd4, hR4, nd, lk, new4⟩
        rw [Int.toNat_natCast] at hi
        rw [Int.zero_add]
        have dF := dn.flr i (by omega)
        have dG := dn.flr (i + 1) (by omega)
        obtain ⟨fl, efl⟩ : ∃ fl, fl = (flr ab i).1 := ⟨_, rfl⟩
        obtain ⟨fg, efg⟩ : ∃ fg, fg = (flr ab (i + 1)).1 := ⟨_, rfl⟩
        rw [← efl] at hL4 dF
        rw [← efg] at dG
        have eg : fg = fl.set i (fl.getD (fl.getD i 0) 0) := by rw [efg, efl]; rfl
        have hil : i < fl.length := by rw [dF.1]; exact hi
        have hjl : fl.getD i 0 < fl.length := by have := dF.2 i hi; omega
        refine ⟨_, rfl, _, rfl, _, rfl, lc, _, _, _, rfl, rfl, SqL.of hL4, nats_get hil, lc, _, _, _, rfl, rfl, SqL.of hL4, nats_get hjl, _, rfl, _, rfl, lc, _, _, i, rfl, rfl, hL4, by rw [nats_len]; exact ixN_nat hil, ?_⟩
        rw [nats_set, ← eg]
        obtain ⟨H5, e5⟩ : ∃ H5, H5 = L2.upd H4 lc (.lst (iv (nats fg))) := ⟨_, rfl⟩
        rw [← e5]
        have hL5 : H5 lc = some (.lst (iv (nats fg))) := by rw [e5, upd_same]
        have k45 : Kept lc H4 H5 := by rw [e5]; exact Kept.upd
        have sm5 : Same H H5 := by rw [e5]; exact same_put sm hlc
        have hd5 : H5 dd = some (.dK kvs) := k45 _ _ nLd.symm hd4
        have hR5 : RowsAt H5 kvs (flr ab i).2 := by
          have g : ∀ (xs : List (L2.Key × V)) (rs : List (Nat × List Nat)), RowsAt H4 xs rs → (∀ q, V.ref q ∈ xs.map (·.2) → q ≠ lc) → RowsAt H5 xs rs := by
            intro xs rs h
            induction h with
            | nil => intro _; exact .nil
            | cons r _ ih =>
              intro hn
              obtain ⟨r1, q, r2, r3⟩ := r
              refine .cons ⟨r1, q, r2, k45 _ _ (hn q (by rw [← r2]; exact List.mem_cons_self)) r3⟩ (ih fun q hq => hn q (List.mem_cons_of_mem _ hq))
          exact g _ _ hR4 fun q hq => (new4 q hq).2
        have hig : i < fg.length := by rw [dG.1]; exact hi
        have eri : fg.getD i 0 = fl.getD (fl.getD i 0) 0 := by rw [eg, getD_set hil, if_pos rfl]
        have er2 : (flr ab (i + 1)).2 = putR (flr ab i).2 (fg.getD i 0) i := by
          rw [eri, efl]
          rfl
        obtain ⟨r, er⟩ : ∃ r, r = fg.getD i 0 := ⟨_, rfl⟩
        refine ⟨_, rfl, dd, rfl, .inl ⟨kvs, .inl hd5⟩, _, rfl, _, rfl, lc, _, _, _, rfl, rfl, SqL.of hL5, nats_get hig, Nat.zero_le _, fun q hq => ?_⟩
        rw [← er] at er2 ⊢
        have ndq : dd ≠ q := ne_of_none hd5 hq
        have nlq : lc ≠ q := ne_of_none hL5 hq
        have nHq : H q = none := sm5.free hq
        obtain ⟨H6, e6⟩ : ∃ H6, H6 = L2.upd H5 q (.lst []) := ⟨_, rfl⟩
        rw [← e6]
        have s56 : Same H5 H6 := by rw [e6]; exact same_upd hq
        have hd6 := s56 _ _ hd5
        have hL6 := s56 _ _ hL5
        have hq6 : H6 q = some (.lst []) := by rw [e6, upd_same]
        have hR6 : RowsAt H6 kvs (flr ab i).2 := hR5.imp fun _ _ ⟨r1, q, r2, r3⟩ => ⟨r1, q, r2, s56 _ _ r3⟩
        have sm6 := sm5.trans s56
        refine ⟨kvs, Sum.inl ((r : Nat) : Int), hd6, rfl, Evl.sz_lt (by omega), fun v ev => ?_, fun ev => ?_⟩
        · obtain ⟨K1, K2, R1, R2, m, ek, eR, h1, h2, ⟨q0, rfl, hq0⟩, ep⟩ := rows_some (i := i) hR6 ev
          have hml : m.length ≤ i := flr_rows_len ab i (r, m) (by rw [eR]; simp)
          have mem0 : V.ref q0 ∈ kvs.map (·.2) := by rw [ek]; simp
          obtain ⟨n0, n0l⟩ := new4 q0 mem0
          have n0d : q0 ≠ dd := fun z => by
            rw [z, hd6] at hq0
            cases hq0
          refine ⟨.inl ⟨rfl, _, SqL.of hq0⟩, _, rfl, q0, _, _, rfl, rfl, hq0, Evl.sz_lt (by rw [nats_len]; omega), ?_⟩
          have k67 : Kept q0 H6 (L2.upd H6 q0 (.lst (iv (nats m) ++ [.int (i : Int)]))) := Kept.upd
          have nd1 := nd
          rw [ek, List.map_append, List.map_cons, List.nodup_append] at nd1
          obtain ⟨nd1, nd2, nd3⟩ := nd1
          rw [List.nodup_cons] at nd2
          have g : ∀ (xs : List (L2.Key × V)) (rs : List (Nat × List Nat)), RowsAt H6 xs rs → V.ref q0 ∉ xs.map (·.2) → RowsAt (L2.upd H6 q0 (.lst (iv (nats m) ++ [.int (i : Int)]))) xs rs := by
            intro xs rs h
            induction h with
            | nil => intro _; exact .nil
            | cons r _ ih =>
              intro hn
              obtain ⟨r1, q, r2, r3⟩ := r
              refine .cons ⟨r1, q, r2, k67 _ _ (fun z => hn (by rw [List.map_cons, r2, z]; exact List.mem_cons_self)) r3⟩ (ih fun z => hn (List.mem_cons_of_mem _ z))
          refine ⟨_, kvs, rfl, same_put sm6 n0, ?_, k67 _ _ n0d.symm hd6, ?_, nd, by omega, new4⟩
          · rw [← efg]
            exact k67 _ _ n0l.symm hL6
          · rw [er2, ep, ek]
            refine All2.app (g _ _ h1 fun z => nd3 _ z _ List.mem_cons_self rfl) (.cons ⟨rfl, q0, rfl, ?_⟩ (g _ _ h2 nd2.1))
            rw [upd_same]
            unfold nats iv
            rw [List.map_append, List.map_append]
            rfl
        · have eK := putK_new (V.ref q) ev
          rw [eK]
          obtain ⟨H7, e7⟩ : ∃ H7, H7 = L2.upd H6 dd (.dK (kvs ++ [(Sum.inl ((r : Nat) : Int), V.ref q)])) := ⟨_, rfl⟩
          rw [← e7]
          have k67 : Kept dd H6 H7 := by rw [e7]; exact Kept.upd
          have hd7 : H7 dd = some (.dK (kvs ++ [(Sum.inl ((r : Nat) : Int), V.ref q)])) := by rw [e7, upd_same]
          have hq7 := k67 _ _ ndq.symm hq6
          have hL7 := k67 _ _ nLd hL6
          have sm7 : Same H H7 := by rw [e7]; exact same_put sm6 nHd
          have hR7 : RowsAt H7 kvs (flr ab i).2 := hR6.imp fun _ _ ⟨r1, q, r2, r3⟩ => ⟨r1, q, r2, k67 _ _ (fun z => by rw [z, hd6] at r3; cases r3) r3⟩
          refine ⟨.inl ⟨rfl, _, SqL.of hq7⟩, _, rfl, q, _, _, rfl, rfl, hq7, Evl.sz_lt (by show 0 < 100000; omega), ?_⟩
          have k78 : Kept q H7 (L2.upd H7 q (.lst ([] ++ [.int (i : Int)]))) := Kept.upd
          have nq : V.ref q ∉ kvs.map (·.2) := fun z => by
            obtain ⟨kv, hkv, ekv⟩ := List.mem_map.mp z
            obtain ⟨p, _, _, q1, e1, h1⟩ := All2.mem hR5 hkv
            have : q1 = q := by
              rw [e1] at ekv
              injection ekv
            rw [this, hq] at h1
            cases h1
          have g : ∀ (xs : List (L2.Key × V)) (rs : List (Nat × List Nat)), RowsAt H7 xs rs → V.ref q ∉ xs.map (·.2) → RowsAt (L2.upd H7 q (.lst ([] ++ [.int (i : Int)]))) xs rs := by
            intro xs rs h
            induction h with
            | nil => intro _; exact .nil
            | cons r _ ih =>
              intro hn
              obtain ⟨r1, q2, r2, r3⟩ := r
              refine .cons ⟨r1, q2, r2, k78 _ _ (fun z => hn (by rw [List.map_cons, r2, z]; exact List.mem_cons_self)) r3⟩ (ih fun z => hn (List.mem_cons_of_mem _ z))
          refine ⟨_, _, rfl, same_put sm7 nHq, ?_, k78 _ _ ndq hd7, ?_, ?_, by rw [List.length_append]; show kvs.length + 1 ≤ i + 1; omega, ?_⟩
          · rw [← efg]
            exact k78 _ _ nlq hL7
          · rw [er2, rows_none hR7 ev]
            exact All2.app (g _ _ hR7 nq) (.cons ⟨rfl, q, rfl, upd_same⟩ .nil)
          · rw [List.map_append, List.nodup_append]
            refine ⟨nd, by simp, ?_⟩
            rintro x hx y hy rfl
            rw [List.map_cons, List.map_nil, List.mem_singleton] at hy
            have hy : x = V.ref q := hy
            exact nq (by rw [← hy]; exact hx)
          · intro z hz
            rw [List.map_append, List.mem_append] at hz
            rcases hz with hz | hz
            · exact new4 z hz
            · rw [List.map_cons, List.map_nil, List.mem_singleton] at hz
              injection hz with hz
              rw [hz]
              exact ⟨nHq, nlq.symm⟩
      · rintro σ H4 ⟨v6, kvs, rfl, sm, hL4, hd4, hR4, nd, lk, new4⟩
        rw [Int.toNat_natCast] at hR4 lk
        refine hN4 _ _ ?_
        try dsimp only
        refine ret_cb_lock ?_
        refine ⟨dd, .dK kvs, hd4, trivial, fun od => ?_⟩
        refine lc_in ?_
        refine ⟨_, rfl, dd, od, kvs, rfl, upd_same, ?_⟩
        have rows : All2 (fun (v : V) (r : Nat × List Nat) => ∃ q, v = V.ref q ∧ H4 q = some (.lst (iv (nats r.2)))) (kvs.map (·.2)) (flr ab n).2 := by
          have g : ∀ (xs : List (L2.Key × V)) (rs : List (Nat × List Nat)), RowsAt H4 xs rs → All2 (fun (v : V) (r : Nat × List Nat) => ∃ q, v = V.ref q ∧ H4 q = some (.lst (iv (nats r.2)))) (xs.map (·.2)) rs := by
            intro xs rs h
            induction h with
            | nil => exact .nil
            | cons r _ ih => exact .cons r.2 ih
          exact g _ _ hR4
        have lrow := rows.length
        have nH1 : ∀ q xs, H4 q = some (.lst xs) → q ≠ dd := fun q xs e z => by
          rw [z, hd4] at e
          cases e
        refine lcM (wk_vals (d := dd) (o := od) (kvs := kvs)) (flr ab n).2 (fun D H5 v r => ∃ q, v = V.ref q ∧ q ≠ dd ∧ SqB K H5 q (iv (nats r.2))) (fun D H5 H6 v b ⟨q, e, nq, h⟩ s => ⟨q, e, nq, SqB.same s h⟩) (fun D H5 ws o v b hD hI_ => by obtain ⟨q, e, nq, h⟩ := hI_; exact ⟨q, e, nq, SqB.keptL hD Kept.upd h⟩)
          (by rw [List.length_map]; omega) lrow (fun H5 s => s _ _ upd_same) ?_ (fun _ _ _ _ _ => gName_mono) ?_
        · intro i x b hx hb D H5 hD hDD s5 Qy ky
          obtain ⟨r, hr2, q, rfl, hq⟩ := rows.at hx
          obtain rfl : r = b := Option.some.inj (hr2.symm.trans hb)
          have nqd := nH1 q _ hq
          have hq5 : H5 q = some (.lst (iv (nats r.2))) := s5 _ _ (by rw [upd_ne nqd]; exact hq)
          have hd5 : H5 dd = some (.frz od (.dK kvs)) := s5 _ _ upd_same
          refine ⟨rfl, _, rfl, q, _, rfl, SqL.of hq5, fun q2 o h2 ho => ?_⟩
          refine ky _ _ (same_upd h2) ⟨q2, rfl, (ne_of_none hd5 h2).symm, ⟨.inl (.inr ⟨o, upd_same⟩), ⟨o, _, upd_same, ho⟩⟩⟩
        · intro D H5 ws hD s5 hDD hW
          have hd5 : H5 dd = some (.frz od (.dK kvs)) := s5 _ _ upd_same
          have nDd : D ≠ dd := fun z => by
            rw [z, hd5] at hDD
            cases hDD
          refine ⟨hd5, D, ws, rfl, .inl ⟨SqL.of (by rw [upd_ne nDd]; exact hDD), fun q H6 s6 B6 => ?_⟩⟩
          have sm5 : Same H4 (L2.upd H5 dd (.dK kvs)) := fun b o e => by
            by_cases z : b = dd
            · rw [z, hd4] at e
              rw [z, upd_same, e]
            · rw [upd_ne z]
              exact s5 _ _ (by rw [upd_ne z]; exact e)
          have kd5 : ∀ q xs, q ≠ dd → SqB K H5 q xs → SqB K (L2.upd H5 dd (.dK kvs)) q xs := fun q xs nq ⟨h1, o, u, h2, h3⟩ => by
            refine ⟨?_, ⟨o, u, by rw [upd_ne nq]; exact h2, h3⟩⟩
            exact h1.elim (fun r => .inl (r.elim (fun r => .inl (by rw [upd_ne nq]; exact r)) fun ⟨o, r⟩ => .inr ⟨o, by rw [upd_ne nq]; exact r⟩)) fun r => .inr r
          refine k q H6 ((sm.trans sm5).trans s6) ⟨ws, B6, ?_⟩
          have fin : All2 (fun v c => ∃ q, v = V.ref q ∧ SqB K H6 q (iv (nats c))) ws ((flr ab n).2.map (·.2)) := by
            have g : ∀ (xs : List V) (rs : List (Nat × List Nat)), All2 (fun v (r : Nat × List Nat) => ∃ q, v = V.ref q ∧ q ≠ dd ∧ SqB K H5 q (iv (nats r.2))) xs rs → All2 (fun v c => ∃ q, v = V.ref q ∧ SqB K H6 q (iv (nats c))) xs (rs.map (·.2)) := by
              intro xs rs h
              induction h with
              | nil => exact .nil
              | cons r _ ih =>
                obtain ⟨q, e, nq, h⟩ := r
                exact .cons ⟨q, e, SqB.same s6 (kd5 q _ nq h)⟩ ih
            exact g _ _ hW
          rw [ej] at fin
          exact fin
end
end W16
set_option Elab.async false
set_option linter.all false
set_option maxRecDepth 100000
set_option maxHeartbeats 1000000
namespace W16
open PySem L2 PySem.Spec PyProof.Rows WR WB WE
/-! ### pieces, and the class Sewing -/
abbrev sPieces : Stmt := top 61
abbrev sInitS : Stmt := inClass (top 62) 0
theorem lcY {β : Type} {J : It} {n : Nat} {G : Hp → Prop} {Y : Nat → Hp → V → Hp → Prop} (w : Walk J n G Y) (hY : ∀ i H x H', Y i H x H' → Same H H') (ys : List β) (R : Addr → Hp → V → β → Prop) (hst : ∀ D H H' v b, R D H v b → Same H H' → R D H' v b) (hput : ∀ D H ws o v b, H D = some (.lst ws) → R D H v b → R D (L2.upd H D o) v b)
    (hz : n < 40000) (hl : n = ys.length) {g : TG} {te : TE} {vs : List Nat} {σ : L2.St} {H1 : Hp} {Q : VK} (hG : ∀ H, Same H1 H → G H)
    (hs : ∀ (i : Nat) (x : V) (b : β) (H H' : Hp), ys[i]? = some b → Same H1 H → Y i H x H' → ∀ D, H1 D = none → (∃ ws, H' D = some (.lst ws)) → ∀ (Qy : V → Hp → Prop), (∀ v H2, Same H' H2 → R D H2 v b → Qy v H2) →
      g x (wipe σ vs) H' fun σ2 H2 => wipe σ2 vs = wipe σ vs ∧ te σ2 H2 Qy)
    (hg : ∀ x σ1 H A B, (∀ σ2 H2, A σ2 H2 → B σ2 H2) → g x σ1 H A → g x σ1 H B)
    (hd : ∀ (D : Addr) H' ws, H1 D = none → Same H1 H' → H' D = some (.lst ws) → All2 (R D H') ws ys → Q (.ref D) H') : tLc (fun _ H R => R J H) g tYes te vs σ H1 Q := by
  intro D hD
  refine lc_it w (fun i H => Same H1 H ∧ ∃ ws, H D = some (.lst ws) ∧ All2 (R D H) ws (ys.take i)) ⟨fun b o e => by rw [upd_ne (ne_of_none e hD)]; exact e, [], upd_same, by simp only [List.take_zero]; exact .nil⟩ (fun i H _ q => hG H q.1) ?_ ?_
  · rintro i x H H' hi ⟨sm, ws, hw, h2⟩ y
    have hi2 : i < ys.length := by omega
    have sY := hY _ _ _ _ y
    refine hg _ _ _ _ _ (fun σ2 H2 q => ⟨q.1, yes_te q.2⟩) (hs i x ys[i] H H' (List.getElem?_eq_getElem hi2) sm y D hD ⟨ws, sY _ _ hw⟩ _ fun v H2 s2 r => ?_)
    have s3 := sY.trans s2
    have hw2 := s3 _ _ hw
    have hlen := h2.length
    rw [List.length_take] at hlen
    refine ⟨ws, hw2, Evl.sz_lt (by omega), fun b o e => ?_, ws ++ [v], upd_same, ?_⟩
    · rw [upd_ne (ne_of_none e hD)]
      exact s3 _ _ (sm _ _ e)
    · rw [List.take_succ_eq_append_getElem hi2]
      exact (h2.imp fun v b r => hput D H2 ws _ v b hw2 (hst D _ _ v b r s3)).app (.cons (hput D H2 ws _ v _ hw2 r) .nil)
  · rintro H ⟨sm, ws, hw, h2⟩
    rw [List.take_of_length_le (by omega)] at h2
    exact hd D H ws hD sm hw h2
theorem yp_same {f g : Nat → Option V} {i : Nat} {H H' : Hp} {x : V} (y : YPair f g i H x H') : Same H H' := by
  obtain ⟨T, _, _, _, hT, e, _⟩ := y
  rw [e]
  exact same_upd hT
theorem ar_lcA {wi : TI} {g : TG} {tt : TT} {te : TE} {vs : List Nat} {σ : L2.St} {H : Hp} {Q : List V → Hp → Prop}
    (h : wi σ H fun J H1 => tLc (fun _ H R => R J H) g tt te vs σ H1 fun y H2 => Q [y] H2) : tCons (tLc wi g tt te vs) tNil σ H Q := h
/-- the number of the word of a place -/
def home (ws : List (List Int)) (i : Nat) : Nat := ((hmF 0 ws).getD i 0).toNat
def pcP (ws : List (List Int)) (mt : List Int) : List (Nat × Nat) := (List.range mt.length).map fun i => (home ws i, home ws (mt.getD i 0).toNat)
def pcF (ws : List (List Int)) (mt : List Int) : List (List Nat) := joinF ws.length (pcP ws mt)
theorem hmF_rng : ∀ (ws : List (List Int)) (f : Nat), ∀ z ∈ hmF f ws, (f : Int) ≤ z ∧ z < ((f + ws.length : Nat) : Int)
  | [], _, z, h => nomatch h
  | w :: r, f, z, h => by
    unfold hmF at h
    rw [List.mem_append] at h
    rw [List.length_cons]
    rcases h with h | h
    · have := (List.mem_replicate.mp h).2
      omega
    · have := hmF_rng r (f + 1) z h
      omega
theorem home_at {ws : List (List Int)} {i : Nat} (h : i < ws.flatten.length) : (hmF 0 ws)[i]? = some ((home ws i : Nat) : Int) ∧ home ws i < ws.length := by
  have hl : i < (hmF 0 ws).length := by rw [hmF_len]; exact h
  have r := hmF_rng ws 0 _ (List.getElem_mem hl)
  have e : home ws i = ((hmF 0 ws)[i]).toNat := by
    unfold home
    rw [List.getD_eq_getElem?_getD, List.getElem?_eq_getElem hl]
    rfl
  rw [e, List.getElem?_eq_getElem hl]
  refine ⟨?_, by omega⟩
  congr 1
  omega
def spPieces (K : PySem.W.Frag) (C CR : Addr) : Sp := fun vs H Q _ => ∃ (p m : Addr) (xs : List Addr) (ws : List (List Int)) (mt : List Int), vs = [.ref p, .ref m] ∧ RimsAt K C CR H p xs ws ∧ RimOk ws ∧ SqE K H m (iv mt) ∧ MatesOk ws.flatten.length mt ∧
  ∀ q H', Same H H' → CornAt K H' q (pcF ws mt) → Q (.ref q) H'
abbrev nPieces : List Str := ["rims", "mates", "place", "mate"]
theorem PrN.put {K : PySem.W.Frag} {D : Addr} {H : Hp} {ws : List V} {o : HO} {v : V} {p : Nat × Nat} (hD : H D = some (.lst ws)) (h : PrN K H v p) : PrN K (L2.upd H D o) v p := by
  obtain ⟨q, e, t⟩ := h
  exact ⟨q, e, SqT.keptL hD Kept.upd t⟩
section
variable {P : Program} {w : World} {K : PySem.W.Frag} {mg : Str → Option Value} {base : Heap} {C CR CS : Addr}
theorem scPieces : FnScope nPieces ["rims", "mates"] (defScope sPieces) := ⟨rfl, rfl, rfl, by decide +kernel, rfl, by decide +kernel, by decide +kernel⟩
theorem ok_pieces {f : Addr} {fd : FuncData} (F : Fun K "pieces_of" "pieces_of" sPieces f fd) (TC : TxRC K mg CR) (TA : TxA mg) (R : TxR mg) (GJ : Cal P w K mg base "joined" 1 ["many", "pairs"] (spJoined K)) : FnOk P w K mg base CX0 2 f fd ["rims", "mates"] (spPieces K C CR) := by
  refine F.ok scPieces (fun vs H Q E h => ?_) (fun cdv A outer s H vs Q E hr h => ?_)
  · obtain ⟨p, m, xs, ws, mt, rfl, _⟩ := h
    rfl
  · obtain ⟨p, m, xs, ws, mt, rfl, R1, ⟨l1, l4, hne, l24, hl, hb⟩, hM, ⟨lm, hm⟩, k⟩ := h
    refine ⟨_, pss_one (ps_ret (pe_cal GJ hr (by decide) (by rfl) (pa_cons (pe_callB call_len_seq (by rfl) TA.len PySem.boot_len (pa_cons (pe_fld (pv 0) rfl) pa_nil)) (pa_cons (pe_lc (own := [("place", 2), ("mate", 3)]) (g := gTup K 2 (gCons (gName 2) (gCons (gName 3) gNil))) (tt := tYes) rfl scPieces.nd (pi_enumA (K := K) rfl (by rfl) R.enum (pa_cons (pv 1) pa_nil))
        (blkOk_by (N := nPieces) (sc := defScope sPieces) (by decide +kernel)) (fun _ _ _ _ _ => pg_tup (n := 2) rfl (pgs_cons (pg_name (i := 2) scPieces.nd rfl (Or.inl rfl)) (pgs_cons (pg_name (i := 3) scPieces.nd rfl (Or.inl rfl)) pgs_nil))) (fun _ _ _ _ _ => pts_nil)
        (fun _ _ _ _ _ => pe_tup (pa_cons (pe_ix (ixt (K := K) rfl) (pe_fldK (K := K) rfl (pv 0) rfl) (pv 2) (fun _ _ => rfl)) (pa_cons (pe_ix (ixt (K := K) rfl) (pe_fldK (K := K) rfl (pv 0) rfl) (pv 3) (fun _ _ => rfl)) pa_nil)))) pa_nil)))), ?_⟩
    have lxw : xs.length = ws.length := R1.choose_spec.choose_spec.choose_spec.choose_spec.choose_spec.2.2.1.length
    obtain ⟨dx, tw, tl, th, tn, h1, h2, h3, h4, h5, h6⟩ := id R1
    refine ⟨_, rfl, p, CR, dx, _, _, rfl, h1, TC.cl, TC.n1, rf_words, tw, _, rfl, .inr h2.sq, ?_⟩
    refine ar_lcA ?_
    refine ⟨_, rfl, m, _, rfl, hM, fun J G wk hG => ?_⟩
    refine lcY wk (fun _ _ _ _ => yp_same) (pcP ws mt) (fun _ H v b => PrN K H v b) (fun _ _ _ _ _ h s => h.same s) (fun _ _ _ _ _ _ hD h => h.put hD) (by rw [List.length_map]; omega) (by rw [List.length_map]; unfold pcP; rw [List.length_map, List.length_range]) hG ?_ (fun _ _ _ _ _ => gTup_mono) ?_
    · rintro i x b H2 H3 hb sm ⟨T, y1, y2, rfl, hT, rfl, e1, e2⟩ D hD _ Qy ky
      cases e1
      have hin : i < mt.length := by
        have := (List.getElem?_eq_some_iff.mp hb).1
        unfold pcP at this
        rwa [List.length_map, List.length_range] at this
      obtain rfl : y2 = V.int mt[i] := by
        have e2 : (iv mt)[i]? = some y2 := e2
        rw [List.getElem?_map, List.getElem?_eq_getElem hin] at e2
        exact (Option.some.inj e2).symm
      obtain ⟨z0, z1⟩ := hm _ (List.getElem_mem hin)
      have em : mt[i] = ((mt[i].toNat : Nat) : Int) := by omega
      obtain ⟨a1, b1⟩ := home_at (ws := ws) (i := i) (by omega)
      obtain ⟨a2, b2⟩ := home_at (ws := ws) (i := mt[i].toNat) (by omega)
      have eb : b = (home ws i, home ws mt[i].toNat) := by
        unfold pcP at hb
        rw [List.getElem?_map, List.getElem?_range hin] at hb
        have this : b = (home ws i, home ws (mt.getD i 0).toNat) := (Option.some.inj hb).symm
        rw [List.getD_eq_getElem?_getD, List.getElem?_eq_getElem hin] at this
        exact this
      have sT := sm.trans (same_upd (o := .tup [.int (i : Nat), .int mt[i]]) hT)
      refine ⟨T, _, rfl, SqT.of upd_same, rfl, _, _, rfl, _, _, rfl, rfl, rfl, ?_⟩
      refine ⟨_, rfl, p, CR, dx, _, _, rfl, sT _ _ h1, TC.cl, TC.n6, rf_homes, _, rfl, th, _, _, _, rfl, rfl, (SqB.same sT h5).sq, atI_nat (iv_get a1), ?_⟩
      refine ⟨_, rfl, p, CR, dx, _, _, rfl, sT _ _ h1, TC.cl, TC.n6, rf_homes, _, rfl, th, _, _, _, rfl, rfl, (SqB.same sT h5).sq, (by rw [em]; exact atI_nat (iv_get a2)), ?_⟩
      refine ⟨by show 2 ≤ sizeLine; decide, fun q hq => ?_⟩
      refine ky _ _ (same_upd hq) ⟨q, rfl, ?_⟩
      rw [eb]
      exact SqT.of upd_same
    · intro D H2 us hD s2 h2 hA
      have lu := hA.length
      refine ⟨ws.length, D, us, pcP ws mt, by rw [List.length_map, lxw]; rfl, h2, hA, by omega, ?_, ?_, fun q H3 s3 c3 => k q H3 (s2.trans s3) c3⟩
      · rw [lu]
        unfold pcP
        rw [List.length_map, List.length_range]
        omega
      · intro b hb
        unfold pcP at hb
        obtain ⟨i, hi, rfl⟩ := List.mem_map.mp hb
        rw [List.mem_range] at hi
        obtain ⟨z0, z1⟩ := hm _ (List.getElem_mem hi)
        have e : mt.getD i 0 = mt[i] := by
          rw [List.getD_eq_getElem?_getD, List.getElem?_eq_getElem hi]
          rfl
        rw [e]
        exact ⟨(home_at (by omega)).2, (home_at (by omega)).2⟩
end
end W16
set_option Elab.async false
set_option linter.all false
set_option maxRecDepth 100000
set_option maxHeartbeats 1000000
namespace W16
open PySem L2 PySem.Spec PyProof.Rows WR WB WE
theorem CornAt.same {K : PySem.W.Frag} {H H' : Hp} {a : Addr} {cs : List (List Nat)} (h : CornAt K H a cs) (s : Same H H') : CornAt K H' a cs := by
  obtain ⟨vs, h1, h2⟩ := h
  exact ⟨vs, SqB.same s h1, h2.imp fun _ _ ⟨q, e, r⟩ => ⟨q, e, SqB.same s r⟩⟩
theorem CornAt.put {K : PySem.W.Frag} {H : Hp} {a p C dx : Addr} {fs : List (Str × V)} {o : HO} {cs : List (List Nat)} (h : CornAt K H a cs) (hp : H p = some (.ins C dx fs)) : CornAt K (L2.upd H p o) a cs := by
  obtain ⟨vs, h1, h2⟩ := h
  exact ⟨vs, SqB.put h1 hp, h2.imp fun _ _ ⟨q, e, r⟩ => ⟨q, e, SqB.put r hp⟩⟩
def cornF (ws : List (List Int)) (mt : List Int) : List (List Nat) := (crn (nxF 0 ws) mt ws.flatten.length ws.flatten.length).2
def costF (ws : List (List Int)) (mt : List Int) : Int := ((ws.flatten.length / 2 : Nat) : Int) - ((cornF ws mt).length : Int)
def handF (ws : List (List Int)) (mt : List Int) : Int := (2 * ((pcF ws mt).length : Int) - (ws.length : Int) + costF ws mt) / 2
def sf (rp tm tc : Addr) (c : Int) (tp : Addr) (g : Int) : List (Str × V) := [("rims", .ref rp), ("mates", .ref tm), ("corners", .ref tc), ("cost", .int c), ("pieces", .ref tp), ("handles", .int g)]
theorem ps1 {rp : Addr} : putF "rims" (.ref rp) ([] : List (Str × V)) = ([("rims", .ref rp)] : List (Str × V)) := rfl
theorem ps2 {rp tm : Addr} : putF "mates" (.ref tm) ([("rims", .ref rp)] : List (Str × V)) = ([("rims", .ref rp), ("mates", .ref tm)] : List (Str × V)) := by
  rw [pf_ne (show ¬ (("rims" : Str) = "mates") by decide +kernel)]
  rfl
theorem ps3 {rp tm tc : Addr} : putF "corners" (.ref tc) ([("rims", .ref rp), ("mates", .ref tm)] : List (Str × V)) = ([("rims", .ref rp), ("mates", .ref tm), ("corners", .ref tc)] : List (Str × V)) := by
  rw [pf_ne (show ¬ (("rims" : Str) = "corners") by decide +kernel), pf_ne (show ¬ (("mates" : Str) = "corners") by decide +kernel)]
  rfl
theorem ps4 {rp tm tc : Addr} {c : Int} : putF "cost" (.int c) ([("rims", .ref rp), ("mates", .ref tm), ("corners", .ref tc)] : List (Str × V)) = ([("rims", .ref rp), ("mates", .ref tm), ("corners", .ref tc), ("cost", .int c)] : List (Str × V)) := by
  rw [pf_ne (show ¬ (("rims" : Str) = "cost") by decide +kernel), pf_ne (show ¬ (("mates" : Str) = "cost") by decide +kernel), pf_ne (show ¬ (("corners" : Str) = "cost") by decide +kernel)]
  rfl
theorem ps5 {rp tm tc tp : Addr} {c : Int} : putF "pieces" (.ref tp) ([("rims", .ref rp), ("mates", .ref tm), ("corners", .ref tc), ("cost", .int c)] : List (Str × V)) = ([("rims", .ref rp), ("mates", .ref tm), ("corners", .ref tc), ("cost", .int c), ("pieces", .ref tp)] : List (Str × V)) := by
  rw [pf_ne (show ¬ (("rims" : Str) = "pieces") by decide +kernel), pf_ne (show ¬ (("mates" : Str) = "pieces") by decide +kernel), pf_ne (show ¬ (("corners" : Str) = "pieces") by decide +kernel), pf_ne (show ¬ (("cost" : Str) = "pieces") by decide +kernel)]
  rfl
theorem ps6 {rp tm tc tp : Addr} {c g : Int} : putF "handles" (.int g) ([("rims", .ref rp), ("mates", .ref tm), ("corners", .ref tc), ("cost", .int c), ("pieces", .ref tp)] : List (Str × V)) = sf rp tm tc c tp g := by
  rw [pf_ne (show ¬ (("rims" : Str) = "handles") by decide +kernel), pf_ne (show ¬ (("mates" : Str) = "handles") by decide +kernel), pf_ne (show ¬ (("corners" : Str) = "handles") by decide +kernel), pf_ne (show ¬ (("cost" : Str) = "handles") by decide +kernel), pf_ne (show ¬ (("pieces" : Str) = "handles") by decide +kernel)]
  rfl
theorem sf_rims {rp tm tc tp : Addr} {c g : Int} : (sf rp tm tc c tp g).lookup ("rims" : Str) = some (.ref rp) := lk_eq
theorem sf_corners {rp tm tc tp : Addr} {c g : Int} : (sf rp tm tc c tp g).lookup ("corners" : Str) = some (.ref tc) := by
  unfold sf
  rw [lk_ne (by decide +kernel), lk_ne (by decide +kernel)]
  exact lk_eq
theorem sf_cost {rp tm tc tp : Addr} {c g : Int} : (sf rp tm tc c tp g).lookup ("cost" : Str) = some (.int c) := by
  unfold sf
  rw [lk_ne (by decide +kernel), lk_ne (by decide +kernel), lk_ne (by decide +kernel)]
  exact lk_eq
theorem sf_pieces {rp tm tc tp : Addr} {c g : Int} : (sf rp tm tc c tp g).lookup ("pieces" : Str) = some (.ref tp) := by
  unfold sf
  rw [lk_ne (by decide +kernel), lk_ne (by decide +kernel), lk_ne (by decide +kernel), lk_ne (by decide +kernel)]
  exact lk_eq
theorem sf_handles {rp tm tc tp : Addr} {c g : Int} : (sf rp tm tc c tp g).lookup ("handles" : Str) = some (.int g) := by
  unfold sf
  rw [lk_ne (by decide +kernel), lk_ne (by decide +kernel), lk_ne (by decide +kernel), lk_ne (by decide +kernel), lk_ne (by decide +kernel)]
  exact lk_eq
def SewAt (K : PySem.W.Frag) (C CR CS : Addr) (H : Hp) (p rp : Addr) (xs : List Addr) (ws : List (List Int)) (mt : List Int) : Prop :=
  ∃ dx tm tc tp, H p = some (.ins CS dx (sf rp tm tc (costF ws mt) tp (handF ws mt))) ∧ RimsAt K C CR H rp xs ws ∧ SqB K H tm (iv mt) ∧ CornAt K H tc (cornF ws mt) ∧ CornAt K H tp (pcF ws mt)
theorem SewAt.same {K : PySem.W.Frag} {C CR CS : Addr} {H H' : Hp} {p rp : Addr} {xs : List Addr} {ws : List (List Int)} {mt : List Int} (h : SewAt K C CR CS H p rp xs ws mt) (s : Same H H') : SewAt K C CR CS H' p rp xs ws mt := by
  obtain ⟨dx, tm, tc, tp, h1, h2, h3, h4, h5⟩ := h
  exact ⟨dx, tm, tc, tp, s _ _ h1, h2.same s, SqB.same s h3, h4.same s, h5.same s⟩
theorem tup_of {K : PySem.W.Frag} {H : Hp} {m : Addr} {xs : List V} {Q : VK} (h : SqW K H m xs) (k : NewB K H Q xs) : (SqL K H m xs ∧ NewB K H Q xs) ∨ (SqB K H m xs ∧ Q (.ref m) H) :=
  h.elim (fun a => .inl ⟨a, k⟩) fun b => .inr ⟨b, k.self b⟩
structure TxSC (K : PySem.W.Frag) (mg : Str → Option Value) (CS : Addr) : Prop where
  cl : Cls K CS
  n1 : NoAttr K CS "rims"
  n2 : NoAttr K CS "mates"
  n3 : NoAttr K CS "corners"
  n4 : NoAttr K CS "cost"
  n5 : NoAttr K CS "pieces"
  n6 : NoAttr K CS "handles"
  mgS : mg "Sewing" = some (.ref CS)
  ca : PySem.W.findIn K (.ref CS) "__class__" = some (some (.builtin "object.__class__"))
  cm : PySem.W.mroIn K CS (.type "object") = some true
def spInitS (K : PySem.W.Frag) (C CR CS : Addr) : Sp := fun vs H Q _ => ∃ (H0 : Hp) (p dx rp m : Addr) (xs : List Addr) (ws : List (List Int)) (mt : List Int), vs = [.ref p, .ref rp, .ref m] ∧ Same H0 H ∧ H0 p = none ∧ H p = some (.ins CS dx []) ∧ RimsAt K C CR H0 rp xs ws ∧ RimOk ws ∧ SqW K H0 m (iv mt) ∧ MatOk ws.flatten mt ∧
  ∀ H', Same H0 H' → SewAt K C CR CS H' p rp xs ws mt → Q .non H'
abbrev nInitS : List Str := ["self", "rims", "mates"]
section
variable {P : Program} {w : World} {K : PySem.W.Frag} {mg : Str → Option Value} {base : Heap} {C CR CS : Addr}
theorem scInitS : FnScope nInitS ["self", "rims", "mates"] (defScope sInitS) := ⟨rfl, rfl, rfl, by decide +kernel, rfl, by decide +kernel, by decide +kernel⟩
theorem ok_initS {f : Addr} {fd : FuncData} (F : Fun K "__init__" "Sewing.__init__" sInitS f fd) (TC : TxRC K mg CR) (TS : TxSC K mg CS) (TA : TxA mg) (GR : Cal P w K mg base "need_rims" 1 ["value", "part"] (spNeedR K C CR)) (GM : Cal P w K mg base "are_mates" 4 ["letters", "value"] (spAreM K))
    (GC : Cal P w K mg base "corners_of" 1 ["rims", "mates"] (spCorn K C CR)) (GP : Cal P w K mg base "pieces_of" 2 ["rims", "mates"] (spPieces K C CR)) : FnOk P w K mg base CX0 5 f fd ["self", "rims", "mates"] (spInitS K C CR CS) := by
  refine F.ok scInitS (fun vs H Q E h => ?_) (fun cdv A outer s H vs Q E hr h => ?_)
  · obtain ⟨H0, p, dx, rp, m, xs, ws, mt, rfl, _⟩ := h
    rfl
  · obtain ⟨H0, p, dx, rp, m, xs, ws, mt, rfl, s0, p0, hp, R0, ok, hM, mk, k⟩ := h
    refine ⟨_, pss_cons (ps_expr (pe_cal GR hr (by decide) (by rfl) (pa_cons (pv 1) (pa_cons pe_str pa_nil))))
      (pss_cons (ps_if (pt_not (pt_val (pe_cal GM hr (by decide) (by rfl) (pa_cons (pe_fld (pv 1) rfl) (pa_cons (pv 2) pa_nil))))) (pss_one ps_never) pss_nil)
      (pss_cons (ps_fld (pv 0) (pv 1) rfl)
      (pss_cons (ps_fld (pv 0) (pe_callTy call_tupB (by rfl) TA.tuple (by decide +kernel) (pa_cons (pv 2) pa_nil)) rfl)
      (pss_cons (ps_fld (pv 0) (pe_cal GC hr (by decide) (by rfl) (pa_cons (pv 1) (pa_cons (pv 2) pa_nil))) rfl)
      (pss_cons (ps_fld (pv 0) (pe_op op_sub (pe_fld (pv 1) rfl) (pe_callB call_len_seq (by rfl) TA.len PySem.boot_len (pa_cons (pe_fld (pv 0) rfl) pa_nil))) rfl)
      (pss_cons (ps_fld (pv 0) (pe_cal GP hr (by decide) (by rfl) (pa_cons (pv 1) (pa_cons (pv 2) pa_nil))) rfl)
      (pss_one (ps_fld (pv 0) (pe_op op_fdiv (pe_op op_add (pe_op op_sub (pe_op op_mul pe_int (pe_callB call_len_seq (by rfl) TA.len PySem.boot_len (pa_cons (pe_fld (pv 0) rfl) pa_nil))) (pe_callB call_len_seq (by rfl) TA.len PySem.boot_len (pa_cons (pe_fld (pv 1) rfl) pa_nil))) (pe_fld (pv 0) rfl)) pe_int) rfl)))))))), ?_⟩
    have l24 := ok.2.2.2.1
    obtain ⟨dr, tw, tl, th, tn, h1, h2, h3, h4, h5, h6⟩ := id R0
    have lxw : xs.length = ws.length := h3.length
    refine ⟨_, rfl, rp, _, xs, ws, rfl, R0.same s0, ?_⟩
    refine ⟨_, rfl, rp, CR, dr, _, _, rfl, s0 _ _ h1, TC.cl, TC.n2, rf_letters, _, rfl, tl, m, ws.flatten, mt, rfl, SqB.same s0 h4, hM.e.same s0, by omega, mk, fun H1 s1 => ⟨_, rfl, iteF ?_⟩⟩
    have s01 := s0.trans s1
    have hp1 := s1 _ _ hp
    -- its rims
    refine ⟨_, rfl, _, rfl, p, CS, dx, _, rfl, hp1, TS.cl, TS.n1, (by show 0 < 1000; decide), ?_⟩
    have s02 := same_put (o := (.ins CS dx (putF "rims" (.ref rp) []))) s01 p0
    have hp2 : L2.upd H1 p (.ins CS dx (putF "rims" (.ref rp) [])) p = some (.ins CS dx [("rims", .ref rp)]) := by rw [upd_same, ps1]
    obtain ⟨H2, e2⟩ : ∃ H', H' = L2.upd H1 p (.ins CS dx (putF "rims" (.ref rp) [])) := ⟨_, rfl⟩
    rw [← e2] at s02 hp2 ⊢
    clear e2
    -- its mates
    refine ⟨_, rfl, m, iv mt, rfl, tup_of (hM.same s02) fun tm H3 s3 B3 => ?_⟩
    have hp3 := s3 _ _ hp2
    have s03 := s02.trans s3
    refine ⟨_, rfl, p, CS, dx, _, rfl, hp3, TS.cl, TS.n2, (by show 1 < 1000; decide), ?_⟩
    have s04 := same_put (o := (.ins CS dx (putF "mates" (.ref tm) [("rims", .ref rp)]))) s03 p0
    have hp4 : L2.upd H3 p (.ins CS dx (putF "mates" (.ref tm) [("rims", .ref rp)])) p = some (.ins CS dx [("rims", .ref rp), ("mates", .ref tm)]) := by rw [upd_same, ps2]
    have B4 := SqB.put (o := (.ins CS dx (putF "mates" (.ref tm) [("rims", .ref rp)]))) B3 hp3
    obtain ⟨H4, e4⟩ : ∃ H', H' = L2.upd H3 p (.ins CS dx (putF "mates" (.ref tm) [("rims", .ref rp)])) := ⟨_, rfl⟩
    rw [← e4] at s04 hp4 B4 ⊢
    clear e4
    -- its corners
    refine ⟨_, rfl, _, rfl, rp, m, xs, ws, mt, rfl, R0.same s04, ok, hM.e.same s04, mk.1.1, fun tc H5 s5 C5 => ?_⟩
    have hp5 := s5 _ _ hp4
    have s05 := s04.trans s5
    have B5 := SqB.same s5 B4
    refine ⟨_, rfl, p, CS, dx, _, rfl, hp5, TS.cl, TS.n3, (by show 2 < 1000; decide), ?_⟩
    have s06 := same_put (o := (.ins CS dx (putF "corners" (.ref tc) [("rims", .ref rp), ("mates", .ref tm)]))) s05 p0
    have hp6 : L2.upd H5 p (.ins CS dx (putF "corners" (.ref tc) [("rims", .ref rp), ("mates", .ref tm)])) p = some (.ins CS dx [("rims", .ref rp), ("mates", .ref tm), ("corners", .ref tc)]) := by rw [upd_same, ps3]
    have B6 := SqB.put (o := (.ins CS dx (putF "corners" (.ref tc) [("rims", .ref rp), ("mates", .ref tm)]))) B5 hp5
    have C6 := CornAt.put (o := (.ins CS dx (putF "corners" (.ref tc) [("rims", .ref rp), ("mates", .ref tm)]))) C5 hp5
    obtain ⟨H6, e6⟩ : ∃ H', H' = L2.upd H5 p (.ins CS dx (putF "corners" (.ref tc) [("rims", .ref rp), ("mates", .ref tm)])) := ⟨_, rfl⟩
    rw [← e6] at s06 hp6 B6 C6 ⊢
    clear e6
    -- its cost
    have C6' : CornAt K H6 tc (cornF ws mt) := C6
    obtain ⟨vc, c1, c2⟩ := id C6'
    have lvc : vc.length = (cornF ws mt).length := c2.length
    refine ⟨_, rfl, rp, CR, dr, _, _, rfl, s06 _ _ h1, TC.cl, TC.n4, rf_bands, _, rfl, p, CS, dx, _, _, rfl, hp6, TS.cl, TS.n3, ?_, tc, _, rfl, .inr c1.sq, _, _, rfl, rfl, ?_⟩
    · rw [lk_ne (by decide +kernel), lk_ne (by decide +kernel)]
      exact lk_eq
    have ec : ((ws.flatten.length / 2 : Nat) : Int) - ((vc.length : Nat) : Int) = costF ws mt := by
      unfold costF
      rw [lvc]
    try dsimp only
    rw [ec]
    refine ⟨_, rfl, p, CS, dx, _, rfl, hp6, TS.cl, TS.n4, (by show 3 < 1000; decide), ?_⟩
    have s07 := same_put (o := (.ins CS dx (putF "cost" (.int (costF ws mt)) [("rims", .ref rp), ("mates", .ref tm), ("corners", .ref tc)]))) s06 p0
    have hp7 : L2.upd H6 p (.ins CS dx (putF "cost" (.int (costF ws mt)) [("rims", .ref rp), ("mates", .ref tm), ("corners", .ref tc)])) p = some (.ins CS dx [("rims", .ref rp), ("mates", .ref tm), ("corners", .ref tc), ("cost", .int (costF ws mt))]) := by rw [upd_same, ps4]
    have B7 := SqB.put (o := (.ins CS dx (putF "cost" (.int (costF ws mt)) [("rims", .ref rp), ("mates", .ref tm), ("corners", .ref tc)]))) B6 hp6
    have C7 := CornAt.put (o := (.ins CS dx (putF "cost" (.int (costF ws mt)) [("rims", .ref rp), ("mates", .ref tm), ("corners", .ref tc)]))) C6' hp6
    obtain ⟨H7, e7⟩ : ∃ H', H' = L2.upd H6 p (.ins CS dx (putF "cost" (.int (costF ws mt)) [("rims", .ref rp), ("mates", .ref tm), ("corners", .ref tc)])) := ⟨_, rfl⟩
    rw [← e7] at s07 hp7 B7 C7 ⊢
    clear e7
    -- its pieces
    refine ⟨_, rfl, _, rfl, rp, m, xs, ws, mt, rfl, R0.same s07, ok, hM.e.same s07, mk.1.1, fun tp H8 s8 P8 => ?_⟩
    have hp8 := s8 _ _ hp7
    have s08 := s07.trans s8
    have B8 := SqB.same s8 B7
    have C8 := C7.same s8
    refine ⟨_, rfl, p, CS, dx, _, rfl, hp8, TS.cl, TS.n5, (by show 4 < 1000; decide), ?_⟩
    have s09 := same_put (o := (.ins CS dx (putF "pieces" (.ref tp) [("rims", .ref rp), ("mates", .ref tm), ("corners", .ref tc), ("cost", .int (costF ws mt))]))) s08 p0
    have hp9 : L2.upd H8 p (.ins CS dx (putF "pieces" (.ref tp) [("rims", .ref rp), ("mates", .ref tm), ("corners", .ref tc), ("cost", .int (costF ws mt))])) p = some (.ins CS dx [("rims", .ref rp), ("mates", .ref tm), ("corners", .ref tc), ("cost", .int (costF ws mt)), ("pieces", .ref tp)]) := by rw [upd_same, ps5]
    have B9 := SqB.put (o := (.ins CS dx (putF "pieces" (.ref tp) [("rims", .ref rp), ("mates", .ref tm), ("corners", .ref tc), ("cost", .int (costF ws mt))]))) B8 hp8
    have C9 := CornAt.put (o := (.ins CS dx (putF "pieces" (.ref tp) [("rims", .ref rp), ("mates", .ref tm), ("corners", .ref tc), ("cost", .int (costF ws mt))]))) C8 hp8
    have P9 := CornAt.put (o := (.ins CS dx (putF "pieces" (.ref tp) [("rims", .ref rp), ("mates", .ref tm), ("corners", .ref tc), ("cost", .int (costF ws mt))]))) P8 hp8
    obtain ⟨H9, e9⟩ : ∃ H', H' = L2.upd H8 p (.ins CS dx (putF "pieces" (.ref tp) [("rims", .ref rp), ("mates", .ref tm), ("corners", .ref tc), ("cost", .int (costF ws mt))])) := ⟨_, rfl⟩
    rw [← e9] at s09 hp9 B9 C9 P9 ⊢
    clear e9
    -- its handles
    obtain ⟨vp, q1, q2⟩ := id P9
    have lvp : vp.length = (pcF ws mt).length := q2.length
    have k5 : List.lookup ("pieces" : Str) ([("rims", .ref rp), ("mates", .ref tm), ("corners", .ref tc), ("cost", .int (costF ws mt)), ("pieces", .ref tp)] : List (Str × V)) = some (.ref tp) := by
      rw [lk_ne (by decide +kernel), lk_ne (by decide +kernel), lk_ne (by decide +kernel), lk_ne (by decide +kernel)]
      exact lk_eq
    have k4 : List.lookup ("cost" : Str) ([("rims", .ref rp), ("mates", .ref tm), ("corners", .ref tc), ("cost", .int (costF ws mt)), ("pieces", .ref tp)] : List (Str × V)) = some (.int (costF ws mt)) := by
      rw [lk_ne (by decide +kernel), lk_ne (by decide +kernel), lk_ne (by decide +kernel)]
      exact lk_eq
    refine ⟨_, rfl, p, CS, dx, _, _, rfl, hp9, TS.cl, TS.n5, k5, tp, _, rfl, .inr q1.sq, _, _, rfl, rfl, .inl ⟨by decide, by decide⟩, ?_⟩
    refine ⟨_, rfl, rp, CR, dr, _, _, rfl, s09 _ _ h1, TC.cl, TC.n1, rf_words, tw, _, rfl, .inr (SqB.same s09 h2).sq, _, _, rfl, rfl, ?_⟩
    refine ⟨_, rfl, p, CS, dx, _, _, rfl, hp9, TS.cl, TS.n4, k4, _, _, rfl, rfl, ?_⟩
    refine ⟨_, _, rfl, rfl, ⟨by decide, by decide⟩, ?_⟩
    have eg : (2 * ((vp.length : Nat) : Int) - (((xs.map V.ref).length : Nat) : Int) + costF ws mt) / 2 = handF ws mt := by
      unfold handF
      rw [lvp, List.length_map, lxw]
    try dsimp only
    rw [eg]
    refine ⟨_, rfl, p, CS, dx, _, rfl, hp9, TS.cl, TS.n6, (by show 5 < 1000; decide), ?_⟩
    have s10 := same_put (o := (.ins CS dx (putF "handles" (.int (handF ws mt)) [("rims", .ref rp), ("mates", .ref tm), ("corners", .ref tc), ("cost", .int (costF ws mt)), ("pieces", .ref tp)]))) s09 p0
    refine k _ s10 ⟨dx, tm, tc, tp, by rw [upd_same, ps6], R0.same s10, SqB.put B9 hp9, C9.put hp9, P9.put hp9⟩
end
end W16
set_option Elab.async false
set_option linter.all false
set_option maxRecDepth 100000
set_option maxHeartbeats 1000000
namespace W16
open PySem L2 PySem.Spec PyProof.Rows WR WB WE
/-! ### how many sewings -/
abbrev sMany : Stmt := top 63
def fct (n : Nat) : Nat := Builtin.Math.factorialNat n
theorem fct_small : ∀ n, n < 25 → fct n < 2 ^ 80 := by decide +kernel
def rFct : List V → Hp → VK → Prop := fun vs H Q => ∃ n : Nat, vs = [.int (n : Int)] ∧ n < 25 ∧ Q (.int ((fct n : Nat) : Int)) H
theorem cr_fct {X : Cx} : CallR X (.builtin "math.factorial") rFct := by
  intro pins s σ H vs us Q I r h
  obtain ⟨n, rfl, hn, q⟩ := h
  obtain ⟨u, rfl, ru⟩ := vals1 r
  obtain ⟨t, rfl⟩ := ru
  have big : fct n < 2 ^ 80 := fct_small n hn
  have lg : (((Builtin.Math.factorialNat ((n : Int)).toNat : Nat) : Int)).natAbs.log2 < bitsLine := by
    rw [Int.toNat_natCast, Int.natAbs_natCast]
    exact Nat.lt_of_lt_of_le (PySem.Flt.log2_lt_of (by decide) big) (by decide)
  refine PySem.W.mg_factorial (by unfold Builtin.Math.maxSsize; omega) (by omega) (by unfold Builtin.Math.manyFactors; omega) lg ?_
  rw [Int.toNat_natCast]
  exact ⟨.int _, H, I.tok _, ⟨_, rfl⟩, q⟩
theorem ip_mulW {X : Cx} : PIp X .Mult (fun x y H Q => ∃ i j, x = .int i ∧ y = .int j ∧ CMulW i j ∧ Q (.int (i * j)) H) := by
  intro pins s σ H x y v u Q I rx ry ⟨i, j, e1, e2, small, q⟩
  subst e1
  subst e2
  obtain ⟨t, rfl⟩ := rx
  obtain ⟨t', rfl⟩ := ry
  exact imul_int ⟨.int _, H, I.tok _, ⟨_, rfl⟩, q⟩ small.ok
/-- the kinds of letters, ascending -/
def kindsF (ls : List Int) : List Int := ((List.range 26).map fun (i : Nat) => (i : Int) + 1).filter fun k => decide (k ∈ ls ∨ -k ∈ ls)
theorem kinds_is {ls ks : List Int} (h : Lts ls) (hk : kindsOk ls ks) : ks = kindsF ls := by
  refine sorted_ext _ _ hk.1 ?_ ?_
  · refine List.Pairwise.filter _ ?_
    rw [List.pairwise_map]
    exact List.Pairwise.imp (fun {a b} h => by omega) List.pairwise_lt_range
  · intro x
    rw [hk.2]
    unfold kindsF
    rw [List.mem_filter, decide_eq_true_eq, List.mem_map]
    constructor
    · rintro ⟨y, hy, e⟩
      obtain ⟨a, b⟩ := h y hy
      refine ⟨⟨y.natAbs - 1, List.mem_range.mpr (by omega), by omega⟩, ?_⟩
      rcases Int.natAbs_eq y with z | z
      · exact .inl (by rw [e, ← z]; exact hy)
      · exact .inr (by rw [e, ← z]; exact hy)
    · rintro ⟨⟨i, _, e⟩, h | h⟩
      · exact ⟨x, h, by omega⟩
      · exact ⟨-x, h, by omega⟩
def manyF (ls : List Int) : Nat := ((kindsF ls).map fun k => fct (ls.count k)).foldl (· * ·) 1
def spMany (K : PySem.W.Frag) (C CR : Addr) : Sp := fun vs H Q _ => ∃ (p : Addr) (xs : List Addr) (ws : List (List Int)), vs = [.ref p] ∧ RimsAt K C CR H p xs ws ∧ RimOk ws ∧ ∀ H', Same H H' → Q (.int ((manyF ws.flatten : Nat) : Int)) H'
abbrev nMany : List Str := ["rims", "many", "kind"]
theorem foldl_snoc {f : Int → Nat} {ks : List Int} {i : Nat} {k : Int} (h : ks[i]? = some k) : ((ks.take (i + 1)).map f).foldl (· * ·) 1 = ((ks.take i).map f).foldl (· * ·) 1 * f k := by
  have hi := (List.getElem?_eq_some_iff.mp h).1
  have e : ks[i] = k := Option.some.inj ((List.getElem?_eq_getElem hi).symm.trans h)
  rw [List.take_succ_eq_append_getElem hi, List.map_append, List.foldl_append, e]
  rfl
section
variable {P : Program} {w : World} {K : PySem.W.Frag} {mg : Str → Option Value} {base : Heap} {C CR CS : Addr}
theorem scMany : FnScope nMany ["rims"] (defScope sMany) := ⟨rfl, rfl, rfl, by decide +kernel, rfl, by decide +kernel, by decide +kernel⟩
theorem ok_many {f : Addr} {fd : FuncData} (F : Fun K "many_sewings" "many_sewings" sMany f fd) (TC : TxRC K mg CR) (hfac : mg "factorial" = some (.builtin "math.factorial")) (GR : Cal P w K mg base "need_rims" 1 ["value", "part"] (spNeedR K C CR)) (GK : Cal P w K mg base "kinds_of" 1 ["letters"] (spKinds K)) :
    FnOk P w K mg base CX0 2 f fd ["rims"] (spMany K C CR) := by
  refine F.ok scMany (fun vs H Q E h => ?_) (fun cdv A outer s H vs Q E hr h => ?_)
  · obtain ⟨p, xs, ws, rfl, _⟩ := h
    rfl
  · obtain ⟨p, xs, ws, rfl, R1, ok, k⟩ := h
    refine ⟨_, pss_cons (ps_expr (pe_cal GR hr (by decide) (by rfl) (pa_cons (pv 0) (pa_cons pe_str pa_nil))))
      (pss_cons (ps_set (i := 1) scMany.nd rfl (Or.inl rfl) pe_int)
      (pss_cons (ps_for PassesOwn.never rfl (pi_tup (pe_cal GK hr (by decide) (by rfl) (pa_cons (pe_fld (pv 0) rfl) pa_nil))) (pg_name (i := 2) scMany.nd rfl (Or.inl rfl))
        (pss_one (ps_aug (i := 1) scMany.nd rfl (Or.inl rfl) (pe_callBfun cr_fct (by rfl) hfac (pa_cons (pe_mG (tyB_ok (K := K) rfl) PySem.F.plainAttrs_tuple PySem.F.slot_tuple_count PySem.F.type_tuple_count (mt_tcount (K := K) rfl) (pe_fld (pv 0) rfl) (pa_cons (pv 2) pa_nil)) pa_nil)) ip_mulW)))
      (pss_one (ps_ret (pv 1))))), ?_⟩
    obtain ⟨l1, l4, hne, l24, hl, hb⟩ := ok
    obtain ⟨dx, tw, tl, th, tn, h1, h2, h3, h4, h5, h6⟩ := id R1
    refine ⟨_, rfl, p, _, xs, ws, rfl, R1, ?_⟩
    refine ⟨_, rfl, p, CR, dx, _, _, rfl, h1, TC.cl, TC.n2, rf_letters, tl, ws.flatten, rfl, .inr h4.sq, by omega, hl, fun ks hk q H1 s1 T1 => ?_⟩
    have ek := kinds_is hl hk
    have lk : ks.length ≤ 26 := kinds_len hl hk
    refine ⟨q, rfl, ⟨_, T1⟩, ?_⟩
    refine for_it (walk_tup (K := K) (a := q) (xs := iv ks)) (fun i σ H' => ∃ (v2 : Option V), σ = [some (.ref p), some (.int ((((ks.take i).map fun k => fct (ws.flatten.count k)).foldl (· * ·) 1 : Nat) : Int)), v2] ∧ H1 = H' ∧ ((ks.take i).map fun k => fct (ws.flatten.count k)).foldl (· * ·) 1 < 2 ^ (80 * i + 1))
      ⟨none, rfl, rfl, by rw [List.take_zero]; show 1 < 2 ^ 1; decide⟩ (fun i σ H' _ ⟨_, _, e, _⟩ => e ▸ T1) ?_ ?_
    · rintro i x σ H2 H3 hi ⟨v2, rfl, rfl, lt⟩ ⟨rfl, hx⟩
      rw [List.length_map] at hi
      obtain rfl : x = V.int ks[i] := by
        rw [List.getElem?_map, List.getElem?_eq_getElem hi] at hx
        exact (Option.some.inj hx).symm
      have hc : ws.flatten.count ks[i] < 25 := by
        have := List.count_le_length (a := ks[i]) (l := ws.flatten)
        omega
      have f1 := fct_small _ hc
      refine ⟨_, rfl, _, rfl, p, CR, dx, _, _, rfl, s1 _ _ h1, TC.cl, TC.n2, rf_letters, ⟨tl, _, rfl, SqB.same s1 h4⟩, _, rfl, tl, ws.flatten, _, rfl, rfl, (SqB.same s1 h4).sq, _, rfl, hc, _, _, rfl, rfl, ?_, ?_⟩
      · exact wide_mul (a := 80 * i + 1) (b := 80) (by rw [Int.natAbs_natCast]; exact lt) (by rw [Int.natAbs_natCast]; exact f1) (by omega) (by omega) (by omega)
      · have e := foldl_snoc (f := fun k => fct (ws.flatten.count k)) (List.getElem?_eq_getElem hi)
        refine ⟨some (V.int ks[i]), ?_, rfl, ?_⟩
        · rw [e, Int.natCast_mul]
          rfl
        · rw [e, show 80 * (i + 1) + 1 = (80 * i + 1) + 80 by omega, Nat.pow_add]
          exact Nat.mul_lt_mul'' lt f1
    · rintro σ H2 ⟨v2, rfl, rfl, _⟩
      rw [List.length_map, List.take_length, ek]
      exact ⟨_, rfl, k _ s1⟩
end
end W16
set_option Elab.async false
set_option linter.all false
set_option maxRecDepth 100000
set_option maxHeartbeats 1000000
namespace W16
open PySem L2 PySem.Spec PyProof.Rows WR WB WE
/-! ### all ways to give mates -/
abbrev sFill : Stmt := top 30
def om : Option Nat → V
  | none => .non
  | some x => .int (x : Int)
def cN (m : List (Option Nat)) : Nat := m.countP Option.isNone
def fN (m : List (Option Nat)) : Nat := m.findIdx Option.isNone
def fillF (ps : List (List Nat)) : Nat → List (Option Nat) → List (List Nat)
  | 0, _ => []
  | d + 1, m => if m.any Option.isNone = true then
      ((ps.getD (fN m) []).map fun q => if (m.getD q (some 0)).isNone = true then fillF ps d ((m.set (fN m) (some q)).set q (some (fN m))) else []).flatten
    else [m.map (·.getD 0)]
/-- lists of numbers in a list, none of them at ff -/
def PartsAt (H : Hp) (ff a : Addr) (ps : List (List Nat)) : Prop := a ≠ ff ∧ ∃ vs, H a = some (.lst vs) ∧ All2 (fun v r => ∃ q, v = V.ref q ∧ q ≠ ff ∧ H q = some (.lst (iv (nats r)))) vs ps
theorem PartsAt.kept {H H' : Hp} {ff a : Addr} {ps : List (List Nat)} (h : PartsAt H ff a ps) (k : Kept ff H H') : PartsAt H' ff a ps := by
  obtain ⟨n, vs, h1, h2⟩ := h
  exact ⟨n, vs, k _ _ n h1, h2.imp fun _ _ ⟨q, e, nq, r⟩ => ⟨q, e, nq, k _ _ nq r⟩⟩
def RowsB (K : PySem.W.Frag) (H : Hp) (vs : List V) (rs : List (List Nat)) : Prop := All2 (fun v r => ∃ q, v = V.ref q ∧ SqB K H q (iv (nats r))) vs rs
theorem RowsB.keptL {K : PySem.W.Frag} {H H' : Hp} {ff : Addr} {us vs : List V} {rs : List (List Nat)} (hl : H ff = some (.lst us)) (k : Kept ff H H') (h : RowsB K H vs rs) : RowsB K H' vs rs :=
  h.imp fun _ _ ⟨q, e, r⟩ => ⟨q, e, SqB.keptL hl k r⟩
structure PartOk (ps : List (List Nat)) : Prop where
  len : ps.length ≤ 40
  row : ∀ r ∈ ps, r.length ≤ 40
  rng : ∀ r ∈ ps, ∀ q ∈ r, q < ps.length
def spFill (K : PySem.W.Frag) (d : Nat) : Sp := fun vs H Q _ => ∃ (a mm ff : Addr) (ps : List (List Nat)) (m : List (Option Nat)) (fs : List V), vs = [.ref a, .ref mm, .ref ff] ∧ PartsAt H ff a ps ∧ PartOk ps ∧ mm ≠ ff ∧ H mm = some (.lst (m.map om)) ∧ m.length = ps.length ∧ cN m ≤ d ∧
  H ff = some (.lst fs) ∧ fs.length + (fillF ps (d + 1) m).length ≤ 10000 ∧ ∀ H' new, Kept ff H H' → H' ff = some (.lst (fs ++ new)) → RowsB K H' new (fillF ps (d + 1) m) → Q .non H'
abbrev nFill : List Str := ["partners", "mates", "found", "place", "mate", "more"]
theorem om_flat (o : Option Nat) : flatV (om o) = true := by cases o <;> rfl
theorem oms_flat (m : List (Option Nat)) : (m.map om).all flatV = true := by
  rw [List.all_eq_true]
  intro v hv
  obtain ⟨o, _, rfl⟩ := List.mem_map.mp hv
  exact om_flat o
theorem om_eq (o : Option Nat) : eqV (om o) .non = o.isNone := by cases o <;> rfl
theorem in_none (m : List (Option Nat)) : inV .non (m.map om) = m.any Option.isNone := by
  unfold inV
  rw [List.any_map]
  congr 1
  funext o
  exact om_eq o
theorem om_at {m : List (Option Nat)} {i : Nat} (h : i < m.length) : atI (m.map om) ((i : Nat) : Int) = some (om (m.getD i (some 0))) := by
  refine atI_nat ?_
  rw [List.getElem?_map, List.getElem?_eq_getElem h, List.getD_eq_getElem?_getD, List.getElem?_eq_getElem h]
  rfl
theorem om_set {m : List (Option Nat)} {i x : Nat} : (m.map om).set i (V.int (x : Int)) = (m.set i (some x)).map om := by
  rw [List.map_set]
  rfl
theorem no_none {m : List (Option Nat)} (h : m.any Option.isNone = false) : m.map om = iv (nats (m.map (·.getD 0))) := by
  unfold iv nats
  rw [List.map_map, List.map_map]
  refine List.map_congr_left fun o ho => ?_
  cases o with
  | some x => rfl
  | none =>
    rw [List.any_eq_false] at h
    exact absurd rfl (h none ho)
theorem fN_lt {m : List (Option Nat)} (h : m.any Option.isNone = true) : fN m < m.length := by
  unfold fN
  rw [List.findIdx_lt_length]
  obtain ⟨x, hx, e⟩ := List.any_eq_true.mp h
  exact ⟨x, hx, e⟩
theorem fN_at {m : List (Option Nat)} (h : m.any Option.isNone = true) : m[fN m]? = some none := by
  have l := fN_lt h
  have e : (m[fN m]).isNone = true := List.findIdx_getElem (w := l)
  rw [List.getElem?_eq_getElem l]
  cases z : m[fN m] with
  | none => rfl
  | some x => rw [z] at e; cases e
theorem fN_not {m : List (Option Nat)} {j : Nat} {o : Option Nat} (hj : j < fN m) (h : m[j]? = some o) : o.isNone = false := by
  have hl := (List.getElem?_eq_some_iff.mp h).1
  have e := List.not_of_lt_findIdx (p := Option.isNone) (xs := m) hj
  obtain ⟨_, e2⟩ := List.getElem?_eq_some_iff.mp h
  rw [e2] at e
  cases o with
  | none => simp at e
  | some x => rfl
theorem cN_set {m : List (Option Nat)} {i x : Nat} : cN (m.set i (some x)) ≤ cN m := by
  unfold cN
  induction m generalizing i with
  | nil => exact Nat.le_refl _
  | cons a t ih =>
    cases i with
    | zero =>
      rw [List.set_cons_zero, List.countP_cons, List.countP_cons]
      show t.countP Option.isNone + 0 ≤ _
      omega
    | succ i =>
      rw [List.set_cons_succ, List.countP_cons, List.countP_cons]
      have := ih (i := i)
      omega
theorem cN_none {m : List (Option Nat)} {i x : Nat} (h : m[i]? = some none) : cN (m.set i (some x)) + 1 = cN m := by
  unfold cN
  induction m generalizing i with
  | nil => cases h
  | cons a t ih =>
    cases i with
    | zero =>
      obtain rfl : a = none := Option.some.inj h
      rw [List.set_cons_zero, List.countP_cons, List.countP_cons]
      show t.countP Option.isNone + 0 + 1 = t.countP Option.isNone + 1
      omega
    | succ i =>
      rw [List.set_cons_succ, List.countP_cons, List.countP_cons]
      have := ih (i := i) h
      omega
/-- what comes of one mate -/
def fillG (ps : List (List Nat)) (d : Nat) (m : List (Option Nat)) (q : Nat) : List (List Nat) := if (m.getD q (some 0)).isNone = true then fillF ps d ((m.set (fN m) (some q)).set q (some (fN m))) else []
theorem fill_yes {ps : List (List Nat)} {d : Nat} {m : List (Option Nat)} (h : m.any Option.isNone = true) : fillF ps (d + 1) m = ((ps.getD (fN m) []).map (fillG ps d m)).flatten := by
  conv => lhs; unfold fillF
  rw [if_pos h]
  rfl
theorem fill_no {ps : List (List Nat)} {d : Nat} {m : List (Option Nat)} (h : m.any Option.isNone = false) : fillF ps (d + 1) m = [m.map (·.getD 0)] := by
  unfold fillF
  rw [if_neg (by rw [h]; decide)]
section
variable {P : Program} {w : World} {K : PySem.W.Frag} {mg : Str → Option Value} {base : Heap} {C CR CS : Addr}
theorem scFill : FnScope nFill ["partners", "mates", "found"] (defScope sFill) := ⟨rfl, rfl, rfl, by decide +kernel, rfl, by decide +kernel, by decide +kernel⟩
theorem ok_fill {f : Addr} {fd : FuncData} (F : Fun K "fill_mates" "fill_mates" sFill f fd) (TA : TxA mg) (hlist : mg "list" = none) (hmg : mg "fill_mates" = some (.ref f)) (hb : Binds K fd ["partners", "mates", "found"] []) :
    ∀ d, FnOk P w K mg base CX0 (d + 1) f fd ["partners", "mates", "found"] (spFill K d) := by
  intro d
  induction d with
  | zero =>
    refine F.ok scFill (fun vs H Q E h => ?_) (fun cdv A outer s H vs Q E hr h => ?_)
    · obtain ⟨a, mm, ff, ps, m, fs, rfl, _⟩ := h
      rfl
    · obtain ⟨a, mm, ff, ps, m, fs, rfl, hP, pok, nm, hm, lm, hc, hF, sz, k⟩ := h
      have hno : m.any Option.isNone = false := by
        rw [List.any_eq_false]
        intro o ho z
        have : 0 < cN m := List.countP_pos_iff.mpr ⟨o, ho, z⟩
        omega
      refine ⟨_, pss_cons (ps_if (pt_cmpR op_notIn_seq pe_non (pv 1) (by rfl)) (pss_cons (ps_expr (pe_bm PySem.F.plainAttrs_list PySem.F.slot_list_append PySem.F.type_list_append mt_append (pv 2) (pa_cons (pe_callTy call_tupB (by rfl) TA.tuple (by decide +kernel) (pa_cons (pv 1) pa_nil)) pa_nil))) (pss_one ps_retN)) pss_nil)
        (pss_cons ps_never (pss_one ps_never)), ?_⟩
      refine ⟨_, rfl, mm, _, rfl, .inl (SqL.of hm), rfl, oms_flat m, _, rfl, ?_⟩
      refine iteT' (by rw [in_none, hno]; rfl) ?_
      refine ⟨_, rfl, .inl ⟨rfl, _, SqL.of hF⟩, _, rfl, mm, _, rfl, .inl ⟨SqL.of hm, fun q H1 s1 B1 => ?_⟩⟩
      have hF1 := s1 _ _ hF
      refine ⟨ff, _, _, rfl, rfl, hF1, Evl.sz_lt (by omega), ?_⟩
      have kf : Kept ff H1 (L2.upd H1 ff (.lst (fs ++ [.ref q]))) := Kept.upd
      refine k _ [.ref q] (fun b o nb e => kf _ _ nb (s1 _ _ e)) upd_same ?_
      rw [fill_no hno]
      rw [no_none hno] at B1
      exact .cons ⟨q, rfl, SqB.keptL hF1 kf B1⟩ .nil
  | succ d ih =>
    have GF : Cal P w K mg base "fill_mates" (d + 1) ["partners", "mates", "found"] (spFill K d) := ⟨f, fd, ih, hmg, F.kp, hb⟩
    refine F.ok scFill (fun vs H Q E h => ?_) (fun cdv A outer s H vs Q E hr h => ?_)
    · obtain ⟨a, mm, ff, ps, m, fs, rfl, _⟩ := h
      rfl
    · obtain ⟨a, mm, ff, ps, m, fs, rfl, hP, pok, nm, hm, lm, hc, hF, sz, k⟩ := h
      refine ⟨_, pss_cons (ps_if (pt_cmpR op_notIn_seq pe_non (pv 1) (by rfl)) (pss_cons (ps_expr (pe_bm PySem.F.plainAttrs_list PySem.F.slot_list_append PySem.F.type_list_append mt_append (pv 2) (pa_cons (pe_callTy call_tupB (by rfl) TA.tuple (by decide +kernel) (pa_cons (pv 1) pa_nil)) pa_nil))) (pss_one ps_retN)) pss_nil)
        (pss_cons (ps_set (i := 3) scFill.nd rfl (Or.inl rfl) (pe_bm PySem.F.plainAttrs_list PySem.F.slot_list_index PySem.F.type_list_index mt_index (pv 1) (pa_cons pe_non pa_nil)))
        (pss_one (ps_for PassesOwn.never rfl (pi_list (pe_ix ix_list (pv 0) (pv 3) (fun _ _ => rfl))) (pg_name (i := 4) scFill.nd rfl (Or.inl rfl))
          (pss_one (ps_if (pt_cmpR op_isN (pe_ix ix_list (pv 1) (pv 4) (fun _ _ => rfl)) pe_non (nomark _))
            (pss_cons (ps_set (i := 5) scFill.nd rfl (Or.inl rfl) (pe_callTy call_list_of (by rfl) hlist (by decide +kernel) (pa_cons (pv 1) pa_nil)))
            (pss_cons (ps_asg (pe_tup (pa_cons (pv 4) (pa_cons (pv 3) pa_nil))) (pg_tup (n := 2) rfl (pgs_cons (pg_sub (pv 5) (pv 3) set_list) (pgs_cons (pg_sub (pv 5) (pv 4) set_list) pgs_nil))))
            (pss_one (ps_expr (pe_cal GF hr (Nat.le_refl _) (by rfl) (pa_cons (pv 0) (pa_cons (pv 5) (pa_cons (pv 2) pa_nil)))))))) pss_nil))))), ?_⟩
      refine ⟨_, rfl, mm, _, rfl, .inl (SqL.of hm), rfl, oms_flat m, _, rfl, ?_⟩
      by_cases hno : m.any Option.isNone = false
      · refine iteT' (by rw [in_none, hno]; rfl) ?_
        refine ⟨_, rfl, .inl ⟨rfl, _, SqL.of hF⟩, _, rfl, mm, _, rfl, .inl ⟨SqL.of hm, fun q H1 s1 B1 => ?_⟩⟩
        have hF1 := s1 _ _ hF
        refine ⟨ff, _, _, rfl, rfl, hF1, Evl.sz_lt (by omega), ?_⟩
        have kf : Kept ff H1 (L2.upd H1 ff (.lst (fs ++ [.ref q]))) := Kept.upd
        refine k _ [.ref q] (fun b o nb e => kf _ _ nb (s1 _ _ e)) upd_same ?_
        rw [fill_no hno]
        rw [no_none hno] at B1
        exact .cons ⟨q, rfl, SqB.keptL hF1 kf B1⟩ .nil
      · have hyes : m.any Option.isNone = true := by
          cases z : m.any Option.isNone with
          | true => rfl
          | false => exact absurd z hno
        refine iteF' (by rw [in_none, hyes]; rfl) ?_
        have hl := fN_lt hyes
        refine ⟨_, rfl, .inl ⟨rfl, _, SqL.of hm⟩, mm, _, .non, fN m, .non, rfl, rfl, SqL.of hm, rfl, oms_flat m, (by rw [List.getElem?_map, fN_at hyes]; rfl), rfl, ?_, ?_⟩
        · intro j z' hj hz
          rw [List.getElem?_map] at hz
          cases e : m[j]? with
          | none => rw [e] at hz; cases hz
          | some o =>
            rw [e] at hz
            obtain rfl : om o = z' := Option.some.inj hz
            rw [om_eq]
            exact fN_not hj e
        refine at_set ?_
        try dsimp only
        obtain ⟨na, vs, hA, hR⟩ := id hP
        have lvs := hR.length
        have hpl : fN m < ps.length := by omega
        have hvl : fN m < vs.length := by omega
        obtain ⟨row, hrow, q0, eq0, nq0, hq0⟩ := hR.at (List.getElem?_eq_getElem hvl)
        have erow : ps.getD (fN m) [] = row := by rw [List.getD_eq_getElem?_getD, hrow]; rfl
        have mrow : row ∈ ps := List.mem_of_getElem? hrow
        refine ⟨_, rfl, _, rfl, a, _, _, _, rfl, rfl, SqL.of hA, atI_nat (by rw [List.getElem?_eq_getElem hvl, eq0]), ?_⟩
        refine ⟨q0, rfl, ⟨_, SqL.of hq0⟩, ?_⟩
        have efl : fillF ps (d + 1 + 1) m = (row.map (fillG ps (d + 1) m)).flatten := by rw [fill_yes hyes, erow]
        rw [efl] at sz k
        have part : ∀ i, i ≤ row.length → ((row.take i).map (fillG ps (d + 1) m)).flatten.length ≤ (row.map (fillG ps (d + 1) m)).flatten.length := by
          intro i hi
          conv => rhs; rw [← List.take_append_drop i row, List.map_append, List.flatten_append, List.length_append]
          omega
        refine for_it (walk_list (K := K) (a := q0) (xs := iv (nats row))) (fun i σ H' => ∃ (v4 v5 : Option V) (new : List V), σ = [some (.ref a), some (.ref mm), some (.ref ff), some (.int ((fN m : Nat) : Int)), v4, v5] ∧ Kept ff H H' ∧ H' ff = some (.lst (fs ++ new)) ∧ RowsB K H' new (((row.take i).map (fillG ps (d + 1) m)).flatten))
          ⟨none, none, [], rfl, Kept.refl, by rw [List.append_nil]; exact hF, .nil⟩ (fun i σ H' _ ⟨_, _, _, _, kp, _⟩ => SqL.of (kp _ _ nq0 hq0)) ?_ ?_
        · rintro i x σ H2 H3 hi ⟨v4, v5, new, rfl, kp, hF2, hB2⟩ ⟨rfl, hx⟩
          rw [nats_len] at hi
          obtain rfl : x = V.int ((row[i] : Nat) : Int) := by
            unfold nats at hx
            rw [List.getElem?_map, List.getElem?_map, List.getElem?_eq_getElem hi] at hx
            exact (Option.some.inj hx).symm
          obtain ⟨q, eq⟩ : ∃ q, q = row[i] := ⟨_, rfl⟩
          rw [← eq]
          have hql : q < ps.length := pok.rng row mrow q (eq ▸ List.getElem_mem hi)
          have etk : ((row.take (i + 1)).map (fillG ps (d + 1) m)).flatten = ((row.take i).map (fillG ps (d + 1) m)).flatten ++ fillG ps (d + 1) m q := by
            rw [List.take_succ_eq_append_getElem hi, List.map_append, List.flatten_append, eq]
            simp
          have hm3 := kp _ _ nm hm
          have szi := part (i + 1) (by omega)
          rw [etk, List.length_append] at szi
          have lnew : new.length = ((row.take i).map (fillG ps (d + 1) m)).flatten.length := hB2.length
          refine ⟨_, rfl, _, rfl, mm, _, _, _, rfl, rfl, SqL.of hm3, om_at (by omega), rfl, _, rfl, ?_⟩
          by_cases hn : (m.getD q (some 0)).isNone = true
          · have egn : m.getD q (some 0) = none := by
              cases z : m.getD q (some 0) with
              | none => rfl
              | some y => rw [z] at hn; cases hn
            refine iteT' (by rw [egn]; rfl) ?_
            have eG : fillG ps (d + 1) m q = fillF ps (d + 1) ((m.set (fN m) (some q)).set q (some (fN m))) := by
              unfold fillG
              rw [if_pos hn]
            rw [eG] at etk szi
            refine ⟨_, rfl, mm, _, rfl, .inl (SqL.of hm3), fun mo hmo => ?_⟩
            obtain ⟨H4, e4⟩ : ∃ H4, H4 = L2.upd H3 mo (.lst (m.map om)) := ⟨_, rfl⟩
            rw [← e4]
            have hmo4 : H4 mo = some (.lst (m.map om)) := by rw [e4, upd_same]
            have s34 : Same H3 H4 := by rw [e4]; exact same_upd hmo
            have nmo : mo ≠ ff := (ne_of_none hF2 hmo).symm
            refine ⟨_, rfl, _, rfl, by show 2 ≤ sizeLine; decide, fun t ht => ?_⟩
            have s45 := same_upd (o := .tup [.int (q : Int), .int ((fN m : Nat) : Int)]) ht
            refine ⟨t, _, rfl, SqT.of upd_same, rfl, _, _, rfl, _, rfl, _, rfl, mo, _, _, fN m, rfl, rfl, s45 _ _ hmo4, by rw [List.length_map]; exact ixN_nat (by omega), ?_⟩
            rw [om_set]
            refine ⟨_, _, rfl, _, rfl, _, rfl, mo, _, _, q, rfl, rfl, upd_same, by rw [List.length_map, List.length_set]; exact ixN_nat (by omega), rfl, ?_⟩
            rw [om_set]
            have s36 := same_put (o := .lst (((m.set (fN m) (some q)).set q (some (fN m))).map om)) (same_put (o := .lst ((m.set (fN m) (some q)).map om)) (s34.trans s45) hmo) hmo
            have hmo6 : L2.upd (L2.upd (L2.upd H4 t (.tup [.int (q : Int), .int ((fN m : Nat) : Int)])) mo (.lst ((m.set (fN m) (some q)).map om))) mo (.lst (((m.set (fN m) (some q)).set q (some (fN m))).map om)) mo = some (.lst (((m.set (fN m) (some q)).set q (some (fN m))).map om)) := upd_same
            obtain ⟨H6, e6⟩ : ∃ H6, H6 = L2.upd (L2.upd (L2.upd H4 t (.tup [.int (q : Int), .int ((fN m : Nat) : Int)])) mo (.lst ((m.set (fN m) (some q)).map om))) mo (.lst (((m.set (fN m) (some q)).set q (some (fN m))).map om)) := ⟨_, rfl⟩
            rw [← e6] at s36 hmo6 ⊢
            have k6 : Kept ff H H6 := fun b o nb e => s36 _ _ (kp _ _ nb e)
            have hF6 := s36 _ _ hF2
            have hc6 : cN ((m.set (fN m) (some q)).set q (some (fN m))) ≤ d := by
              have c1 := cN_set (m := m.set (fN m) (some q)) (i := q) (x := fN m)
              have c2 := cN_none (x := q) (fN_at hyes)
              omega
            refine ⟨_, rfl, _, rfl, _, rfl, a, mo, ff, ps, (m.set (fN m) (some q)).set q (some (fN m)), fs ++ new, rfl, hP.kept k6, pok, nmo, hmo6, by rw [List.length_set, List.length_set]; exact lm, hc6, hF6, by rw [List.length_append]; omega, fun H7 new2 k7 hF7 hB7 => ?_⟩
            refine ⟨_, _, new ++ new2, rfl, k6.trans k7, by rw [hF7, List.append_assoc], ?_⟩
            rw [etk]
            exact All2.app (RowsB.keptL hF6 k7 (hB2.imp fun _ _ ⟨q, e, r⟩ => ⟨q, e, SqB.same s36 r⟩)) hB7
          · have hn' : (m.getD q (some 0)).isNone = false := by
              cases z : (m.getD q (some 0)).isNone with
              | false => rfl
              | true => exact absurd z hn
            have eG : fillG ps (d + 1) m q = [] := by
              unfold fillG
              rw [if_neg hn]
            refine iteF' ?_ ?_
            · cases z : m.getD q (some 0) with
              | none => rw [z] at hn; exact absurd rfl hn
              | some y => rfl
            refine ⟨_, _, new, rfl, kp, hF2, ?_⟩
            rw [etk, eG, List.append_nil]
            exact hB2
        · rintro σ H2 ⟨v4, v5, new, rfl, kp, hF2, hB2⟩
          rw [nats_len, List.take_length] at hB2
          exact k _ new kp hF2 hB2
end
end W16
set_option Elab.async false
set_option linter.all false
set_option maxRecDepth 100000
set_option maxHeartbeats 1000000
namespace W16
open PySem L2 PySem.Spec PyProof.Rows WR WB WE
/-! ### the mates that are found are mates -/
def prtF (ls : List Int) : List (List Nat) := ls.map fun l => (List.range ls.length).filter fun j => decide (ls.getD j 0 = -l)
def matesF (ps : List (List Nat)) : List (List Nat) := fillF ps 25 (List.replicate ps.length none)
/-- so far each mate is the mate of its own, with the contrary letter -/
def MtOk (ls : List Int) (m : List (Option Nat)) : Prop := m.length = ls.length ∧ ∀ i x, m[i]? = some (some x) → x < ls.length ∧ x ≠ i ∧ m[x]? = some (some i) ∧ ls.getD x 0 = -ls.getD i 0
theorem prt_at {ls : List Int} {p q : Nat} (hp : p < ls.length) (h : q ∈ (prtF ls).getD p []) : q < ls.length ∧ ls.getD q 0 = -ls.getD p 0 := by
  unfold prtF at h
  rw [List.getD_eq_getElem?_getD, List.getElem?_map, List.getElem?_eq_getElem hp] at h
  have h : q ∈ (List.range ls.length).filter fun j => decide (ls.getD j 0 = -ls[p]) := h
  rw [List.mem_filter, List.mem_range, decide_eq_true_eq] at h
  refine ⟨h.1, ?_⟩
  rw [h.2]
  congr 1
  rw [List.getD_eq_getElem?_getD, List.getElem?_eq_getElem hp]
  rfl
theorem getD_ne {ls : List Int} (h : Lts ls) {i : Nat} (hi : i < ls.length) : ls.getD i 0 ≠ 0 := by
  rw [List.getD_eq_getElem?_getD, List.getElem?_eq_getElem hi]
  have := (h _ (List.getElem_mem hi)).1
  show ls[i] ≠ 0
  omega
theorem set2_at {m : List (Option Nat)} {p q : Nat} (hp : p < m.length) (hq : q < m.length) (n : q ≠ p) (i : Nat) : ((m.set p (some q)).set q (some p))[i]? = if i = q then some (some p) else if i = p then some (some q) else m[i]? := by
  rw [List.getElem?_set, List.length_set, List.getElem?_set]
  by_cases e : q = i
  · subst e
    rw [if_pos rfl, if_pos hq, if_pos rfl]
  · have e1 : ¬ i = q := fun z => e z.symm
    rw [if_neg e, if_neg e1]
    by_cases e2 : p = i
    · subst e2
      rw [if_pos rfl, if_pos hp, if_pos rfl]
    · have e3 : ¬ i = p := fun z => e2 z.symm
      rw [if_neg e2, if_neg e3]
theorem MtOk.step {ls : List Int} {m : List (Option Nat)} (hl : Lts ls) (h : MtOk ls m) {p q : Nat} (hp : m[p]? = some none) (hq : m[q]? = some none) (hc : ls.getD q 0 = -ls.getD p 0) : MtOk ls ((m.set p (some q)).set q (some p)) := by
  have lp := (List.getElem?_eq_some_iff.mp hp).1
  have lq := (List.getElem?_eq_some_iff.mp hq).1
  have nqp : q ≠ p := fun z => by
    have := getD_ne hl (i := p) (by rw [← h.1]; exact lp)
    rw [z] at hc
    omega
  refine ⟨by rw [List.length_set, List.length_set]; exact h.1, fun i x hx => ?_⟩
  rw [set2_at lp lq nqp] at hx
  by_cases e1 : i = q
  · rw [if_pos e1] at hx
    obtain rfl : p = x := by injection hx with z; injection z
    refine ⟨by rw [← h.1]; exact lp, fun z => nqp (by rw [← e1, ← z]), ?_, by rw [e1, hc]; omega⟩
    rw [set2_at lp lq nqp, if_neg (fun z => nqp z.symm), if_pos rfl, e1]
  · rw [if_neg e1] at hx
    by_cases e2 : i = p
    · rw [if_pos e2] at hx
      obtain rfl : q = x := by injection hx with z; injection z
      refine ⟨by rw [← h.1]; exact lq, fun z => nqp (z.trans e2), ?_, by rw [e2, hc]⟩
      rw [set2_at lp lq nqp, if_pos rfl, e2]
    · rw [if_neg e2] at hx
      obtain ⟨a, b, c, d⟩ := h.2 i x hx
      refine ⟨a, b, ?_, d⟩
      have n1 : x ≠ q := fun z => by rw [z, hq] at c; cases c
      have n2 : x ≠ p := fun z => by rw [z, hp] at c; cases c
      rw [set2_at lp lq nqp, if_neg n1, if_neg n2]
      exact c
theorem MtOk.done {ls : List Int} {m : List (Option Nat)} (h : MtOk ls m) (no : m.any Option.isNone = false) : MatOk ls (nats (m.map (·.getD 0))) := by
  have get : ∀ i (hi : i < m.length), ∃ x, m[i]? = some (some x) ∧ (nats (m.map (·.getD 0)))[i]? = some ((x : Nat) : Int) := by
    intro i hi
    rw [List.any_eq_false] at no
    cases z : m[i] with
    | none => exact absurd (by rw [z]; rfl) (no _ (List.getElem_mem hi))
    | some x =>
      refine ⟨x, by rw [List.getElem?_eq_getElem hi, z], ?_⟩
      unfold nats
      rw [List.getElem?_map, List.getElem?_map, List.getElem?_eq_getElem hi, z]
      rfl
  have len : (nats (m.map (·.getD 0))).length = m.length := by
    unfold nats
    rw [List.length_map, List.length_map]
  have at_ : ∀ i (hi : i < (nats (m.map (·.getD 0))).length), ∃ x, m[i]? = some (some x) ∧ (nats (m.map (·.getD 0)))[i] = ((x : Nat) : Int) := by
    intro i hi
    obtain ⟨x, e1, e2⟩ := get i (by rw [← len]; exact hi)
    rw [List.getElem?_eq_getElem hi] at e2
    exact ⟨x, e1, Option.some.inj e2⟩
  refine ⟨⟨⟨by rw [len, h.1], fun z hz => ?_⟩, fun i hi => ?_⟩, fun i hi => ?_⟩
  · obtain ⟨i, hi, rfl⟩ := List.getElem_of_mem hz
    obtain ⟨x, e1, e2⟩ := at_ i hi
    have := (h.2 i x e1).1
    omega
  · obtain ⟨x, e1, e2⟩ := at_ i hi
    obtain ⟨a, b, c, d⟩ := h.2 i x e1
    rw [e2, Int.toNat_natCast]
    refine ⟨by omega, ?_⟩
    obtain ⟨y, f1, f2⟩ := get x (by rw [h.1]; exact a)
    rw [c] at f1
    injection f1 with f1
    injection f1 with f1
    rw [f2, ← f1]
  · obtain ⟨x, e1, e2⟩ := at_ i hi
    rw [e2, Int.toNat_natCast]
    exact (h.2 i x e1).2.2.2
theorem getD_none {m : List (Option Nat)} {q : Nat} (h : (m.getD q (some 0)).isNone = true) : m[q]? = some none := by
  rw [List.getD_eq_getElem?_getD] at h
  cases e : m[q]? with
  | none => rw [e] at h; cases h
  | some o =>
    rw [e] at h
    cases o with
    | none => rfl
    | some x => cases h
theorem fill_ok {ls : List Int} (hl : Lts ls) : ∀ (d : Nat) (m : List (Option Nat)), MtOk ls m → ∀ r ∈ fillF (prtF ls) d m, MatOk ls (nats r)
  | 0, m, _, r, hr => nomatch hr
  | d + 1, m, h, r, hr => by
    by_cases no : m.any Option.isNone = true
    · rw [fill_yes no, List.mem_flatten] at hr
      obtain ⟨l, hl1, hr⟩ := hr
      obtain ⟨q, hq, rfl⟩ := List.mem_map.mp hl1
      unfold fillG at hr
      split at hr
      · rename_i hn
        have lp := fN_lt no
        obtain ⟨a, b⟩ := prt_at (by rw [← h.1]; exact lp) hq
        exact fill_ok hl d _ (h.step hl (fN_at no) (getD_none hn) b) r hr
      · cases hr
    · have no' : m.any Option.isNone = false := by
        cases z : m.any Option.isNone with
        | false => rfl
        | true => exact absurd z no
      rw [fill_no no', List.mem_singleton] at hr
      rw [hr]
      exact h.done no'
theorem prt_len (ls : List Int) : (prtF ls).length = ls.length := by
  unfold prtF
  rw [List.length_map]
theorem mates_ok {ls : List Int} (hl : Lts ls) {r : List Nat} (h : r ∈ matesF (prtF ls)) : MatOk ls (nats r) := by
  refine fill_ok hl 25 _ ⟨by rw [List.length_replicate, prt_len], fun i x hx => ?_⟩ r h
  rw [List.getElem?_replicate] at hx
  split at hx
  · injection hx with z; cases z
  · cases hx
theorem prt_ok {ls : List Int} (h : ls.length ≤ 24) : PartOk (prtF ls) := by
  refine ⟨by rw [prt_len]; omega, fun r hr => ?_, fun r hr q hq => ?_⟩
  · unfold prtF at hr
    obtain ⟨l, _, rfl⟩ := List.mem_map.mp hr
    have := List.length_filter_le (fun j => decide (ls.getD j 0 = -l)) (List.range ls.length)
    rw [List.length_range] at this
    omega
  · unfold prtF at hr
    obtain ⟨l, _, rfl⟩ := List.mem_map.mp hr
    rw [List.mem_filter, List.mem_range] at hq
    rw [prt_len]
    exact hq.1
abbrev sAllM : Stmt := top 31
def spAllM (K : PySem.W.Frag) : Sp := fun vs H Q _ => ∃ (a : Addr) (us : List V) (ps : List (List Nat)), vs = [.ref a] ∧ H a = some (.lst us) ∧ All2 (fun v r => ∃ q, v = V.ref q ∧ H q = some (.lst (iv (nats r)))) us ps ∧ PartOk ps ∧ ps.length ≤ 24 ∧ (matesF ps).length ≤ 10000 ∧
  ∀ p H' new, H p = none → Same H H' → H' p = some (.lst new) → RowsB K H' new (matesF ps) → Q (.ref p) H'
abbrev nAllM : List Str := ["partners", "found"]
section
variable {P : Program} {w : World} {K : PySem.W.Frag} {mg : Str → Option Value} {base : Heap} {C CR CS : Addr}
theorem scAllM : FnScope nAllM ["partners"] (defScope sAllM) := ⟨rfl, rfl, rfl, by decide +kernel, rfl, by decide +kernel, by decide +kernel⟩
theorem ok_allM {f : Addr} {fd : FuncData} (F : Fun K "all_mates" "all_mates" sAllM f fd) (TA : TxA mg) (GF : Cal P w K mg base "fill_mates" 25 ["partners", "mates", "found"] (spFill K 24)) : FnOk P w K mg base CX0 26 f fd ["partners"] (spAllM K) := by
  refine F.ok scAllM (fun vs H Q E h => ?_) (fun cdv A outer s H vs Q E hr h => ?_)
  · obtain ⟨a, us, ps, rfl, _⟩ := h
    rfl
  · obtain ⟨a, us, ps, rfl, hA, hR, pok, l24, sz, k⟩ := h
    refine ⟨_, pss_cons (ps_set (i := 1) scAllM.nd rfl (Or.inl rfl) (pe_lst pa_nil))
      (pss_cons (ps_expr (pe_cal GF hr (by decide) (by rfl) (pa_cons (pv 0) (pa_cons (pe_op op_rep (pe_lst (pa_cons pe_non pa_nil)) (pe_callB call_len_seq (by rfl) TA.len PySem.boot_len (pa_cons (pv 0) pa_nil))) (pa_cons (pv 1) pa_nil)))))
      (pss_one (ps_ret (pv 1)))), ?_⟩
    have lup := hR.length
    refine ⟨Nat.zero_le _, fun ff hff => ?_⟩
    have s1 := same_upd (o := .lst []) hff
    obtain ⟨H1, e1⟩ : ∃ H1, H1 = L2.upd H ff (.lst []) := ⟨_, rfl⟩
    have hF1 : H1 ff = some (.lst []) := by rw [e1, upd_same]
    rw [← e1] at s1 ⊢
    refine ⟨_, rfl, by show 1 ≤ sizeLine; decide, fun l1 h1 => ?_⟩
    have s2 := same_upd (o := .lst [.non]) h1
    obtain ⟨H2, e2⟩ : ∃ H2, H2 = L2.upd H1 l1 (.lst [.non]) := ⟨_, rfl⟩
    have hL2 : H2 l1 = some (.lst [.non]) := by rw [e2, upd_same]
    rw [← e2] at s2 ⊢
    have s02 := s1.trans s2
    refine ⟨_, rfl, a, us, rfl, .inl (SqL.of (s02 _ _ hA)), l1, _, _, rfl, rfl, hL2, by omega, by omega, ?_, fun l2 h2 => ?_⟩
    · show 1 * ((us.length : Nat) : Int).toNat ≤ sizeLine
      rw [Int.toNat_natCast]
      exact Nat.le_trans (by omega) (show 24 ≤ sizeLine by decide)
    have e3 : (List.replicate ((us.length : Nat) : Int).toNat [V.non]).flatten = (List.replicate ps.length (none : Option Nat)).map om := by
      rw [Int.toNat_natCast, lup, List.map_replicate]
      have g : ∀ n : Nat, (List.replicate n [V.non]).flatten = List.replicate n V.non := by
        intro n
        induction n with
        | zero => rfl
        | succ n ih => rw [List.replicate_succ, List.flatten_cons, ih]; rfl
      exact g _
    rw [e3]
    have s3 := same_upd (o := .lst ((List.replicate ps.length (none : Option Nat)).map om)) h2
    obtain ⟨H3, e3⟩ : ∃ H3, H3 = L2.upd H2 l2 (.lst ((List.replicate ps.length (none : Option Nat)).map om)) := ⟨_, rfl⟩
    have hL3 : H3 l2 = some (.lst ((List.replicate ps.length (none : Option Nat)).map om)) := by rw [e3, upd_same]
    rw [← e3] at s3 ⊢
    have s03 := s02.trans s3
    have hF3 := s3 _ _ (s2 _ _ hF1)
    refine ⟨_, rfl, a, l2, ff, ps, List.replicate ps.length none, [], rfl, ⟨ne_of_none hA hff, us, s03 _ _ hA, hR.imp fun _ _ ⟨q, e, r⟩ => ⟨q, e, ne_of_none r hff, s03 _ _ r⟩⟩, pok, (ne_of_none (s2 _ _ hF1) h2).symm, hL3, List.length_replicate, ?_, hF3, by show 0 + (matesF ps).length ≤ 10000; omega, fun H4 new k4 hF4 hB4 => ?_⟩
    · unfold cN
      exact Nat.le_trans List.countP_le_length (by rw [List.length_replicate]; exact l24)
    refine ⟨_, rfl, k ff H4 new hff (fun b o e => k4 _ _ (ne_of_none e hff) (s03 _ _ e)) hF4 hB4⟩
end
end W16
set_option Elab.async false
set_option linter.all false
set_option maxRecDepth 100000
set_option maxHeartbeats 1000000
namespace W16
open PySem L2 PySem.Spec PyProof.Rows WR WB WE
/-! ### all sewings -/
abbrev sAllS : Stmt := top 64
structure MkS (P : Program) (w : World) (K : PySem.W.Frag) (mg : Str → Option Value) (base : Heap) (C CR CS : Addr) : Prop where
  ex : ∃ (f : Addr) (fd : FuncData), Mk K CS f ∧ FnOk P w K mg base CX0 5 f fd ["self", "rims", "mates"] (spInitS K C CR CS) ∧ Binds K fd ["self", "rims", "mates"] []
section
variable {X : Cx} {C CR CS : Addr} {p pos : Pos} {e : Expr} {es : List Expr} {t : TA} {j : Nat} {K : PySem.W.Frag}
theorem pe_sewK (hK : X.K = K) (M : MkS X.prog X.w K X.mg X.base C CR CS) (T : TxSC K X.mg CS) (hr : Room j X.A) (hkj : 6 ≤ j) (hg : Gl X "Sewing") (ha : PA X (e :: es) t)
    (he : starEach (e :: es) X.env = (false, eval e X.env) :: starEach es X.env := by rfl) (hpl : (backTo pos (starEach es X.env)).any (·.1) = false := by rfl) :
    PE X (.Call (.Name "Sewing" p) (e :: es) [] pos) (tMake CS (spInitS K C CR CS) [] E0 t) := by
  subst hK
  obtain ⟨f, fd, M, F, hb⟩ := M.ex
  exact pe_make M F (hr.mono hkj) hg T.mgS hb .nil pass0 ha (by decide) he hpl
end
theorem sew_at {K : PySem.W.Frag} {C CR CS : Addr} {H1 : Hp} {rp m x dx : Addr} {xs : List Addr} {ws : List (List Int)} {mt : List Int} {G : Hp → Prop} {E : XK} (nx : H1 x = none) (ndx : H1 dx = none) (R1 : RimsAt K C CR H1 rp xs ws) (ok : RimOk ws) (hm : SqW K H1 m (iv mt)) (mk : MatOk ws.flatten mt)
    (k : ∀ H', Same H1 H' → SewAt K C CR CS H' x rp xs ws mt → G H') : spInitS K C CR CS [.ref x, .ref rp, .ref m] (L2.upd (L2.upd H1 dx (.own x)) x (.ins CS dx [])) (fun v H2 => v = .non ∧ G H2) E := by
  have s0 : Same H1 (L2.upd (L2.upd H1 dx (.own x)) x (.ins CS dx [])) := fun b o e => by
    rw [upd_ne (ne_of_none e nx), upd_ne (ne_of_none e ndx)]
    exact e
  exact ⟨H1, x, dx, rp, m, xs, ws, mt, rfl, s0, nx, upd_same, R1, ok, hm, mk, fun H' s' W' => ⟨rfl, k H' s' W'⟩⟩
theorem lcR {n : Nat} {g : TG} {tt : TT} {te : TE} {vs : List Nat} {σ : L2.St} {H1 : Hp} {Q : VK} (f : Nat → Bool) (hz : n < 40000)
    (hs : ∀ i, i < n → ∀ H, Same H1 H → ∀ (Qy : V → Hp → Prop) (Qn : Hp → Prop), (f i = true → ∀ H', Same H H' → Qy (.int ((i : Nat) : Int)) H') → (f i = false → ∀ H', Same H H' → Qn H') →
      g (.int ((i : Nat) : Int)) (wipe σ vs) H fun σ2 H2 => wipe σ2 vs = wipe σ vs ∧ tt σ2 H2 fun b H3 => if b = true then te σ2 H3 Qy else Qn H3)
    (hd : ∀ (D : Addr) H', H1 D = none → Same H1 H' → H' D = some (.lst (iv (nats ((List.range n).filter f)))) → Q (.ref D) H') : tLc (fun _ H R => R (Itr 0 n) H) g tt te vs σ H1 Q := by
  intro D hD
  refine lc_it (walk_range (lo := 0) (n := n)) (fun i H => Same H1 H ∧ H D = some (.lst (iv (nats ((List.range i).filter f))))) ⟨fun b o e => by rw [upd_ne (ne_of_none e hD)]; exact e, upd_same⟩ (fun i H _ q => trivial) ?_ ?_
  · rintro i x H H' hi q ⟨rfl, ex⟩
    obtain rfl : x = V.int ((i : Nat) : Int) := by
      rw [ex]
      show V.int (0 + ((i : Nat) : Int)) = _
      rw [Int.zero_add]
    refine hs i hi H' q.1 _ _ (fun hf H2 s2 => ⟨_, s2 _ _ q.2, ?_, ?_, ?_⟩) (fun hf H2 s2 => ⟨fun b o e => s2 b o (q.1 b o e), ?_⟩)
    · refine Evl.sz_lt ?_
      rw [nats_len]
      have := List.length_filter_le f (List.range i)
      rw [List.length_range] at this
      omega
    · intro b o e
      rw [upd_ne (ne_of_none e hD)]
      exact s2 b o (q.1 b o e)
    · rw [upd_same, List.range_succ, List.filter_append, List.filter_cons, if_pos hf]
      unfold nats iv
      rw [List.map_append, List.map_append]
      rfl
    · rw [List.range_succ, List.filter_append, List.filter_cons, if_neg (by rw [hf]; decide)]
      show H2 D = some (.lst (iv (nats ((List.range i).filter f ++ []))))
      rw [List.append_nil]
      exact s2 _ _ q.2
  · intro H q
    exact hd D H hD q.1 q.2
theorem ret_cb_lcA {r : List V → Hp → VK → Prop} {wi : TI} {g : TG} {tt : TT} {te : TE} {vs : List Nat} {D : Ends} {σ : L2.St} {H : Hp}
    (h : wi σ H fun J H1 => tLc (fun _ H R => R J H) g tt te vs σ H1 fun y H2 => r [y] H2 D.rt) : tRet (tCB r (tCons (tLc wi g tt te vs) tNil)) D σ H := h
/-- the scope of the comprehension in a statement x = [..] -/
def lcScope : Stmt → Scope
  | .Assign _ (.ListComp _ _ sc _) _ => sc
  | _ => defScope sAllS
abbrev outS : Scope := relS (lcScope ((defBody sAllS).getD 2 (.Pass ⟨0, 0, 0, 0⟩))) (defScope sAllS)
/-- sewings of rims -/
def SewsAt (K : PySem.W.Frag) (C CR CS : Addr) (H : Hp) (q rp : Addr) (xs : List Addr) (ws : List (List Int)) (rs : List (List Nat)) : Prop :=
  ∃ vs, SqB K H q vs ∧ All2 (fun v r => ∃ p, v = V.ref p ∧ SewAt K C CR CS H p rp xs ws (nats r)) vs rs
def sewF (ws : List (List Int)) : List (List Nat) := matesF (prtF ws.flatten)
def spAllS (K : PySem.W.Frag) (C CR CS : Addr) : Sp := fun vs H Q _ => ∃ (p : Addr) (xs : List Addr) (ws : List (List Int)), vs = [.ref p] ∧ RimsAt K C CR H p xs ws ∧ RimOk ws ∧ manyF ws.flatten ≤ 720 ∧ (sewF ws).length ≤ 1000 ∧
  ∀ q H', Same H H' → SewsAt K C CR CS H' q p xs ws (sewF ws) → Q (.ref q) H'
abbrev nAllS : List Str := ["rims", "letters", "partners", "letter", "mate", "mates"]
theorem SewAt.put {K : PySem.W.Frag} {C CR CS : Addr} {H : Hp} {D p rp : Addr} {xs : List Addr} {ws : List (List Int)} {mt : List Int} {us : List V} {o : HO} (h : SewAt K C CR CS H p rp xs ws mt) (hD : H D = some (.lst us)) : SewAt K C CR CS (L2.upd H D o) p rp xs ws mt := by
  have kB : ∀ {a ys}, SqB K H a ys → SqB K (L2.upd H D o) a ys := fun h => SqB.keptL hD Kept.upd h
  have kI : ∀ {a C dx fs}, H a = some (.ins C dx fs) → L2.upd H D o a = some (.ins C dx fs) := fun {a C dx fs} e => by
    rw [upd_ne (fun z => by rw [z, hD] at e; cases e)]
    exact e
  have kC : ∀ {a cs}, CornAt K H a cs → CornAt K (L2.upd H D o) a cs := fun ⟨vs, h1, h2⟩ => ⟨vs, kB h1, h2.imp fun _ _ ⟨q, e, r⟩ => ⟨q, e, kB r⟩⟩
  obtain ⟨dx, tm, tc, tp, h1, ⟨d2, tw, tl, th, tn, r1, r2, r3, r4, r5, r6⟩, h3, h4, h5⟩ := h
  refine ⟨dx, tm, tc, tp, kI h1, ⟨d2, tw, tl, th, tn, kI r1, kB r2, r3.imp fun a ns wa => ?_, kB r4, kB r5, kB r6⟩, kB h3, kC h4, kC h5⟩
  obtain ⟨dx, tl, tk, ks, w1, w2, w3, w4⟩ := wa
  exact ⟨dx, tl, tk, ks, kI w1, kB w2, SqT.keptL hD Kept.upd w3, w4⟩
section
variable {P : Program} {w : World} {K : PySem.W.Frag} {mg : Str → Option Value} {base : Heap} {C CR CS : Addr}
theorem scAllS : FnScope nAllS ["rims"] (defScope sAllS) := ⟨rfl, rfl, rfl, by decide +kernel, rfl, by decide +kernel, by decide +kernel⟩
theorem ok_allS {f : Addr} {fd : FuncData} (F : Fun K "all_sewings" "all_sewings" sAllS f fd) (TC : TxRC K mg CR) (TS : TxSC K mg CS) (TA : TxA mg) (R : TxR mg) (hmost : ∃ t, mg "MOST_SEWINGS" = some (.int 720 t)) (M : MkS P w K mg base C CR CS) (GY : Cal P w K mg base "many_sewings" 2 ["rims"] (spMany K C CR)) (GA : Cal P w K mg base "all_mates" 26 ["partners"] (spAllM K)) :
    FnOk P w K mg base CX0 27 f fd ["rims"] (spAllS K C CR CS) := by
  refine F.ok scAllS (fun vs H Q E h => ?_) (fun cdv A outer s H vs Q E hr h => ?_)
  · obtain ⟨p, xs, ws, rfl, _⟩ := h
    rfl
  · obtain ⟨p, xs, ws, rfl, R1, ok, hmany, hsz, k⟩ := h
    obtain ⟨tM, mM⟩ := hmost
    refine ⟨_, pss_cons (ps_if (pt_cmpR op_gt (pe_cal GY hr (by decide) (by rfl) (pa_cons (pv 0) pa_nil)) (pe_glob (v := .int 720) (by rfl) mM ⟨_, rfl⟩) (nomark _)) (pss_one ps_never) pss_nil)
      (pss_cons (ps_set (i := 1) scAllS.nd rfl (Or.inr rfl) (pe_fld (pv 0) rfl))
      (pss_cons (ps_setLc (i := 2) (own := [("letter", 3)]) (g := gName 3) (tt := tYes) rfl scAllS.nd rfl rfl (sw_true rfl rfl rfl (by decide +kernel)) (pi_tup (pv 1))
          (blkOk_by (N := nAllS) (sc := defScope sAllS) (by decide +kernel)) (fun _ _ _ _ _ => pg_name (i := 3) scAllS.nd rfl (Or.inr rfl)) (fun _ _ _ _ _ => pts_nil)
          (fun _ _ _ _ _ => pe_lc (own := [("mate", 4)]) (g := gName 4) rfl scAllS.nd (pi_range1 (by rfl) R.range (pa_cons (pe_fldK (K := K) rfl (pv 0) rfl) pa_nil))
            (blkOk_by (N := nAllS) (sc := outS) (by decide +kernel)) (fun _ _ _ _ _ => pg_name (i := 4) scAllS.nd rfl (Or.inl rfl)) (fun _ _ _ _ _ => pts_one (pt_cmpR op_eq (pe_ix (ixt (K := K) rfl) (pv 1) (pv 4) (fun _ _ => rfl)) (pe_un un_neg (pv 3)) (nomark _)))
            (fun _ _ _ _ _ => pv 4)))
      (pss_one (ps_ret (pe_callTy call_tupB (by rfl) TA.tuple (by decide +kernel) (pa_cons (pe_lc (own := [("mates", 5)]) (g := gName 5) (tt := tYes) rfl scAllS.nd (pi_list (pe_cal GA hr (by decide) (by rfl) (pa_cons (pv 2) pa_nil)))
          (blkOk_by (N := nAllS) (sc := defScope sAllS) (by decide +kernel)) (fun _ _ _ _ _ => pg_name (i := 5) scAllS.nd rfl (Or.inl rfl)) (fun _ _ _ _ _ => pts_nil)
          (fun _ _ _ _ _ => pe_sewK (K := K) rfl M TS hr (by decide) (by rfl) (pa_cons (pv 0) (pa_cons (pv 5) pa_nil)))) pa_nil)))))), ?_⟩
    obtain ⟨l1, l4, hne, l24, hl, hb⟩ := id ok
    obtain ⟨dx, tw, tl, th, tn, h1, h2, h3, h4, h5, h6⟩ := id R1
    have lp := prt_len ws.flatten
    refine ⟨_, rfl, p, xs, ws, rfl, R1, ok, fun H1 s1 => ⟨_, _, rfl, rfl, _, rfl, iteF' (decide_eq_false (by omega)) ?_⟩⟩
    refine ⟨_, rfl, p, CR, dx, _, _, rfl, s1 _ _ h1, TC.cl, TC.n2, rf_letters, ?_⟩
    refine at_set ?_
    try dsimp only
    refine as_lc ?_
    have B1 := SqB.same s1 h4
    refine ⟨_, rfl, tl, rfl, ⟨_, B1.sq⟩, ?_⟩
    refine lcM (walk_tup (K := K) (a := tl) (xs := iv ws.flatten)) (prtF ws.flatten) (fun D H v r => ∃ q, v = V.ref q ∧ q ≠ D ∧ H q = some (.lst (iv (nats r)))) (fun D H H' v b ⟨q, e, nq, h⟩ s => ⟨q, e, nq, s _ _ h⟩)
      (fun D H us o v b hD ⟨q, e, nq, h⟩ => ⟨q, e, nq, by rw [upd_ne nq]; exact h⟩) (by rw [List.length_map]; omega) (by rw [List.length_map, lp]) (fun H s => (SqB.same s B1).sq) ?_ (fun _ _ _ _ _ => gName_mono) ?_
    · intro i x r hx hr2 D H2 hD ⟨us, hDD⟩ s2 Qy ky
      have hi : i < ws.flatten.length := by
        have := (List.getElem?_eq_some_iff.mp hx).1
        rwa [List.length_map] at this
      obtain rfl : x = V.int ws.flatten[i] := by
        rw [List.getElem?_map, List.getElem?_eq_getElem hi] at hx
        exact (Option.some.inj hx).symm
      have er : r = (List.range ws.flatten.length).filter fun j => decide (ws.flatten.getD j 0 = -ws.flatten[i]) := by
        unfold prtF at hr2
        rw [List.getElem?_map, List.getElem?_eq_getElem hi] at hr2
        exact (Option.some.inj hr2).symm
      have s02 := s1.trans s2
      refine ⟨rfl, ?_⟩
      refine lc_in ?_
      refine ⟨_, rfl, p, CR, dx, _, _, rfl, s02 _ _ h1, TC.cl, TC.n3, rf_many, _, rfl, by omega, by omega, ?_⟩
      rw [Int.toNat_natCast]
      refine lcR (fun j => decide (ws.flatten.getD j 0 = -ws.flatten[i])) (by omega) ?_ ?_
      · intro j hj H3 s3 Qz Qn kz kn
        have ej : atI (iv ws.flatten) ((j : Nat) : Int) = some (V.int ws.flatten[j]) := atI_nat (iv_get (List.getElem?_eq_getElem hj))
        have eg : ws.flatten.getD j 0 = ws.flatten[j] := by rw [List.getD_eq_getElem?_getD, List.getElem?_eq_getElem hj]; rfl
        refine ⟨rfl, ?_⟩
        refine ⟨_, rfl, _, rfl, tl, _, _, _, rfl, rfl, (SqB.same (s02.trans s3) h4).sq, ej, _, rfl, _, rfl, rfl, _, rfl, ?_⟩
        by_cases c : ws.flatten.getD j 0 = -ws.flatten[i]
        · have c2 : decide (V.int ws.flatten[j] = V.int (-ws.flatten[i])) = true := decide_eq_true (by rw [← eg, c])
          refine iteT' c2 ⟨_, rfl, kz (decide_eq_true c) H3 (fun _ _ e => e)⟩
        · have c2 : decide (V.int ws.flatten[j] = V.int (-ws.flatten[i])) = false := decide_eq_false fun z => c (by injection z with z; rw [eg, z])
          refine iteF' c2 (kn (decide_eq_false c) H3 (fun _ _ e => e))
      · intro D2 H3 hD2 s3 h3
        refine ky _ H3 s3 ⟨D2, rfl, (ne_of_none hDD hD2).symm, ?_⟩
        rw [er]
        exact h3
    · intro D H2 us hD s2 hDD hus
      refine at_set ?_
      have s02 := s1.trans s2
      try dsimp only
      refine ret_cb_lcA ?_
      refine ⟨_, rfl, D, us, prtF ws.flatten, rfl, hDD, hus.imp fun _ _ ⟨q, e, _, h⟩ => ⟨q, e, h⟩, prt_ok l24, by rw [lp]; exact l24, Nat.le_trans hsz (by decide), fun q3 H3 new hq3 s3 h3 B3 => ?_⟩
      refine ⟨q3, rfl, ⟨_, SqL.of h3⟩, ?_⟩
      have s03 := s02.trans s3
      have R3 := R1.same s03
      have l3 : new.length = (sewF ws).length := B3.length
      refine lcM (walk_list (K := K) (a := q3) (xs := new)) (sewF ws) (fun _ H v r => ∃ z, v = V.ref z ∧ SewAt K C CR CS H z p xs ws (nats r)) (fun _ _ _ _ _ ⟨z, e, h⟩ s => ⟨z, e, h.same s⟩) (fun _ _ _ _ _ _ hD ⟨z, e, h⟩ => ⟨z, e, h.put hD⟩) (by omega) l3 (fun H s => s.seq (SqL.of h3)) ?_ (fun _ _ _ _ _ => gName_mono) ?_
      · intro i x r hx hr2 D4 H4 hD4 _ s4 Qy ky
        obtain ⟨r', hr3, z, rfl, Bz⟩ := All2.at B3 hx
        obtain rfl : r' = r := Option.some.inj (hr3.symm.trans hr2)
        refine ⟨rfl, _, rfl, _, rfl, fun x5 dx5 nx5 ndx5 _ => ?_⟩
        exact sew_at nx5 ndx5 (R3.same s4) ok (.inr (SqB.same s4 Bz)) (mates_ok hl (List.mem_of_getElem? hr2)) fun H5 s5 W5 => ky _ H5 s5 ⟨x5, rfl, W5⟩
      · intro D4 H4 vs4 hD4 s4 hDD4 hW
        refine ⟨D4, vs4, rfl, .inl ⟨SqL.of hDD4, fun q5 H5 s5 B5 => ?_⟩⟩
        exact k q5 H5 ((s03.trans s4).trans s5) ⟨vs4, B5, hW.imp fun _ _ ⟨z, e, h⟩ => ⟨z, e, h.same s5⟩⟩
end
end W16
set_option Elab.async false
set_option linter.all false
set_option maxRecDepth 100000
set_option maxHeartbeats 1000000
namespace W16
open PySem L2 PySem.Spec PyProof.Rows WR WB WE
/-! ### the census -/
abbrev sCens : Stmt := top 65
def costsF (ws : List (List Int)) : List Int := (sewF ws).map fun r => costF ws (nats r)
/-- what stands in a list of small numbers, ascending -/
def dsF (cs : List Int) : List Int := ((List.range 64).map fun (i : Nat) => (i : Int) - 32).filter fun c => decide (c ∈ cs)
def censusF (ws : List (List Int)) : List (Int × Int) := (dsF (costsF ws)).map fun c => (c, (((costsF ws).count c : Nat) : Int))
def CensAt (K : PySem.W.Frag) (H : Hp) (q : Addr) (ps : List (Int × Int)) : Prop := ∃ vs, SqB K H q vs ∧ All2 (PrT K H) vs ps
theorem CensAt.same {K : PySem.W.Frag} {H H' : Hp} {q : Addr} {ps : List (Int × Int)} (h : CensAt K H q ps) (s : Same H H') : CensAt K H' q ps := by
  obtain ⟨vs, h1, h2⟩ := h
  exact ⟨vs, SqB.same s h1, h2.imp fun _ _ r => r.same s⟩
theorem crn_len (nx mt : List Int) (n : Nat) : ∀ i, (crn nx mt n i).2.length ≤ i
  | 0 => Nat.le_refl _
  | i + 1 => by
    have ih := crn_len nx mt n i
    show (if (orb nx mt (n + 1) (crn nx mt n i).1 i []).2 = [] then (crn nx mt n i).2 else (crn nx mt n i).2 ++ [(orb nx mt (n + 1) (crn nx mt n i).1 i []).2]).length ≤ i + 1
    split
    · omega
    · rw [List.length_append]
      show (crn nx mt n i).2.length + 1 ≤ i + 1
      omega
theorem cost_rng {ws : List (List Int)} {mt : List Int} (h : ws.flatten.length ≤ 24) : -24 ≤ costF ws mt ∧ costF ws mt ≤ 12 := by
  have c : (cornF ws mt).length ≤ ws.flatten.length := crn_len _ _ _ _
  unfold costF
  omega
theorem ds_is {cs ks : List Int} (r : ∀ c ∈ cs, -24 ≤ c ∧ c ≤ 12) (p : ks.Pairwise (· < ·)) (m : ∀ k, k ∈ ks ↔ k ∈ cs) : ks = dsF cs := by
  refine sorted_ext _ _ p ?_ fun x => ?_
  · refine List.Pairwise.filter _ ?_
    rw [List.pairwise_map]
    exact List.Pairwise.imp (fun {a b} h => by omega) List.pairwise_lt_range
  · rw [m]
    unfold dsF
    rw [List.mem_filter, decide_eq_true_eq, List.mem_map]
    constructor
    · intro h
      obtain ⟨a, b⟩ := r x h
      exact ⟨⟨(x + 32).toNat, List.mem_range.mpr (by omega), by omega⟩, h⟩
    · exact fun h => h.2
theorem few_in {L : List Int} (nd : L.Nodup) (r : ∀ c ∈ L, -24 ≤ c ∧ c ≤ 12) : L.length < 64 := by
  have h := pigeon 63 (L.map (· + 25)) ?_ ?_
  · rw [List.length_map] at h
    omega
  · have : ∀ (L : List Int), L.Nodup → (L.map (· + 25)).Nodup := by
      intro L
      induction L with
      | nil => intro _; exact List.nodup_nil
      | cons a t ih =>
        intro h
        rw [List.nodup_cons] at h
        rw [List.map_cons, List.nodup_cons]
        refine ⟨fun z => ?_, ih h.2⟩
        obtain ⟨b, hb, e⟩ := List.mem_map.mp z
        have : b = a := by omega
        exact h.1 (this ▸ hb)
    exact this L nd
  · intro k hk
    obtain ⟨c, hc, rfl⟩ := List.mem_map.mp hk
    have := r c hc
    omega
def spCens (K : PySem.W.Frag) (C CR : Addr) : Sp := fun vs H Q _ => ∃ (p : Addr) (xs : List Addr) (ws : List (List Int)), vs = [.ref p] ∧ RimsAt K C CR H p xs ws ∧ RimOk ws ∧ manyF ws.flatten ≤ 720 ∧ (sewF ws).length ≤ 1000 ∧
  ∀ q H', Same H H' → CensAt K H' q (censusF ws) → Q (.ref q) H'
abbrev nCens : List Str := ["rims", "costs", "sewing", "cost"]
theorem all_ints {vs : List V} {ns : List Int} (h : All2 (fun v b => v = V.int b) vs ns) : vs = iv ns := by
  induction h with
  | nil => rfl
  | cons e _ ih => rw [e, ih]; rfl
section
variable {P : Program} {w : World} {K : PySem.W.Frag} {mg : Str → Option Value} {base : Heap} {C CR CS : Addr}
theorem scCens : FnScope nCens ["rims"] (defScope sCens) := ⟨rfl, rfl, rfl, by decide +kernel, rfl, by decide +kernel, by decide +kernel⟩
theorem ok_cens {f : Addr} {fd : FuncData} (F : Fun K "census" "census" sCens f fd) (TS : TxSC K mg CS) (TA : TxA mg) (hsorted : mg "sorted" = none) (hset : mg "set" = none) (GA : Cal P w K mg base "all_sewings" 27 ["rims"] (spAllS K C CR CS)) :
    FnOk P w K mg base CX0 28 f fd ["rims"] (spCens K C CR) := by
  refine F.ok scCens (fun vs H Q E h => ?_) (fun cdv A outer s H vs Q E hr h => ?_)
  · obtain ⟨p, xs, ws, rfl, _⟩ := h
    rfl
  · obtain ⟨p, xs, ws, rfl, R1, ok, hmany, hsz, k⟩ := h
    refine ⟨_, pss_cons (ps_set (i := 1) scCens.nd rfl (Or.inr rfl) (pe_lc (own := [("sewing", 2)]) (g := gName 2) (tt := tYes) rfl scCens.nd (pi_tup (pe_cal GA hr (by decide) (by rfl) (pa_cons (pv 0) pa_nil)))
          (blkOk_by (N := nCens) (sc := defScope sCens) (by decide +kernel)) (fun _ _ _ _ _ => pg_name (i := 2) scCens.nd rfl (Or.inl rfl)) (fun _ _ _ _ _ => pts_nil)
          (fun _ _ _ _ _ => pe_fldK (K := K) rfl (pv 2) rfl)))
      (pss_one (ps_ret (pe_callTy call_tupB (by rfl) TA.tuple (by decide +kernel) (pa_cons (pe_lc (own := [("cost", 3)]) (g := gName 3) (tt := tYes) rfl scCens.nd (pi_list (pe_callB (cr_sortedSet rfl) (by rfl) hsorted (by decide +kernel) (pa_cons (pe_callTy (WS.call_setLI rfl) (by rfl) hset (by decide +kernel) (pa_cons (pv 1) pa_nil)) pa_nil)))
          (blkOk_by (N := nCens) (sc := defScope sCens) (by decide +kernel)) (fun _ _ _ _ _ => pg_name (i := 3) scCens.nd rfl (Or.inl rfl)) (fun _ _ _ _ _ => pts_nil)
          (fun _ _ _ _ _ => pe_tup (pa_cons (pv 3) (pa_cons (pe_bmK (K := K) rfl PySem.F.plainAttrs_list PySem.F.slot_list_count PySem.F.type_list_count (mt_lcountK (K := K) rfl) (pv 1) (pa_cons (pv 3) pa_nil)) pa_nil)))) pa_nil)))), ?_⟩
    have l24 := ok.2.2.2.1
    refine as_lc ?_
    refine ⟨_, rfl, p, xs, ws, rfl, R1, ok, hmany, hsz, fun q H1 s1 ⟨vs, B1, A1⟩ => ?_⟩
    refine ⟨q, rfl, ⟨_, B1.sq⟩, ?_⟩
    have lv := A1.length
    have rng : ∀ c ∈ costsF ws, -24 ≤ c ∧ c ≤ 12 := fun c hc => by
      obtain ⟨r, _, rfl⟩ := List.mem_map.mp hc
      exact cost_rng l24
    refine lcM (walk_tup (K := K) (a := q) (xs := vs)) (costsF ws) (fun _ _ v b => v = V.int b) (fun _ _ _ _ _ h _ => h) (fun _ _ _ _ _ _ _ h => h) (by omega) (by unfold costsF; rw [List.length_map]; exact lv) (fun H s => (SqB.same s B1).sq) ?_ (fun _ _ _ _ _ => gName_mono) ?_
    · intro i x b hx hb D H2 hD _ s2 Qy ky
      obtain ⟨r, hr2, z, rfl, Sz⟩ := A1.at hx
      have eb : b = costF ws (nats r) := by
        unfold costsF at hb
        rw [List.getElem?_map, hr2] at hb
        exact (Option.some.inj hb).symm
      obtain ⟨dx, tm, tc, tp, z1, _⟩ := Sz.same s2
      exact ⟨rfl, _, rfl, z, CS, dx, _, _, rfl, z1, TS.cl, TS.n4, sf_cost, ky _ H2 (fun _ _ e => e) (by rw [eb])⟩
    · intro D H2 us hD s2 hDD hus
      rw [all_ints hus] at hDD
      refine at_set ?_
      try dsimp only
      refine ret_cb_lcA ?_
      have lc : (costsF ws).length ≤ 1000 := by unfold costsF; rw [List.length_map]; exact hsz
      refine ⟨_, rfl, D, costsF ws, rfl, SqL.of hDD, lc, fun S L hS nd mem => ?_⟩
      refine ⟨S, _, L.length, rfl, upd_same, few_in nd (fun c hc => rng c ((mem c).mp hc)), fun ks q4 asc mem4 _ hq4 => ?_⟩
      have eks : ks = dsF (costsF ws) := ds_is rng asc fun k => by rw [mem4, decide_eq_true_eq]
      have s24 := (same_upd (o := SetO w S (fun j => decide (j ∈ costsF ws)) L.length) hS).trans (same_upd (o := .lst (iv ks)) hq4)
      have hq5 : L2.upd (L2.upd H2 S (SetO w S (fun j => decide (j ∈ costsF ws)) L.length)) q4 (.lst (iv ks)) q4 = some (.lst (iv ks)) := upd_same
      refine ⟨q4, rfl, ⟨_, SqL.of hq5⟩, ?_⟩
      have hD4 := s24 _ _ hDD
      have lks : ks.length < 64 := few_in (asc.imp fun h => by omega) fun c hc => rng c (by rw [mem4, decide_eq_true_eq] at hc; exact hc)
      refine lcM (walk_list (K := K) (a := q4) (xs := iv ks)) (ks.map fun c => (c, (((costsF ws).count c : Nat) : Int))) (fun _ H v b => PrT K H v b) (fun _ _ _ _ _ h s => h.same s) (fun _ _ _ _ _ _ hD h => h.put hD) (by rw [List.length_map]; omega) (by rw [List.length_map, List.length_map]) (fun H s => s.seq (SqL.of hq5)) ?_ (fun _ _ _ _ _ => gName_mono) ?_
      · intro i x b hx hb D5 H5 hD5 _ s5 Qy ky
        have hi : i < ks.length := by
          have := (List.getElem?_eq_some_iff.mp hx).1
          rwa [List.length_map] at this
        obtain rfl : x = V.int ks[i] := by
          rw [List.getElem?_map, List.getElem?_eq_getElem hi] at hx
          exact (Option.some.inj hx).symm
        have eb : b = (ks[i], (((costsF ws).count ks[i] : Nat) : Int)) := by
          rw [List.getElem?_map, List.getElem?_eq_getElem hi] at hb
          exact (Option.some.inj hb).symm
        refine ⟨rfl, ?_⟩
        refine ⟨_, rfl, _, rfl, .inl ⟨rfl, _, SqL.of (s5 _ _ hD4)⟩, _, rfl, D, costsF ws, _, rfl, rfl, SqL.of (s5 _ _ hD4), by show 2 ≤ sizeLine; decide, fun t ht => ?_⟩
        exact ky _ _ (same_upd ht) ⟨t, rfl, by rw [eb]; exact SqT.of upd_same⟩
      · intro D5 H5 vs5 hD5 s5 hDD5 hV
        refine ⟨D5, vs5, rfl, .inl ⟨SqL.of hDD5, fun q6 H6 s6 B6 => ?_⟩⟩
        refine k q6 H6 (((s1.trans s2).trans (s24.trans s5)).trans s6) ⟨vs5, B6, ?_⟩
        rw [eks] at hV
        exact hV.imp fun _ _ h => h.same s6
end
end W16
set_option Elab.async false
set_option linter.all false
set_option maxRecDepth 100000
set_option maxHeartbeats 1000000
namespace W16
open PySem L2 PySem.Spec PyProof.Rows WR WB WE
/-! ### the law's own: all orders of some things -/
/-- lists of ints, none of them at D -/
def OrdsN (D : Addr) (H : Hp) (us : List V) (os : List (List Int)) : Prop := All2 (fun v o => ∃ q, v = V.ref q ∧ q ≠ D ∧ H q = some (.lst (iv o))) us os
def OrdsAt (H : Hp) (us : List V) (os : List (List Int)) : Prop := All2 (fun v o => ∃ q, v = V.ref q ∧ H q = some (.lst (iv o))) us os
theorem OrdsN.kept {D : Addr} {H H' : Hp} {us : List V} {os : List (List Int)} (h : OrdsN D H us os) (k : Kept D H H') : OrdsN D H' us os := h.imp fun _ _ ⟨q, e, n, r⟩ => ⟨q, e, n, k _ _ n r⟩
theorem OrdsAt.same {H H' : Hp} {us : List V} {os : List (List Int)} (h : OrdsAt H us os) (s : Same H H') : OrdsAt H' us os := h.imp fun _ _ ⟨q, e, r⟩ => ⟨q, e, s _ _ r⟩
end W16
set_option Elab.async false
set_option linter.all false
set_option maxRecDepth 100000
set_option maxHeartbeats 2000000
/-! try with several except clauses, each with a name or without. -/
namespace TM
open PySem PySem.Spec PyProof.Rows L2
/-- a clause: its class, the slot of its name if it has one, what its suite says -/
structure Cla where
  of : Value
  slot : Option Nat
  say : Addr → Value → Option Addr → TS
def offS : Option Nat → L2.St → L2.St
  | none, σ => σ
  | some i, σ => σ.set i none
def onS : Option Nat → Addr → L2.St → L2.St
  | none, _, σ => σ
  | some i, a, σ => σ.set i (some (.ref a))
def endsS (o : Option Nat) (D : Ends) : Ends := { nx := fun σ H => D.nx (offS o σ) H, rt := D.rt, bk := fun σ H => D.bk (offS o σ) H, ct := fun σ H => D.ct (offS o σ) H }
/-- the first clause that fits takes it -/
def wish (K : PySem.W.Frag) (out : WX) (D : Ends) : List Cla → WX
  | [] => out
  | q :: r => fun cls d σ H => ∃ b, PySem.W.exmOne K cls q.of = some b ∧ (b = true → ∀ a, H a = none → q.say a cls d (endsS q.slot D) (onS q.slot a σ) H) ∧ (b = false → wish K out D r cls d σ H)
def Says (X : Cx) (bs : List Stmt) (say : Addr → Value → Option Addr → TS) : Prop :=
  ∀ (a : Addr) (o : Obj) (cls : Value) (d : Option Addr) (pn : List (Addr × Obj)), Zc cls d o → (∃ vs, o.data = .fields vs) → PSs (X.suite a ((a, o) :: pn)) bs (say a cls d)
inductive Fit (X : Cx) : ExceptHandler → Cla → Prop
  | bare {x : Str} {c : Value} {say : Addr → Value → Option Addr → TS} {b : Stmt} {bs : List Stmt} {p1 p2 : Pos} (hc : Names X x c) (hs : Says X (b :: bs) say) : Fit X (.ExceptHandler (some (.Name x p1)) none (b :: bs) p2) ⟨c, none, say⟩
  | named {x n : Str} {i : Nat} {c : Value} {say : Addr → Value → Option Addr → TS} {b : Stmt} {bs : List Stmt} {p1 p2 : Pos} (hN : X.N.Nodup) (hi : X.N[i]? = some n) (hl : X.env.kindOf n = some .local) (hc : Names X x c) (hs : Says X (b :: bs) say) :
      Fit X (.ExceptHandler (some (.Name x p1)) (some n) (b :: bs) p2) ⟨c, some i, say⟩
inductive Fits (X : Cx) : List ExceptHandler → List Cla → Prop
  | nil : Fits X [] []
  | cons {h : ExceptHandler} {q : Cla} {hs : List ExceptHandler} {l : List Cla} (f : Fit X h q) (r : Fits X hs l) : Fits X (h :: hs) (q :: l)
/-- an exception that flies over X's frame, with the state that it left -/
structure Held (X : Cx) (pins : List (Addr × Obj)) (σ : L2.St) (H : Hp) (cls : Value) (d : Option Addr) (a : Addr) (B : Heap) (s0 s : Shared) : Prop where
  inv : Inv X pins σ H s0
  old : ∀ b o, s0.heap.get? b = some o → b ∉ frs X.stack → B.get? b = some o
  up : s0.heap.UpToSlots s.heap
  fly : HandSPX.FlyingZ B (X.env :: X.outer) a (Zc cls d) s.heap
  os : s.os = s0.os
  bare : AllBare s.gens
  free : H a = none
section
variable {X : Cx} {pins : List (Addr × Obj)} {σ : L2.St} {H : Hp} {D : Ends} {out : WX} {cls : Value} {d : Option Addr} {a : Addr} {B : Heap} {s0 s : Shared}
theorem Held.now (h : Held X pins σ H cls d a B s0 s) : Inv X pins σ H s := h.inv.landed h.old h.fly.1 h.up h.os h.bare
theorem Held.pinned (h : Held X pins σ H cls d a B s0 s) (hf : X.env.frame = some X.env.locals) : ∃ o : Obj, s.heap.get? a = some o ∧ Zc cls d o ∧ (∃ vs, o.data = .fields vs) ∧ Inv (X.suite a ((a, o) :: (X.pn ++ pins))) [] σ H s := by
  obtain ⟨o, vs, ea, z, ed⟩ := h.fly.there
  have out_ : a ∉ frs (X.env :: X.outer) := fun hm => by
    obtain ⟨_, o', e', nf⟩ := h.fly.2.2.1.mem hm
    rw [ea] at e'
    cases e'
    exact nf _ ed
  have n1 : a ≠ X.env.locals := fun z => out_ (List.mem_filterMap.mpr ⟨X.env, List.mem_cons_self, by rw [hf, z]⟩)
  have n2 : a ∉ X.fs := fun hm => by
    obtain ⟨e, he, q⟩ := List.mem_filterMap.mp hm
    exact out_ (List.mem_filterMap.mpr ⟨e, List.mem_cons_of_mem _ he, q⟩)
  exact ⟨o, ea, z, ⟨vs, ed⟩, h.now.suite ea ed h.free n1 n2⟩
theorem Held.pass (h : Held X pins σ H cls d a B s0 s) (hs : X.stack = X.env :: X.outer) (hf : X.env.frame = some X.env.locals) (tk : Takes X out) (w : out cls d σ H) : wpAny (model X.prog X.w) X.A (handleBy (.ref a) X.env []) (SP X pins D) X.xe s := by
  obtain ⟨_, _, _, oe, vs, T, oT, ts', he, hz, hd, h1, _⟩ := id h.fly
  refine wpAny_handleBy_nil ?_
  unfold PySem.passOn
  refine wpAny_bind (wpAny_field he hd h1 ?_)
  rw [if_neg (show ¬ ((Value.ref T == Value.none) = true) from by simp)]
  have last : wpAny (model X.prog X.w) X.A (setFlight (.ref a) X.env.frame) (fun _ s4 => wpAny (model X.prog X.w) X.A (throw (.ref a) : Sem Flow) (SP X pins D) X.xe s4) X.xe s := by
    rw [hf]
    exact HandSPX.setFlight_upZ h.fly fun h4 hh4 up4 => wpAny_throw (tk _ _ ⟨a, B, s0, pins, σ, H, cls, d, rfl, h.inv, h.old, h.up.trans up4, .inr (.inr (by rw [hs]; exact hh4)), h.free, h.os, h.bare, w⟩)
  first
    | exact wpAny_bind (wpAny_pure (wpAny_bind last))
    | exact wpAny_bind last
theorem Held.goes (h : Held X pins σ H cls d a B s0 s) (hs : X.stack = X.env :: X.outer) (hf : X.env.frame = some X.env.locals) (tk : Takes X out) {hds : List ExceptHandler} {l : List Cla} (fs : Fits X hds l) (w : wish X.K out D l cls d σ H) :
    wpAny (model X.prog X.w) X.A (handleBy (.ref a) X.env hds) (SP X pins D) X.xe s := by
  induction fs with
  | nil => exact h.pass hs hf tk w
  | @cons hd q hds l f r ih =>
    obtain ⟨b, eb, yes, no⟩ := w
    obtain ⟨o, ea, z, ed, S⟩ := h.pinned hf
    have look : PySem.W.Looks (model X.prog X.w) s.heap (typeOf (.ref a)) cls := fun A Q E s' k q => wpAny_typeOf_ref (k _ _ ea) (by rw [z.1]; exact q)
    have lm := PySem.W.exm_one (M := model X.prog X.w) h.now.kIn look eb
    have named : ∀ {x : Str} {c : Value} {p : Pos} {Q : Value → Shared → Prop} {E : Value → Shared → Prop}, Names X x c → Q c s → wpAny (model X.prog X.w) (X.A.mark (some (.ref a))) (eval (.Name x p) X.env) Q E s := fun {x c p Q E} hc k => by
      obtain ⟨g1, g2, m | ⟨m, v, nn⟩⟩ := hc
      · exact ld_glob (X := X.suite a ((a, o) :: (X.pn ++ pins))) S g1 m k g2
      · exact ld_blt (X := X.suite a ((a, o) :: (X.pn ++ pins))) S g1 m v k nn g2
    cases f with
    | bare hc say =>
      refine wpAny_handleBy_cons (codeAny_handlers_test (named hc (lm.here ?_))) (by intro q; cases q)
      cases b with
      | false => exact ih (no rfl)
      | true =>
        refine codeAny_handlers_suite (HandSPX.lands_againZ h.fly fun h4 fl4 up4 => ?_)
        have h' : Held X pins σ H cls d a B s0 { s with heap := h4 } := ⟨h.inv, h.old, h.up.trans up4, fl4, h.os, h.bare, h.free⟩
        obtain ⟨o4, _, z4, ed4, S4⟩ := h'.pinned hf
        refine wpAny_mono ((say a o4 cls d (X.pn ++ pins) z4 ed4).run [] _ _ H _ S4 (yes rfl a h.free)) (fun f s6 hsp => ?_) (fun _ _ z => False.elim z)
        have ok := h.inv.ok
        cases f with
        | next => obtain ⟨σ6, H6, S6, q6⟩ := hsp; exact ⟨_, _, S6.unsuite ok, q6⟩
        | brk => obtain ⟨σ6, H6, S6, q6⟩ := hsp; exact ⟨_, _, S6.unsuite ok, q6⟩
        | cont => obtain ⟨σ6, H6, S6, q6⟩ := hsp; exact ⟨_, _, S6.unsuite ok, q6⟩
        | ret u => obtain ⟨v6, σ6, H6, S6, r6, q6⟩ := hsp; exact ⟨_, _, _, S6.unsuite ok, r6, q6⟩
    | @named x n i c say0 b0 bs p1 p2 hN hi hl hc say =>
      refine wpAny_handleBy_cons (codeAny_handlers_test (named hc (lm.here ?_))) (by intro q; cases q)
      cases b with
      | false => exact ih (no rfl)
      | true =>
        refine codeAny_handlers_suite_as (HandSPX.lands_againZ h.fly fun h4 fl4 up4 => ?_)
        have h' : Held X pins σ H cls d a B s0 { s with heap := h4 } := ⟨h.inv, h.old, h.up.trans up4, fl4, h.os, h.bare, h.free⟩
        obtain ⟨o4, _, z4, ed4, S4⟩ := h'.pinned hf
        refine store_ok (X := X.suite a ((a, o4) :: (X.pn ++ pins))) (v := .ref a) S4 hN hi (.inl hl) rfl (fun s5 S5 => ?_) (.inr hl)
        refine wpAny_mono ((say a o4 cls d (X.pn ++ pins) z4 ed4).run [] s5 _ H _ S5 (yes rfl a h.free)) (fun f s6 hsp => ?_) (fun _ _ z => False.elim z)
        have ok := h.inv.ok
        have end_ : ∀ {σ6 : L2.St} {H6 : Hp} {Q : Shared → Prop}, Inv (X.suite a ((a, o4) :: (X.pn ++ pins))) [] σ6 H6 s6 → (∀ s7, Inv X pins (σ6.set i none) H6 s7 → Q s7) →
            wpAny (model X.prog X.w) X.A (do bindName X.env n .none; unbindBehindTheSuite X.env n p2) (fun _ s7 => Q s7) X.xe s6 := fun {σ6 H6 Q} S6 hq => gone_ok (S6.unsuite ok) hN hi hl hq
        cases f with
        | next => obtain ⟨σ6, H6, S6, q6⟩ := hsp; exact end_ S6 fun s7 J7 => ⟨_, _, J7, q6⟩
        | brk => obtain ⟨σ6, H6, S6, q6⟩ := hsp; exact end_ S6 fun s7 J7 => ⟨_, _, J7, q6⟩
        | cont => obtain ⟨σ6, H6, S6, q6⟩ := hsp; exact end_ S6 fun s7 J7 => ⟨_, _, J7, q6⟩
        | ret u => obtain ⟨v6, σ6, H6, S6, r6, q6⟩ := hsp; exact end_ S6 fun s7 J7 => ⟨_, _, _, J7, r6, q6⟩
end
end TM
set_option Elab.async false
set_option linter.all false
set_option maxRecDepth 100000
set_option maxHeartbeats 600000
/-! Rounds of a permutation of 0 to n - 1: how many there are, and what an exchange of two places does to that. -/
namespace Cy
/-- f goes from below n to below n, no two to one -/
structure Bij (n : Nat) (f : Nat → Nat) : Prop where
  lt : ∀ i, i < n → f i < n
  inj : ∀ i j, i < n → j < n → f i = f j → i = j
/-- a place that is hit -/
theorem Bij.hit {n : Nat} {f : Nat → Nat} (h : Bij n f) {y : Nat} (hy : y < n) : ∃ x, x < n ∧ f x = y := by
  refine Decidable.byContradiction fun no => ?_
  have nd : (y :: (List.range n).map f).Nodup := by
    refine List.nodup_cons.mpr ⟨fun hm => ?_, ?_⟩
    · obtain ⟨x, hx, e⟩ := List.mem_map.mp hm
      exact no ⟨x, List.mem_range.mp hx, e⟩
    · refine List.pairwise_map.mpr ((List.nodup_range (n := n)).imp_of_mem fun {a b} ha hb ne e => ?_)
      exact ne (h.inj a b (List.mem_range.mp ha) (List.mem_range.mp hb) e)
  have := L2.nat_nodup_len _ (List.range n) nd fun x hx => by
    rcases List.mem_cons.mp hx with rfl | hx
    · exact List.mem_range.mpr hy
    · obtain ⟨z, hz, rfl⟩ := List.mem_map.mp hx
      exact List.mem_range.mpr (h.lt z (List.mem_range.mp hz))
  rw [List.length_cons, List.length_map, List.length_range] at this
  omega
/-! ### the rounds, by what one place leads to -/
def it (f : Nat → Nat) : Nat → Nat → Nat
  | 0, x => x
  | k + 1, x => it f k (f x)
def Rch (f : Nat → Nat) (i j : Nat) : Prop := ∃ k, it f k i = j
/-- no place ahead leads to i -/
def New (f : Nat → Nat) (i : Nat) : Prop := ∀ i', i' < i → ¬ Rch f i' i
open Classical in
noncomputable def cnt (f : Nat → Nat) : Nat → Nat
  | 0 => 0
  | n + 1 => cnt f n + if New f n then 1 else 0
theorem it_lt {n : Nat} {f : Nat → Nat} (h : ∀ i, i < n → f i < n) : ∀ (k x : Nat), x < n → it f k x < n
  | 0, _, hx => hx
  | k + 1, x, hx => it_lt h k (f x) (h x hx)
theorem it_add (f : Nat → Nat) : ∀ (j k x : Nat), it f (j + k) x = it f k (it f j x)
  | 0, k, x => by rw [Nat.zero_add]; rfl
  | j + 1, k, x => by
    rw [show j + 1 + k = (j + k) + 1 by omega]
    exact it_add f j k (f x)
theorem Rch.refl (f : Nat → Nat) (i : Nat) : Rch f i i := ⟨0, rfl⟩
theorem Rch.trans {f : Nat → Nat} {i j k : Nat} (h : Rch f i j) (h2 : Rch f j k) : Rch f i k := by
  obtain ⟨a, rfl⟩ := h
  obtain ⟨b, rfl⟩ := h2
  exact ⟨a + b, it_add f a b i⟩
theorem Rch.step (f : Nat → Nat) (i : Nat) : Rch f i (f i) := ⟨1, rfl⟩
end Cy
set_option Elab.async false
set_option linter.all false
set_option maxRecDepth 100000
set_option maxHeartbeats 600000
namespace W16
open PySem L2 PySem.Spec PyProof.Rows WR WB WE
/-! ### how many corners there are -/
theorem orb_all {nx mt : List Int} {n : Nat} (hlt : ∀ x, x < n → nxt nx mt x < n) : ∀ (k p : Nat) (s c : List Nat), SeenOk n s → p < n → n - s.length < k → (∀ x ∈ s, nxt nx mt x ∈ s ∨ nxt nx mt x = p) →
    SeenOk n (orb nx mt k s p c).1 ∧ (∀ x ∈ (orb nx mt k s p c).1, nxt nx mt x ∈ (orb nx mt k s p c).1) ∧ p ∈ (orb nx mt k s p c).1 ∧ (∀ x ∈ s, x ∈ (orb nx mt k s p c).1) ∧ (∀ j ∈ (orb nx mt k s p c).1, j ∈ s ∨ Cy.Rch (nxt nx mt) p j) ∧ ∃ t, (orb nx mt k s p c).2 = c ++ t ∧ (t = [] ↔ p ∈ s)
  | 0, _, s, _, _, _, hk, _ => absurd hk (Nat.not_lt_zero _)
  | k + 1, p, s, c, ok, hp, hk, hc => by
    by_cases h : p ∈ s
    · rw [orb_in (by omega) h]
      exact ⟨ok, fun x hx => (hc x hx).elim id fun e => e ▸ h, h, fun _ h => h, fun _ h => .inl h, [], (List.append_nil _).symm, by simp [h]⟩
    · rw [orb_out h]
      have hl := ok.lt hp h
      have ok2 : SeenOk n (p :: s) := ⟨List.nodup_cons.mpr ⟨h, ok.1⟩, fun x hx => by
        rcases List.mem_cons.mp hx with rfl | hx
        · exact hp
        · exact ok.2 x hx⟩
      obtain ⟨i1, i2, i3, i4, i5, t, i6, _⟩ := orb_all hlt k (nxt nx mt p) (p :: s) (c ++ [p]) ok2 (hlt p hp) (by rw [List.length_cons]; omega) fun x hx => by
        rcases List.mem_cons.mp hx with rfl | hx
        · exact .inr rfl
        · rcases hc x hx with e | e
          · exact .inl (List.mem_cons_of_mem _ e)
          · exact .inl (e ▸ List.mem_cons_self)
      refine ⟨i1, i2, i4 p List.mem_cons_self, fun x hx => i4 x (List.mem_cons_of_mem _ hx), fun j hj => ?_, p :: t, by rw [i6, List.append_assoc]; rfl, by simp [h]⟩
      rcases i5 j hj with hj | hj
      · rcases List.mem_cons.mp hj with rfl | hj
        · exact .inr (Cy.Rch.refl _ _)
        · exact .inl hj
      · exact .inr ((Cy.Rch.step _ p).trans hj)
theorem crn_all {nx mt : List Int} {n : Nat} (hlt : ∀ x, x < n → nxt nx mt x < n) : ∀ m, m ≤ n → SeenOk n (crn nx mt n m).1 ∧ (∀ x ∈ (crn nx mt n m).1, nxt nx mt x ∈ (crn nx mt n m).1) ∧ (∀ j, j ∈ (crn nx mt n m).1 ↔ ∃ i, i < m ∧ Cy.Rch (nxt nx mt) i j) ∧ (crn nx mt n m).2.length = Cy.cnt (nxt nx mt) m
  | 0, _ => ⟨⟨List.nodup_nil, fun _ h => nomatch h⟩, (fun _ h => nomatch h), fun j => ⟨(fun h => nomatch h), fun ⟨i, h, _⟩ => absurd h (Nat.not_lt_zero _)⟩, rfl⟩
  | m + 1, hm => by
    obtain ⟨h1, h2, h3, h4⟩ := crn_all hlt m (by omega)
    obtain ⟨i1, i2, i3, i4, i5, t, i6, i7⟩ := orb_all (mt := mt) hlt (n + 1) m (crn nx mt n m).1 [] h1 (by omega) (by omega) fun x hx => .inl (h2 x hx)
    refine ⟨i1, i2, fun j => ⟨fun hj => ?_, fun ⟨i, hi, hr⟩ => ?_⟩, ?_⟩
    · rcases i5 j hj with hj | hj
      · obtain ⟨i, hi, hr⟩ := (h3 j).mp hj
        exact ⟨i, by omega, hr⟩
      · exact ⟨m, by omega, hj⟩
    · have cl : ∀ (k x : Nat), x ∈ (crn nx mt n (m + 1)).1 → Cy.it (nxt nx mt) k x ∈ (crn nx mt n (m + 1)).1 := by
        intro k
        induction k with
        | zero => exact fun x hx => hx
        | succ k ih => exact fun x hx => ih _ (i2 x hx)
      obtain ⟨k, rfl⟩ := hr
      refine cl k i ?_
      by_cases he : i = m
      · subst he
        exact i3
      · exact i4 i ((h3 i).mpr ⟨i, by omega, Cy.Rch.refl _ _⟩)
    · have e : (crn nx mt n (m + 1)).2 = if (orb nx mt (n + 1) (crn nx mt n m).1 m []).2 = [] then (crn nx mt n m).2 else (crn nx mt n m).2 ++ [(orb nx mt (n + 1) (crn nx mt n m).1 m []).2] := rfl
      have hn : Cy.New (nxt nx mt) m ↔ ¬ m ∈ (crn nx mt n m).1 := by
        rw [h3]
        exact ⟨fun h ⟨i, hi, hr⟩ => h i hi hr, fun h i hi hr => h ⟨i, hi, hr⟩⟩
      rw [e, i6, List.nil_append]
      unfold Cy.cnt
      by_cases hs : m ∈ (crn nx mt n m).1
      · rw [if_pos (i7.mpr hs), if_neg (fun q => hn.mp q hs), h4]
        rfl
      · rw [if_neg (fun q => hs (i7.mp q)), if_pos (hn.mpr hs), List.length_append, h4]
        rfl
theorem nxF_nodup : ∀ (ws : List (List Int)) (f : Nat), (∀ w ∈ ws, w ≠ []) → (nxF f ws).Nodup
  | [], _, _ => List.nodup_nil
  | w :: r, f, hne => by
    unfold nxF
    have hl : 0 < w.length := List.length_pos_iff.mpr (hne w List.mem_cons_self)
    refine List.nodup_append.mpr ⟨?_, nxF_nodup r _ fun u hu => hne u (List.mem_cons_of_mem _ hu), fun a ha b hb e => ?_⟩
    · refine List.pairwise_map.mpr ((List.nodup_range (n := w.length)).imp_of_mem fun {a b} ha hb ne e => ne ?_)
      have ha := List.mem_range.mp ha
      have hb := List.mem_range.mp hb
      have e2 : (a + 1) % w.length = (b + 1) % w.length := by omega
      by_cases h1 : a + 1 = w.length
      · by_cases h2 : b + 1 = w.length
        · omega
        · rw [h1, Nat.mod_self, Nat.mod_eq_of_lt (by omega)] at e2
          omega
      · by_cases h2 : b + 1 = w.length
        · rw [h2, Nat.mod_self, Nat.mod_eq_of_lt (by omega)] at e2
          omega
        · rw [Nat.mod_eq_of_lt (by omega), Nat.mod_eq_of_lt (by omega)] at e2
          omega
    · obtain ⟨t, ht, rfl⟩ := List.mem_map.mp ha
      have h1 := Nat.mod_lt (t + 1) hl
      have h2 := nxF_lo r (f + w.length) b hb
      omega
where
  nxF_lo : ∀ (ws : List (List Int)) (f : Nat), ∀ z ∈ nxF f ws, (f : Int) ≤ z
    | [], _, z, h => nomatch h
    | w :: r, f, z, h => by
      unfold nxF at h
      rcases List.mem_append.mp h with h | h
      · obtain ⟨t, ht, rfl⟩ := List.mem_map.mp h
        omega
      · have := nxF_lo r (f + w.length) z h
        omega
theorem getD_lt {xs : List Int} {i : Nat} (h : i < xs.length) : xs.getD i 0 = xs[i] := by
  rw [List.getD_eq_getElem?_getD, List.getElem?_eq_getElem h]
  rfl
theorem nodup_inj {xs : List Int} (h : xs.Nodup) {i j : Nat} (hi : i < xs.length) (hj : j < xs.length) (e : xs[i] = xs[j]) : i = j := by
  have hp := List.pairwise_iff_getElem.mp h
  rcases Nat.lt_trichotomy i j with l | l | l
  · exact absurd e (hp i j hi hj l)
  · exact l
  · exact absurd e.symm (hp j i hj hi l)
/-- a mate is a place -/
def mtn (mt : List Int) (i : Nat) : Nat := (mt.getD i 0).toNat
theorem mtn_at {n : Nat} {mt : List Int} (h : MatesOk n mt) {i : Nat} (hi : i < n) : mtn mt i < n ∧ mt[i]? = some ((mtn mt i : Nat) : Int) ∧ mt.getD i 0 = ((mtn mt i : Nat) : Int) := by
  have hl : i < mt.length := by rw [h.1]; exact hi
  have hz := h.2 _ (List.getElem_mem hl)
  have e : mt.getD i 0 = ((mtn mt i : Nat) : Int) := by
    unfold mtn
    rw [getD_lt hl]
    omega
  refine ⟨?_, ?_, e⟩
  · unfold mtn
    rw [getD_lt hl]
    omega
  · rw [List.getElem?_eq_getElem hl, ← e, getD_lt hl]
theorem pair_inv {n : Nat} {mt : List Int} (h : PairOk n mt) {i : Nat} (hi : i < n) : mtn mt (mtn mt i) = i ∧ mtn mt i ≠ i := by
  have hl : i < mt.length := by rw [h.1.1]; exact hi
  obtain ⟨a1, a2, a3⟩ := mtn_at h.1 hi
  obtain ⟨p1, p2⟩ := h.2 i hl
  have e : mt[i] = ((mtn mt i : Nat) : Int) := by rw [← getD_lt hl]; exact a3
  rw [e] at p1 p2
  rw [Int.toNat_natCast] at p2
  refine ⟨?_, fun q => p1 (by rw [q])⟩
  have := (mtn_at h.1 a1).2.1
  rw [p2] at this
  have := Option.some.inj this
  omega
theorem bij_nxt {ws : List (List Int)} (hne : ∀ w ∈ ws, w ≠ []) {mt : List Int} (h : PairOk ws.flatten.length mt) : Cy.Bij ws.flatten.length (nxt (nxF 0 ws) mt) := by
  have hx : (nxF 0 ws).length = ws.flatten.length := nxF_len ws 0
  have rng : ∀ i (hi : i < (nxF 0 ws).length), 0 ≤ (nxF 0 ws)[i] ∧ (nxF 0 ws)[i] < (ws.flatten.length : Int) := fun i hi => by
    have := nxF_rng ws 0 hne _ (List.getElem_mem hi)
    omega
  have val : ∀ i (hi : i < ws.flatten.length), ((nxt (nxF 0 ws) mt i : Nat) : Int) = (nxF 0 ws)[mtn mt i]'(by rw [hx]; exact (mtn_at h.1 hi).1) := fun i hi => by
    have h1 := (mtn_at h.1 hi).1
    have hl : mtn mt i < (nxF 0 ws).length := by rw [hx]; exact h1
    show (((nxF 0 ws).getD (mtn mt i) 0).toNat : Int) = _
    rw [getD_lt hl]
    have := rng _ hl
    omega
  refine ⟨fun i hi => ?_, fun i j hi hj e => ?_⟩
  · have := val i hi
    have := rng (mtn mt i) (by rw [hx]; exact (mtn_at h.1 hi).1)
    omega
  · have e2 : ((nxt (nxF 0 ws) mt i : Nat) : Int) = ((nxt (nxF 0 ws) mt j : Nat) : Int) := by rw [e]
    rw [val i hi, val j hj] at e2
    have := nodup_inj (nxF_nodup ws 0 hne) _ _ e2
    have h1 := (pair_inv h hi).1
    rw [this, (pair_inv h hj).1] at h1
    exact h1.symm
/-! ### two places exchange mates -/
theorem mates_ok_of {n : Nat} {mt : List Int} (hl : mt.length = n) (g : Nat → Nat) (hg : ∀ i (hi : i < mt.length), mt[i] = ((g i : Nat) : Int) ∧ g i < n ∧ g i ≠ i ∧ g (g i) = i) : PairOk n mt := by
  refine ⟨⟨hl, fun z hz => ?_⟩, fun i hi => ?_⟩
  · obtain ⟨i, hi, rfl⟩ := List.getElem_of_mem hz
    have := hg i hi
    omega
  · obtain ⟨e, l, ne, inv⟩ := hg i hi
    have hl2 : g i < mt.length := by omega
    refine ⟨fun q => ne (by omega), ?_⟩
    rw [e, Int.toNat_natCast, List.getElem?_eq_getElem hl2, (hg _ hl2).1, inv]
end W16
set_option Elab.async false
set_option linter.all false
set_option maxRecDepth 100000
set_option maxHeartbeats 1000000
namespace W16
open PySem L2 PySem.Spec PyProof.Rows WR WB WE
/-! ### what stands for a balance -/
/-! ### expressions that make something, wherever they stand -/
def LI (ns : List Int) (H : Hp) (v : V) : Prop := ∃ q, v = V.ref q ∧ H q = some (.lst (iv ns))
theorem LI.same {ns : List Int} {H H' : Hp} {v : V} (h : LI ns H v) (s : Same H H') : LI ns H' v := by
  obtain ⟨q, e, r⟩ := h
  exact ⟨q, e, s _ _ r⟩
end W16
set_option Elab.async false
set_option linter.all false
set_option maxRecDepth 100000
set_option maxHeartbeats 600000
namespace W16
open PySem L2 PySem.Spec PyProof.Rows WR WB WE
structure TN (mg : Str → Option Value) : Prop where
  len : mg "len" = none
  range : mg "range" = none
  list : mg "list" = none
  tuple : mg "tuple" = none
  int : mg "int" = none
  abs : mg "abs" = none
  min : mg "min" = none
  sorted : mg "sorted" = none
  set : mg "set" = none
  enumerate : mg "enumerate" = none
  zip : mg "zip" = none
  isinstance : mg "isinstance" = none
  repr : mg "repr" = none
theorem perm_erase : ∀ (us : List V) (j : Nat) (h : j < us.length), (us[j] :: us.eraseIdx j).Perm us
  | a :: t, 0, _ => List.Perm.refl _
  | a :: t, j + 1, h => by
    have ih := perm_erase t j (by simpa using h)
    exact (List.Perm.swap _ _ _).trans (ih.cons a)
def spMixed : Sp := fun vs H Q _ => ∃ (a c p : Addr) (xs : List V) (n : Nat), vs = [.ref a, .ref p] ∧ HandAt H a c n ∧ H p = some (.lst xs) ∧ xs.length ≤ 100 ∧ n ≤ 8000 ∧ ∀ l H' ys, H l = none → Drew a c (n + xs.length) H H' → H' l = some (.lst ys) → ys.Perm xs → Q (.ref l) H'
abbrev sMixed : Stmt := top 70
abbrev nMixed : List Str := ["_law_pen_here", "_law_some", "_law_left", "_law_found", "_law_turn"]
theorem scMixed : FnScope nMixed ["_law_pen_here", "_law_some"] (defScope sMixed) := ⟨rfl, rfl, rfl, by decide +kernel, rfl, by decide +kernel, by decide +kernel⟩
section
variable {P : Program} {w : World} {K : PySem.W.Frag} {mg : Str → Option Value} {base : Heap}
theorem ok_Mixed {f : Addr} {fd : FuncData} (F : Fun K "_law_mixed" "_law_mixed" sMixed f fd) (N : TN mg)  (G_draw : Cal P w K mg base "_law_draw" 1 ["_law_pen_here", "_law_many"] (spTake)) : FnOk P w K mg base CX0 2 f fd ["_law_pen_here", "_law_some"] (spMixed) := by
  refine F.ok scMixed (fun vs H Q E h => ?_) (fun cdv A outer s H vs Q E hr h => ?_)
  · obtain ⟨a, c, p, xs, n, rfl, _⟩ := h
    rfl
  · obtain ⟨a, c, p, xs, n, rfl, hH, hp, hx, hn, k⟩ := h
    refine ⟨_, pss_cons (ps_par (i := 2) (j := 3) (by rfl) scMixed.nd rfl rfl (by decide) rfl rfl (pa_cons (pe_callTy call_list_of (by rfl) N.list (by decide +kernel) (pa_cons (pv 1) pa_nil)) (pa_cons (pe_lst pa_nil) pa_nil)) (by rfl))
      (pss_cons (ps_for PassesOwn.never rfl (pi_range1 (by rfl) N.range (pa_cons (pe_callB call_len_seq (by rfl) N.len PySem.boot_len (pa_cons (pv 2) pa_nil)) pa_nil)) (pg_name (i := 4) scMixed.nd rfl (Or.inl rfl))
      (pss_one (ps_expr (pe_bm PySem.F.plainAttrs_list PySem.F.slot_list_append PySem.F.type_list_append mt_append (pv 3) (pa_cons (pe_bm PySem.F.plainAttrs_list PySem.F.slot_list_pop PySem.F.type_list_pop mt_popAt (pv 2) (pa_cons (pe_cal G_draw hr (by decide) (by rfl) (pa_cons (pv 0) (pa_cons (pe_callB call_len_seq (by rfl) N.len PySem.boot_len (pa_cons (pv 2) pa_nil)) pa_nil))) pa_nil)) pa_nil)))))
      (pss_one (ps_ret (pv 3)))), ?_⟩
    refine ⟨_, rfl, p, xs, rfl, .inl (SqL.of hp), fun lf hlf => ?_⟩
    have s1 := same_upd (o := .lst xs) hlf
    have g1 : L2.upd H lf (.lst xs) lf = some (.lst xs) := upd_same
    obtain ⟨H1, e1⟩ : ∃ H1, H1 = L2.upd H lf (.lst xs) := ⟨_, rfl⟩
    rw [← e1] at s1 g1 ⊢
    refine ⟨Nat.zero_le _, fun fo hfo => ⟨_, _, rfl, ?_⟩⟩
    have s2 := same_upd (o := .lst []) hfo
    have g2 : L2.upd H1 fo (.lst []) fo = some (.lst []) := upd_same
    have lfo : lf ≠ fo := ne_of_none g1 hfo
    have fo0 : H fo = none := s1.free hfo
    have hla := hH.ne hlf
    have hlc := hH.neC hlf
    have hfa := hH.ne fo0
    have hfc := hH.neC fo0
    have D2 : Drew a c n H (L2.upd H1 fo (.lst [])) := (Drew.refl hH).same (s1.trans s2)
    refine ⟨_, rfl, lf, _, rfl, .inl (SqL.of (s2 _ _ g1)), ((xs.length : Nat) : Int), rfl, by omega, by omega, ?_⟩
    refine for_range (lo := 0) (n := ((xs.length : Nat) : Int).toNat) (fun i σ H' => ∃ (v : Option V) (us ys : List V), σ = [some (.ref a), some (.ref p), some (.ref lf), some (.ref fo), v] ∧ Drew a c (n + i) H H' ∧ H' lf = some (.lst us) ∧ H' fo = some (.lst ys) ∧ us.length + i = xs.length ∧ (us ++ ys).Perm xs)
      ⟨none, xs, [], rfl, D2, s2 _ _ g1, g2, rfl, by rw [List.append_nil]⟩ ?_ ?_
    · rintro i σ H3 hi ⟨v, us, ys, rfl, d3, hl3, hf3, hlen, hperm⟩
      rw [Int.toNat_natCast] at hi
      have hys : ys.length = i := by
        have := hperm.length_eq
        rw [List.length_append] at this
        omega
      refine ⟨_, rfl, .inl ⟨rfl, _, SqL.of hf3⟩, _, rfl, .inl ⟨rfl, _, SqL.of hl3⟩, _, rfl, _, rfl, lf, _, rfl, .inl (SqL.of hl3), a, c, ((us.length : Nat) : Int), n + i, rfl, d3.1, by omega, by omega, ?_, fun H4 j j0 j1 hH4 hK4 => ?_⟩
      · have : (((us.length : Nat) : Int)).natAbs ≤ 100 := by omega
        exact Nat.lt_of_le_of_lt this (by decide)
      have hl4 := hK4 _ _ hla hl3
      have hf4 := hK4 _ _ hfa hf3
      have d4 : Drew a c (n + i + 1) H H4 := ⟨hH4, d3.2.trans hK4⟩
      obtain ⟨j, rfl⟩ : ∃ j' : Nat, j = (j' : Int) := ⟨j.toNat, by omega⟩
      have hjl : j < us.length := by omega
      refine ⟨lf, us, (j : Int), j, us[j], rfl, rfl, hl4, by omega, by omega, ?_, List.getElem?_eq_getElem hjl, ?_⟩
      · exact seq_at hjl
      have hf5 : L2.upd H4 lf (.lst (us.eraseIdx j)) fo = some (.lst ys) := by rw [upd_ne lfo.symm]; exact hf4
      refine ⟨fo, ys, _, rfl, rfl, hf5, Evl.sz_lt (by omega), ?_⟩
      refine ⟨_, us.eraseIdx j, ys ++ [us[j]], rfl, ?_, ?_, upd_same, ?_, ?_⟩
      · exact ((d4.put hlf hla hlc).put fo0 hfa hfc)
      · rw [upd_ne lfo, upd_same]
      · rw [List.length_eraseIdx_of_lt hjl]
        omega
      · have q1 : (us[j] :: us.eraseIdx j).Perm us := perm_erase us j hjl
        have q2 : (us.eraseIdx j ++ (ys ++ [us[j]])).Perm ((us[j] :: us.eraseIdx j) ++ ys) := by
          rw [← List.append_assoc]
          exact List.perm_append_comm
        exact (q2.trans (q1.append_right ys)).trans hperm
    · rintro σ H3 ⟨v, us, ys, rfl, d3, hl3, hf3, hlen, hperm⟩
      rw [Int.toNat_natCast] at d3 hlen
      have : us = [] := List.eq_nil_of_length_eq_zero (by omega)
      subst this
      exact ⟨_, rfl, k fo H3 ys fo0 d3 hf3 hperm⟩
end
end W16
set_option Elab.async false
set_option linter.all false
set_option maxRecDepth 100000
set_option maxHeartbeats 600000
namespace W16
open PySem L2 PySem.Spec PyProof.Rows WR WB WE
/-! ### letters cut into words -/
theorem perm_map {α β : Type} {f : α → β} : ∀ {ys zs : List β}, ys.Perm zs → ∀ xs : List α, zs = xs.map f → ∃ ws : List α, ws.Perm xs ∧ ys = ws.map f := by
  intro ys zs h
  induction h with
  | nil => intro xs e; exact ⟨xs, List.Perm.refl _, e⟩
  | cons x _ ih =>
    intro xs e
    cases xs with
    | nil => cases e
    | cons y r =>
      rw [List.map_cons] at e
      injection e with e1 e2
      obtain ⟨ws, p, rfl⟩ := ih r e2
      exact ⟨y :: ws, p.cons y, by rw [e1]; rfl⟩
  | swap x y l =>
    intro xs e
    match xs, e with
    | a :: b :: r, e =>
      rw [List.map_cons, List.map_cons] at e
      injection e with e1 e2
      injection e2 with e2 e3
      exact ⟨b :: a :: r, List.Perm.swap _ _ _, by rw [e1, e2, e3]; rfl⟩
  | trans _ _ ih1 ih2 =>
    intro xs e
    obtain ⟨ws, p, rfl⟩ := ih2 xs e
    obtain ⟨us, p2, rfl⟩ := ih1 ws rfl
    exact ⟨us, p2.trans p, rfl⟩
def rgI (a b : Nat) : List Int := (List.range (b - a)).map fun (i : Nat) => ((a + i : Nat) : Int)
theorem rgV_I (a b : Nat) : rgV (a : Int) (b : Int) = iv (rgI a b) := by
  unfold rgV rgI
  rw [show ((b : Int) - (a : Int)).toNat = b - a by omega]
  show _ = List.map V.int (List.map _ _)
  rw [List.map_map]
  refine List.map_congr_left fun i _ => ?_
  show V.int ((a : Int) + (i : Nat)) = V.int ((a + i : Nat) : Int)
  rw [show ((a : Int) + (i : Nat)) = ((a + i : Nat) : Int) by omega]
theorem rgI_mem {a b : Nat} {z : Int} (h : z ∈ rgI a b) : (a : Int) ≤ z ∧ z < (b : Int) := by
  obtain ⟨i, hi, rfl⟩ := List.mem_map.mp h
  have := List.mem_range.mp hi
  omega
theorem rgI_nodup (a b : Nat) : (rgI a b).Nodup := by
  refine List.pairwise_map.mpr ((List.nodup_range (n := b - a)).imp fun {x y} ne e => ne ?_)
  omega
theorem rgI_len (a b : Nat) : (rgI a b).length = b - a := by
  unfold rgI
  rw [List.length_map, List.length_range]
theorem cut_mid {xs : List V} {b c : Nat} (h1 : b ≤ c) (h2 : c ≤ xs.length) : cutV xs (some ((b : Nat) : Int)) (some ((c : Nat) : Int)) = (xs.drop b).take (c - b) := by
  unfold cutV
  rw [HT.sIx_nat, HT.sIx_nat, Nat.min_eq_left h2, Nat.min_eq_left (by omega)]
theorem cut_till {xs : List V} {c : Nat} : cutV xs none (some ((c : Nat) : Int)) = xs.take (min c xs.length) := by
  unfold cutV
  rw [HT.sIx_none, HT.sIx_nat, List.drop_zero, Nat.sub_zero]
/-- lists of letters, none at the place fo -/
def LX (fo : Addr) (ns : List Int) (H : Hp) (v : V) : Prop := ∃ q, v = V.ref q ∧ q ≠ fo ∧ H q = some (.lst (iv ns))
/-- words: a list of lists of letters -/
def LLs (H : Hp) (us : List V) (ws : List (List Int)) : Prop := All2 (fun v w => LI w H v) us ws
theorem LLs.same {H H' : Hp} {us : List V} {ws : List (List Int)} (h : LLs H us ws) (s : Same H H') : LLs H' us ws := h.imp fun _ _ r => r.same s
def WordsOk (ls : List Int) (ws : List (List Int)) : Prop := ws.flatten = ls ∧ (∀ w ∈ ws, w ≠ []) ∧ 1 ≤ ws.length ∧ ws.length ≤ 4
def spCut : Sp := fun vs H Q _ => ∃ (a c p : Addr) (ls : List Int) (n : Nat), vs = [.ref a, .ref p] ∧ HandAt H a c n ∧ p ≠ a ∧ H p = some (.lst (iv ls)) ∧ 1 ≤ ls.length ∧ ls.length ≤ 60 ∧ n ≤ 7000 ∧
  ∀ l H' us ws, H l = none → Drew a c (n + 70) H H' → H' l = some (.lst us) → LLs H' us ws → WordsOk ls ws → Q (.ref l) H'
abbrev sCut : Stmt := top 71
abbrev nCut : List Str := ["_law_pen_here", "_law_letters_here", "_law_many", "_law_cuts", "_law_found", "_law_begin", "_law_cut_here"]
theorem scCut : FnScope nCut ["_law_pen_here", "_law_letters_here"] (defScope sCut) := ⟨rfl, rfl, rfl, by decide +kernel, rfl, by decide +kernel, by decide +kernel⟩
section
variable {P : Program} {w : World} {K : PySem.W.Frag} {mg : Str → Option Value} {base : Heap}
theorem ok_Cut {f : Addr} {fd : FuncData} (F : Fun K "_law_cut" "_law_cut" sCut f fd) (N : TN mg)  (G_draw : Cal P w K mg base "_law_draw" 1 ["_law_pen_here", "_law_many"] (spTake)) (G_mixed : Cal P w K mg base "_law_mixed" 2 ["_law_pen_here", "_law_some"] (spMixed)) : FnOk P w K mg base CX0 3 f fd ["_law_pen_here", "_law_letters_here"] (spCut) := by
  refine F.ok scCut (fun vs H Q E h => ?_) (fun cdv A outer s H vs Q E hr h => ?_)
  · obtain ⟨a, c, p, ls, n, rfl, _⟩ := h
    rfl
  · obtain ⟨a, c, p, ls, n, rfl, hH, hpa, hp, l1, l60, hn, k⟩ := h
    refine ⟨_, pss_cons (ps_set (i := 2) scCut.nd rfl (Or.inl rfl) (pe_op op_add pe_int (pe_cal G_draw hr (by decide) (by rfl) (pa_cons (pv 0) (pa_cons (pe_callB (call_min2 rfl) (by rfl) N.min (by decide +kernel) (pa_cons pe_int (pa_cons (pe_callB call_len_seq (by rfl) N.len PySem.boot_len (pa_cons (pv 1) pa_nil)) pa_nil))) pa_nil)))))
      (pss_cons (ps_set (i := 3) scCut.nd rfl (Or.inl rfl) (pe_callB cr_sorted (by rfl) N.sorted (by decide +kernel) (pa_cons (pe_slice sl_list (pe_cal G_mixed hr (by decide) (by rfl) (pa_cons (pv 0) (pa_cons (pe_listRg rfl (by rfl) N.list (prg_2 (by rfl) N.range pe_int (pe_callB call_len_seq (by rfl) N.len PySem.boot_len (pa_cons (pv 1) pa_nil)))) pa_nil))) po_none (po_some (pe_op op_sub (pv 2) pe_int))) pa_nil)))
      (pss_cons (ps_par (i := 4) (j := 5) (by rfl) scCut.nd rfl rfl (by decide) rfl rfl (pa_cons (pe_lst pa_nil) (pa_cons pe_int pa_nil)) (by rfl))
      (pss_cons (ps_for PassesOwn.never rfl (pi_list (pe_op op_cat (pv 3) (pe_lst (pa_cons (pe_callB call_len_seq (by rfl) N.len PySem.boot_len (pa_cons (pv 1) pa_nil)) pa_nil)))) (pg_name (i := 6) scCut.nd rfl (Or.inl rfl))
      (pss_cons (ps_expr (pe_bm PySem.F.plainAttrs_list PySem.F.slot_list_append PySem.F.type_list_append mt_append (pv 4) (pa_cons (pe_slice sl_list (pv 1) (po_some (pv 5)) (po_some (pv 6))) pa_nil)))
      (pss_one (ps_set (i := 5) scCut.nd rfl (Or.inl rfl) (pv 6)))))
      (pss_one (ps_ret (pv 4)))))), ?_⟩
    have elen : ((iv ls).length : Int) = (ls.length : Int) := by rw [List.length_map]
    refine ⟨_, rfl, _, rfl, p, _, rfl, .inl (SqL.of hp), _, _, rfl, a, c, _, n, rfl, hH, by omega, ?_, ?_, fun H1 j j0 j1 hH1 hK1 => ⟨_, _, rfl, rfl, ?_⟩⟩
    · rw [elen]; split <;> omega
    · refine Nat.lt_of_le_of_lt (m := 60) ?_ (by decide)
      rw [elen]; split <;> omega
    rw [elen] at j1
    obtain ⟨jn, rfl⟩ : ∃ jn : Nat, j = (jn : Int) := ⟨j.toNat, by omega⟩
    have jn4 : jn < 4 ∧ jn < ls.length := by split at j1 <;> omega
    have D1 : Drew a c (n + 1) H H1 := ⟨hH1, hK1⟩
    have hp1 := hK1 _ _ hpa hp
    try dsimp only
    refine ⟨_, rfl, _, rfl, p, _, rfl, .inl (SqL.of hp1), _, _, rfl, rfl, ?_, fun q hq => ?_⟩
    · rw [elen]
      exact ⟨by omega, by omega, by omega, by omega⟩
    rw [elen, show (1 : Int) = ((1 : Nat) : Int) from rfl, rgV_I]
    have D2 : Drew a c (n + 1) H (L2.upd H1 q (.lst (iv (rgI 1 ls.length)))) := D1.new hq
    have lrg := rgI_len 1 ls.length
    refine ⟨a, c, q, _, n + 1, rfl, D2.1, upd_same, by rw [List.length_map]; omega, by omega, fun lm H3 ys hlm D3 hm hperm => ?_⟩
    obtain ⟨ms, pm, rfl⟩ := perm_map hperm _ rfl
    have D3' : Drew a c (n + 1 + ls.length) H H3 := (D2.trans D3).mono (by rw [List.length_map]; omega)
    refine ⟨_, rfl, _, _, rfl, rfl, _, rfl, lm, _, rfl, SqL.of hm, fun p2 hp2 => ?_⟩
    have lms := pm.length_eq
    rw [show (((1 : Nat) : Int) + (jn : Int) - ((1 : Nat) : Int)) = ((jn : Nat) : Int) by omega, cut_till, Nat.min_eq_left (by rw [List.length_map]; omega), ← List.map_take]
    refine ⟨p2, _, rfl, SqL.of upd_same, by rw [List.length_take]; omega, fun cs p3 pc sc hp3 => ?_⟩
    have hcs : ∀ z ∈ cs, 1 ≤ z ∧ z < (ls.length : Int) := fun z hz => by
      have := rgI_mem (pm.mem_iff.mp (List.mem_of_mem_take (pc.mem_iff.mp hz)))
      omega
    have ncs : cs.Nodup := pc.nodup_iff.mpr ((pm.nodup_iff.mpr (rgI_nodup _ _)).sublist (List.take_sublist _ _))
    have lcs : cs.length ≤ 3 := by
      rw [pc.length_eq, List.length_take]
      omega
    have hlt : ((0 : Int) :: (cs ++ [(ls.length : Int)])).Pairwise (· < ·) := by
      refine List.pairwise_cons.mpr ⟨fun z hz => ?_, List.pairwise_append.mpr ⟨?_, List.pairwise_singleton _ _, fun x hx y hy => ?_⟩⟩
      · rcases List.mem_append.mp hz with hz | hz
        · have := hcs z hz
          omega
        · rw [List.mem_singleton.mp hz]
          omega
      · refine (sc.and ncs).imp fun {x y} h => ?_
        have := h.1
        have := h.2
        omega
      · rw [List.mem_singleton.mp hy]
        exact (hcs x hx).2
    obtain ⟨H4, e4⟩ : ∃ H4, H4 = L2.upd (L2.upd H3 p2 (.lst (iv (ms.take jn)))) p3 (.lst (iv cs)) := ⟨_, rfl⟩
    have D4 : Drew a c (n + 1 + ls.length) H H4 := by
      rw [e4]
      exact (D3'.new hp2).new hp3
    have g4 : H4 p3 = some (.lst (iv cs)) := by rw [e4, upd_same]
    rw [← e4]
    have hp4 := D4.2 _ _ hpa hp
    refine ⟨Nat.zero_le _, fun fo hfo => ⟨_, _, rfl, ?_⟩⟩
    have fo0 : H fo = none := D4.back hfo
    have hfa := hH.ne fo0
    have hfc := hH.neC fo0
    have D5 := D4.new (o := .lst []) hfo
    have g5 : L2.upd H4 fo (.lst []) fo = some (.lst []) := upd_same
    have g53 : L2.upd H4 fo (.lst []) p3 = some (.lst (iv cs)) := by rw [upd_ne (ne_of_none g4 hfo)]; exact g4
    have hp5 : L2.upd H4 fo (.lst []) p = some (.lst (iv ls)) := by rw [upd_ne (ne_of_none hp4 hfo)]; exact hp4
    obtain ⟨H5, e5⟩ : ∃ H5, H5 = L2.upd H4 fo (.lst []) := ⟨_, rfl⟩
    rw [← e5] at D5 g5 g53 hp5 ⊢
    refine ⟨_, rfl, _, rfl, p, _, rfl, .inl (SqL.of hp5), by show 1 ≤ sizeLine; decide, fun q2 hq2 => ?_⟩
    have s6 := same_upd (o := .lst [.int ((iv ls).length : Int)]) hq2
    refine ⟨p3, q2, _, _, rfl, rfl, s6 _ _ g53, upd_same, Evl.sz_of (by rw [List.length_map]; show cs.length + 1 ≤ _; omega), fun r hr2 => ?_⟩
    have s7 := s6.trans (same_upd (o := .lst (iv cs ++ [.int ((iv ls).length : Int)])) hr2)
    have g7 : L2.upd (L2.upd H5 q2 (.lst [.int ((iv ls).length : Int)])) r (.lst (iv cs ++ [.int ((iv ls).length : Int)])) r = some (.lst (iv (cs ++ [(ls.length : Int)]))) := by
      rw [upd_same, elen]
      simp [iv]
    obtain ⟨H7, e7⟩ : ∃ H7, H7 = L2.upd (L2.upd H5 q2 (.lst [.int ((iv ls).length : Int)])) r (.lst (iv cs ++ [.int ((iv ls).length : Int)])) := ⟨_, rfl⟩
    rw [← e7] at s7 g7 ⊢
    have les : (cs ++ [(ls.length : Int)]).length ≤ 4 := by rw [List.length_append]; show cs.length + 1 ≤ 4; omega
    have nrf : r ≠ fo := fun e => by
      rw [e] at hr2
      rw [s6 _ _ g5] at hr2
      cases hr2
    refine ⟨r, rfl, ⟨_, SqL.of g7⟩, for_list (K := K) (a := r) (xs := iv (cs ++ [(ls.length : Int)])) (fun i σ H' => ∃ (v2 v6 : Option V) (b : Nat) (us : List V) (ws : List (List Int)), σ = [some (.ref a), some (.ref p), v2, some (.ref p3), some (.ref fo), some (.int (b : Int)), v6] ∧ Drew a c (n + 70) H H' ∧ H' r = some (.lst (iv (cs ++ [(ls.length : Int)]))) ∧ H' p = some (.lst (iv ls)) ∧ H' fo = some (.lst us) ∧
        All2 (fun v w => LX fo w H' v) us ws ∧ ws.flatten = ls.take b ∧ (∀ w ∈ ws, w ≠ []) ∧ ws.length = i ∧ b ≤ ls.length ∧ (b : Int) = ((0 : Int) :: (cs ++ [(ls.length : Int)])).getD i 0)
      ⟨_, none, 0, [], [], rfl, (D5.same s7).mono (by omega), g7, s7 _ _ hp5, s7 _ _ g5, .nil, rfl, fun _ h => (nomatch h), rfl, Nat.zero_le _, rfl⟩ (fun i σ H' _ ⟨_, _, _, _, _, _, _, h, _⟩ => SqL.of h) ?_ ?_⟩
    · rintro i x σ H8 hi ⟨v2, v6, b, us, ws, rfl, D8, g8, hp8, hf8, hu, hfl, hne, hlen, hb, eb⟩
      obtain ⟨z, hz, rfl⟩ : ∃ z, (cs ++ [(ls.length : Int)])[i]? = some z ∧ x = V.int z := by
        rw [List.getElem?_map] at hi
        cases e : (cs ++ [(ls.length : Int)])[i]? with
        | none => rw [e] at hi; cases hi
        | some z => rw [e] at hi; exact ⟨z, rfl, (Option.some.inj hi).symm⟩
      have hil : i < (cs ++ [(ls.length : Int)]).length := (List.getElem?_eq_some_iff.mp hz).1
      have hbz : (b : Int) < z := by
        have := List.pairwise_iff_getElem.mp hlt i (i + 1) (by rw [List.length_cons]; omega) (by rw [List.length_cons]; omega) (by omega)
        rw [List.getElem_cons_succ, (List.getElem?_eq_some_iff.mp hz).2] at this
        rw [eb, List.getD_eq_getElem?_getD, List.getElem?_eq_getElem (by rw [List.length_cons]; omega)]
        exact this
      have hzl : z ≤ (ls.length : Int) := by
        rcases List.mem_append.mp (List.mem_of_getElem? hz) with h | h
        · have := (hcs z h).2
          omega
        · rw [List.mem_singleton.mp h]
          exact Int.le_refl _
      obtain ⟨cc, rfl⟩ : ∃ cc : Nat, z = (cc : Int) := ⟨z.toNat, by omega⟩
      refine ⟨_, rfl, .inl ⟨rfl, _, SqL.of hf8⟩, _, rfl, _, rfl, _, rfl, _, rfl, _, rfl, p, _, rfl, SqL.of hp8, fun q hq => ?_⟩
      rw [cut_mid (by omega) (by rw [List.length_map]; omega), ← List.map_drop, ← List.map_take]
      have s9 := same_upd (o := .lst (iv ((ls.drop b).take (cc - b)))) hq
      have nqf : q ≠ fo := fun e => by rw [e, hf8] at hq; cases hq
      have lus := hu.length
      refine ⟨fo, us, _, rfl, rfl, s9 _ _ hf8, Evl.sz_lt (by omega), ?_⟩
      refine ⟨_, rfl, v2, _, cc, us ++ [.ref q], ws ++ [(ls.drop b).take (cc - b)], rfl, ((D8.new hq).put fo0 hfa hfc), ?_, ?_, upd_same, ?_, ?_, ?_, ?_, by omega, ?_⟩
      · rw [upd_ne nrf]; exact s9 _ _ g8
      · rw [upd_ne (fun e => by rw [e, fo0] at hp; cases hp)]; exact s9 _ _ hp8
      · refine All2.app (hu.imp fun _ _ ⟨q', e, ne, g⟩ => ⟨q', e, ne, by rw [upd_ne ne]; exact s9 _ _ g⟩) (.cons ⟨q, rfl, nqf, by rw [upd_ne nqf, upd_same]⟩ .nil)
      · rw [List.flatten_append, hfl]
        show ls.take b ++ ((ls.drop b).take (cc - b) ++ []) = ls.take cc
        rw [List.append_nil]
        have := List.take_add (l := ls) (i := b) (j := cc - b)
        rw [← this, show b + (cc - b) = cc by omega]
      · intro w hw
        rcases List.mem_append.mp hw with hw | hw
        · exact hne w hw
        · rw [List.mem_singleton.mp hw]
          intro e
          have : ((ls.drop b).take (cc - b)).length = 0 := by rw [e]; rfl
          rw [List.length_take, List.length_drop] at this
          omega
      · rw [List.length_append, hlen]
        rfl
      · show ((cc : Nat) : Int) = ((0 : Int) :: (cs ++ [(ls.length : Int)])).getD (i + 1) 0
        rw [List.getD_eq_getElem?_getD, List.getElem?_cons_succ, hz]
        rfl
    · rintro σ H8 ⟨v2, v6, b, us, ws, rfl, D8, g8, hp8, hf8, hu, hfl, hne, hlen, hb, eb⟩
      have eb2 : b = ls.length := by
        rw [List.length_map, List.getD_eq_getElem?_getD, List.length_append] at eb
        have : ((0 : Int) :: (cs ++ [(ls.length : Int)]))[cs.length + [(ls.length : Int)].length]? = some (ls.length : Int) := by
          show ((0 : Int) :: (cs ++ [(ls.length : Int)]))[cs.length + 1]? = _
          rw [List.getElem?_cons_succ, List.getElem?_append_right (Nat.le_refl _), Nat.sub_self]
          rfl
        rw [this] at eb
        show b = ls.length
        have : (b : Int) = (ls.length : Int) := eb
        omega
      subst eb2
      rw [List.take_length] at hfl
      refine ⟨_, rfl, k fo H8 us ws fo0 D8 hf8 (hu.imp fun _ _ ⟨q, e, _, g⟩ => ⟨q, e, g⟩) ⟨hfl, hne, ?_, ?_⟩⟩
      · rw [hlen, List.length_map, List.length_append]
        exact Nat.le_add_left _ _
      · rw [hlen, List.length_map]
        exact les
end
end W16
set_option Elab.async false
set_option linter.all false
set_option maxRecDepth 100000
set_option maxHeartbeats 600000
namespace W16
open PySem L2 PySem.Spec PyProof.Rows WR WB WE
/-! ### plain words -/
def plF : List (Int × Nat) → List Int
  | [] => []
  | (k, c) :: r => (List.replicate c [k, -k]).flatten ++ plF r
theorem plF_app : ∀ xs ys : List (Int × Nat), plF (xs ++ ys) = plF xs ++ plF ys
  | [], _ => rfl
  | (k, c) :: r, ys => by
    show (List.replicate c [k, -k]).flatten ++ plF (r ++ ys) = (List.replicate c [k, -k]).flatten ++ plF r ++ plF ys
    rw [plF_app r ys, List.append_assoc]
def sumN : List (Int × Nat) → Nat
  | [] => 0
  | (_, c) :: r => c + sumN r
theorem rep_len (k : Int) : ∀ c : Nat, (List.replicate c [k, -k]).flatten.length = 2 * c
  | 0 => rfl
  | c + 1 => by
    rw [List.replicate_succ, List.flatten_cons, List.length_append, rep_len k c]
    show 2 + 2 * c = _
    omega
theorem plF_len : ∀ xs : List (Int × Nat), (plF xs).length = 2 * sumN xs
  | [] => rfl
  | (k, c) :: r => by
    show ((List.replicate c [k, -k]).flatten ++ plF r).length = 2 * (c + sumN r)
    rw [List.length_append, rep_len, plF_len r]
    omega
theorem rep_cnt (k z : Int) : ∀ c : Nat, ((List.replicate c [k, -k]).flatten.count z : Int) = c * ((if k = z then 1 else 0) + (if -k = z then 1 else 0))
  | 0 => by simp
  | c + 1 => by
    rw [List.replicate_succ, List.flatten_cons, List.count_append, Int.natCast_add, rep_cnt k z c]
    have : (([k, -k].count z : Nat) : Int) = (if k = z then 1 else 0) + (if -k = z then 1 else 0) := by
      rw [List.count_cons, List.count_cons, List.count_nil]
      by_cases h1 : k = z
      · by_cases h2 : -k = z
        · simp only [beq_iff_eq, if_pos h1, if_pos h2]; rfl
        · simp only [beq_iff_eq, if_pos h1, if_neg h2]; rfl
      · by_cases h2 : -k = z
        · simp only [beq_iff_eq, if_neg h1, if_pos h2]; rfl
        · simp only [beq_iff_eq, if_neg h1, if_neg h2]; rfl
    rw [this, Int.natCast_add, Int.add_mul]
    simp
    omega
theorem plF_cnt0 (z : Int) : ∀ xs : List (Int × Nat), ((plF xs).count z : Int) = (plF xs).count (-z)
  | [] => rfl
  | (k, c) :: r => by
    show (((List.replicate c [k, -k]).flatten ++ plF r).count z : Int) = (((List.replicate c [k, -k]).flatten ++ plF r).count (-z) : Nat)
    rw [List.count_append, List.count_append, Int.natCast_add, Int.natCast_add, plF_cnt0 z r, rep_cnt, rep_cnt]
    congr 2
    by_cases h1 : k = z <;> by_cases h2 : -k = z <;> simp [h1, h2] <;> (try split) <;> (try split) <;> omega
theorem plF_mem {z : Int} : ∀ {xs : List (Int × Nat)}, z ∈ plF xs → ∃ p ∈ xs, z = p.1 ∨ z = -p.1
  | (k, c) :: r, h => by
    rcases List.mem_append.mp h with h | h
    · obtain ⟨l, hl, hz⟩ := List.mem_flatten.mp h
      rw [List.eq_of_mem_replicate hl] at hz
      refine ⟨(k, c), List.mem_cons_self, ?_⟩
      simpa using hz
    · obtain ⟨p, hp, e⟩ := plF_mem h
      exact ⟨p, List.mem_cons_of_mem _ hp, e⟩
theorem bal_none {xs : List Int} (h : ∀ z, (xs.count z : Int) = xs.count (-z)) : Fr.bal xs = [] := by
  unfold Fr.bal
  refine List.filter_eq_nil_iff.mpr fun p hp => ?_
  obtain ⟨i, _, rfl⟩ := List.mem_map.mp hp
  have := h ((i : Int) + 1)
  show ¬ decide (Fr.cnt xs ((i : Int) + 1) ≠ 0) = true
  unfold Fr.cnt
  rw [decide_eq_true_iff]
  omega
/-- words of drawn kinds, as often as counts tell -/
structure PlainOk (cs : List Nat) (ws : List (List Int)) (ks : List Int) : Prop where
  nd : ks.Nodup
  rg : ∀ k ∈ ks, 1 ≤ k ∧ k ≤ 26
  len : ks.length = 26
  pm : ws.flatten.Perm (plF (ks.zip cs))
  ne : ∀ w ∈ ws, w ≠ []
  l1 : 1 ≤ ws.length
  l4 : ws.length ≤ 4
theorem le_sum {c : Nat} : ∀ {cs : List Nat}, c ∈ cs → c ≤ cs.sum
  | d :: r, h => by
    rw [List.sum_cons]
    rcases List.mem_cons.mp h with rfl | h
    · omega
    · have := le_sum h
      omega
theorem sum_zip : ∀ (ks : List Int) (cs : List Nat), sumN (ks.zip cs) ≤ cs.sum
  | [], _ => Nat.zero_le _
  | _ :: _, [] => Nat.zero_le _
  | k :: ks, c :: cs => by
    have := sum_zip ks cs
    rw [List.zip_cons_cons, List.sum_cons]
    show c + sumN (ks.zip cs) ≤ _
    omega
theorem PlainOk.ok {cs : List Nat} {ws : List (List Int)} {ks : List Int} (h : PlainOk cs ws ks) (hs : cs.sum ≤ 12) : RimOk ws := by
  refine ⟨h.l1, h.l4, h.ne, ?_, fun x hx => ?_, bal_none fun z => ?_⟩
  · rw [h.pm.length_eq, plF_len]
    have := sum_zip ks cs
    omega
  · obtain ⟨p, hp, e⟩ := plF_mem (h.pm.mem_iff.mp hx)
    have := h.rg p.1 (List.of_mem_zip hp).1
    omega
  · rw [h.pm.count_eq, h.pm.count_eq]
    exact plF_cnt0 z _
def spPlain : Sp := fun vs H Q _ => ∃ (a c p : Addr) (cs : List Nat) (n : Nat), vs = [.ref a, .ref p] ∧ HandAt H a c n ∧ p ≠ a ∧ H p = some (.lst (iv (nats cs))) ∧ cs.length ≤ 20 ∧ 1 ≤ cs.sum ∧ cs.sum ≤ 30 ∧ n ≤ 6000 ∧
  ∀ l H' us ws ks, H l = none → Drew a c (n + 200) H H' → H' l = some (.lst us) → LLs H' us ws → PlainOk cs ws ks → Q (.ref l) H'
abbrev sPlain : Stmt := top 72
abbrev nPlain : List Str := ["_law_pen_here", "_law_counts", "_law_kinds", "_law_letters_here", "_law_at", "_law_count"]
theorem scPlain : FnScope nPlain ["_law_pen_here", "_law_counts"] (defScope sPlain) := ⟨rfl, rfl, rfl, by decide +kernel, rfl, by decide +kernel, by decide +kernel⟩
section
variable {P : Program} {w : World} {K : PySem.W.Frag} {mg : Str → Option Value} {base : Heap}
theorem ok_Plain {f : Addr} {fd : FuncData} (F : Fun K "_law_plain" "_law_plain" sPlain f fd) (N : TN mg)  (G_cut : Cal P w K mg base "_law_cut" 3 ["_law_pen_here", "_law_letters_here"] (spCut)) (G_mixed : Cal P w K mg base "_law_mixed" 2 ["_law_pen_here", "_law_some"] (spMixed)) : FnOk P w K mg base CX0 4 f fd ["_law_pen_here", "_law_counts"] (spPlain) := by
  refine F.ok scPlain (fun vs H Q E h => ?_) (fun cdv A outer s H vs Q E hr h => ?_)
  · obtain ⟨a, c, p, cs, n, rfl, _⟩ := h
    rfl
  · obtain ⟨a, c, p, cs, n, rfl, hH, hpa, hp, l20, h1, h30, hn, k⟩ := h
    refine ⟨_, pss_cons (ps_par (i := 2) (j := 3) (by rfl) scPlain.nd rfl rfl (by decide) rfl rfl (pa_cons (pe_cal G_mixed hr (by decide) (by rfl) (pa_cons (pv 0) (pa_cons (pe_listRg rfl (by rfl) N.list (prg_2 (by rfl) N.range pe_int pe_int)) pa_nil))) (pa_cons (pe_lst pa_nil) pa_nil)) (by rfl))
      (pss_cons (ps_for PassesOwn.never rfl (pi_enum (by rfl) N.enumerate (pa_cons (pv 1) pa_nil)) (pg_tup (n := 2) rfl (pgs_cons (pg_name (i := 4) scPlain.nd rfl (Or.inl rfl)) (pgs_cons (pg_name (i := 5) scPlain.nd rfl (Or.inl rfl)) pgs_nil)))
      (pss_one (ps_set (i := 3) scPlain.nd rfl (Or.inl rfl) (pe_op op_cat (pv 3) (pe_op op_rep (pe_lst (pa_cons (pe_ix ix_list (pv 2) (pv 4) (fun _ _ => rfl)) (pa_cons (pe_un un_neg (pe_ix ix_list (pv 2) (pv 4) (fun _ _ => rfl))) pa_nil))) (pv 5))))))
      (pss_one (ps_ret (pe_cal G_cut hr (by decide) (by rfl) (pa_cons (pv 0) (pa_cons (pe_cal G_mixed hr (by decide) (by rfl) (pa_cons (pv 0) (pa_cons (pv 3) pa_nil))) pa_nil)))))), ?_⟩
    refine ⟨_, rfl, _, _, rfl, rfl, ⟨by decide, by decide, by decide, by decide, by decide⟩, fun q hq => ?_⟩
    rw [show rgV 1 27 = iv (rgI 1 27) from rgV_I 1 27]
    have D0 : Drew a c n H (L2.upd H q (.lst (iv (rgI 1 27)))) := (Drew.refl hH).new hq
    refine ⟨a, c, q, _, n, rfl, D0.1, upd_same, by rw [List.length_map, rgI_len]; decide, by omega, fun lk H1 ys hlk D1 g1 pm => ?_⟩
    obtain ⟨ks, pk, rfl⟩ := perm_map pm _ rfl
    have lks : ks.length = 26 := by rw [pk.length_eq, rgI_len]
    have D1 : Drew a c (n + 26) H H1 := (D0.trans D1).mono (by rw [List.length_map, rgI_len]; omega)
    have hp1 := D1.2 _ _ hpa hp
    refine ⟨Nat.zero_le _, fun fo hfo => ⟨_, _, rfl, ?_⟩⟩
    have s2 := same_upd (o := .lst []) hfo
    have hnc : (nats cs).length = cs.length := List.length_map ..
    refine ⟨_, rfl, p, _, rfl, SqL.of (s2 _ _ hp1), ?_⟩
    refine for_it (walk_enum (K := K) (a := p) (xs := iv (nats cs))) (fun i σ H' => ∃ (v4 v5 : Option V) (l : Addr), σ = [some (.ref a), some (.ref p), some (.ref lk), some (.ref l), v4, v5] ∧ Drew a c (n + 26) H H' ∧ H' p = some (.lst (iv (nats cs))) ∧ H' lk = some (.lst (iv ks)) ∧ H' l = some (.lst (iv (plF ((ks.zip cs).take i)))))
      ⟨none, none, fo, rfl, D1.same s2, s2 _ _ hp1, s2 _ _ g1, upd_same⟩ (fun i σ H' _ ⟨_, _, _, _, _, h, _⟩ => SqL.of h) ?_ ?_
    · rintro i x σ H3 H4 hi ⟨v4, v5, l, rfl, D3, hp3, hk3, hl3⟩ ⟨T0, xi, yi, rfl, hT0, rfl, hx, hy⟩
      have hin : i < cs.length := by rw [List.length_map, hnc] at hi; exact hi
      obtain rfl := Option.some.inj hx
      have hik : i < ks.length := by omega
      have ey : yi = V.int ((cs[i] : Nat) : Int) := by
        have hy : (iv (nats cs))[i]? = some yi := hy
        unfold nats at hy
        rw [List.getElem?_map, List.getElem?_map, List.getElem?_eq_getElem hin] at hy
        exact (Option.some.inj hy).symm
      subst ey
      have sT := same_upd (o := .tup [.int (i : Int), V.int ((cs[i] : Nat) : Int)]) hT0
      have D4 := D3.same sT
      have hp4 := sT _ _ hp3
      have hk4 := sT _ _ hk3
      have hl4 := sT _ _ hl3
      have gT : L2.upd H3 T0 (.tup [.int (i : Int), V.int ((cs[i] : Nat) : Int)]) T0 = some (.tup [.int (i : Int), V.int ((cs[i] : Nat) : Int)]) := upd_same
      obtain ⟨H4, e4⟩ : ∃ H4, H4 = L2.upd H3 T0 (.tup [.int (i : Int), V.int ((cs[i] : Nat) : Int)]) := ⟨_, rfl⟩
      rw [← e4] at D4 hp4 hk4 hl4 gT ⊢
      refine ⟨T0, _, rfl, SqT.of gT, rfl, _, _, rfl, _, _, rfl, rfl, ?_⟩
      have hat : (iv ks)[i]? = some (V.int ks[i]) := iv_get (List.getElem?_eq_getElem hik)
      have hz : (ks.zip cs)[i]? = some (ks[i], cs[i]) := by
        rw [List.getElem?_zip_eq_some]
        exact ⟨List.getElem?_eq_getElem hik, List.getElem?_eq_getElem hin⟩
      have hzl : i < (ks.zip cs).length := (List.getElem?_eq_some_iff.mp hz).1
      have hst : plF ((ks.zip cs).take (i + 1)) = plF ((ks.zip cs).take i) ++ (List.replicate cs[i] [ks[i], -ks[i]]).flatten := by
        rw [List.take_succ_eq_append_getElem hzl, plF_app, (List.getElem?_eq_some_iff.mp hz).2]
        show _ ++ ((List.replicate cs[i] [ks[i], -ks[i]]).flatten ++ []) = _
        rw [List.append_nil]
      have hcb : cs[i] ≤ 30 := by
        have := le_sum (List.getElem_mem hin)
        omega
      have hpl : (plF ((ks.zip cs).take i)).length ≤ 60 := by
        rw [plF_len]
        have h1 : sumN ((ks.zip cs).take i) ≤ cs.sum := by
          rw [List.zip_eq_zipWith, List.take_zipWith, ← List.zip_eq_zipWith]
          refine Nat.le_trans (sum_zip _ _) ?_
          have := List.take_append_drop i cs
          have e2 : (cs.take i).sum + (cs.drop i).sum = cs.sum := by rw [← List.sum_append, this]
          omega
        omega
      generalize ks[i] = z at hat hst ⊢
      generalize cs[i] = cc at hst hcb ⊢
      refine ⟨_, rfl, _, rfl, _, rfl, lk, _, _, _, rfl, rfl, SqL.of hk4, atI_nat hat, _, rfl, _, rfl, lk, _, _, _, rfl, rfl, SqL.of hk4, atI_nat hat, _, rfl, by show 2 ≤ sizeLine; decide, fun q1 hq1 => ?_⟩
      have s5 := same_upd (o := .lst [.int z, .int (-z)]) hq1
      refine ⟨_, rfl, q1, (cc : Int), _, rfl, rfl, upd_same, by omega, by omega, Evl.sz_of (by show 2 * ((cc : Nat) : Int).toNat ≤ _; omega), fun q2 hq2 => ?_⟩
      have erep : (List.replicate (((cc : Nat) : Int).toNat) [V.int z, V.int (-z)]).flatten = iv (List.replicate cc [z, -z]).flatten := by
        rw [Int.toNat_natCast]
        simp [iv]
      rw [erep]
      have s6 := s5.trans (same_upd (o := .lst (iv (List.replicate cc [z, -z]).flatten)) hq2)
      refine ⟨l, q2, _, _, rfl, rfl, s6 _ _ hl4, upd_same, Evl.sz_of (by rw [List.length_map, List.length_map, rep_len]; omega), fun q3 hq3 => ?_⟩
      have s7 := s6.trans (same_upd (o := .lst (iv (plF ((ks.zip cs).take i)) ++ iv (List.replicate cc [z, -z]).flatten)) hq3)
      refine ⟨_, _, q3, rfl, D4.same s7, s7 _ _ hp4, s7 _ _ hk4, ?_⟩
      rw [upd_same, hst]
      simp [iv]
    · rintro σ H3 ⟨v4, v5, l, rfl, D3, hp3, hk3, hl3⟩
      have lzip : (ks.zip cs).length = cs.length := by rw [List.length_zip]; omega
      rw [List.length_map, hnc, ← lzip, List.take_length] at hl3
      have lpl : (plF (ks.zip cs)).length = 2 * sumN (ks.zip cs) := plF_len _
      have hsum : sumN (ks.zip cs) = cs.sum := by
        have : ∀ (ks : List Int) (cs : List Nat), cs.length ≤ ks.length → sumN (ks.zip cs) = cs.sum := by
          intro ks
          induction ks with
          | nil => intro cs h; cases cs with | nil => rfl | cons => exact absurd h (by simp)
          | cons k ks ih =>
            intro cs h
            cases cs with
            | nil => rfl
            | cons c cs =>
              rw [List.zip_cons_cons, List.sum_cons]
              show c + sumN (ks.zip cs) = _
              rw [ih cs (by simpa using h)]
        exact this ks cs (by omega)
      refine ⟨_, rfl, _, rfl, _, rfl, a, c, l, _, n + 26, rfl, D3.1, hl3, by rw [List.length_map]; omega, by omega, fun l2 H4 ys2 hl2 D4 g4 pm2 => ?_⟩
      obtain ⟨ms, pm3, rfl⟩ := perm_map pm2 _ rfl
      have D4' := (D3.trans D4).mono (n := n + 100) (by rw [List.length_map]; omega)
      have lms := pm3.length_eq
      refine ⟨a, c, l2, ms, n + 100, rfl, D4'.1, D3.1.ne hl2, g4, by omega, by omega, by omega, fun l3 H5 us ws hl3' D5 g5 hLL hok => ?_⟩
      obtain ⟨o1, o2, o3, o4⟩ := hok
      refine k l3 H5 us ws ks (D4'.back hl3') ((D4'.trans D5).mono (by omega)) g5 hLL ⟨pk.nodup_iff.mpr (rgI_nodup _ _), fun x hx => ?_, lks, by rw [o1]; exact pm3, o2, o3, o4⟩
      have := rgI_mem (pk.mem_iff.mp hx)
      omega
end
end W16
set_option Elab.async false
set_option linter.all false
set_option maxRecDepth 100000
set_option maxHeartbeats 600000
namespace W16
open PySem L2 PySem.Spec PyProof.Rows WR WB WE
theorem all_word {K : PySem.W.Frag} {C : Addr} {H : Hp} {vs : List V} {ws : List (List Int)} (h : All2 (fun v ns => ∃ q, v = V.ref q ∧ WordAt K C H q ns) vs ws) : ∃ qs : List Addr, vs = qs.map V.ref ∧ Wds K C H qs ws := by
  induction h with
  | nil => exact ⟨[], rfl, .nil⟩
  | cons h1 _ ih =>
    obtain ⟨q, rfl, hq⟩ := h1
    obtain ⟨qs, rfl, hqs⟩ := ih
    exact ⟨q :: qs, rfl, .cons hq hqs⟩
theorem WordAt.keptL {K : PySem.W.Frag} {C : Addr} {H H' : Hp} {l p : Addr} {vs : List V} {ns : List Int} (hl : H l = some (.lst vs)) (d : Kept l H H') (h : WordAt K C H p ns) : WordAt K C H' p ns := by
  obtain ⟨dx, tl, tk, ks, h1, h2, h3, h4⟩ := h
  refine ⟨dx, tl, tk, ks, d _ _ (fun z => ?_) h1, SqB.keptL hl d h2, SqT.keptL hl d h3, h4⟩
  rw [z, hl] at h1
  cases h1
theorem pe_wordK {X : Cx} {K : PySem.W.Frag} {C : Addr} {p pos : Pos} {e : Expr} {es : List Expr} {t : TA} {j : Nat} (hK : X.K = K) (M : MkW X.prog X.w K X.mg X.base C) (T : TxW K X.mg C) (hr : Room j X.A) (hkj : 5 ≤ j) (hg : Gl X "Word") (ha : PA X (e :: es) t)
    (he : starEach (e :: es) X.env = (false, eval e X.env) :: starEach es X.env := by rfl) (hpl : (backTo pos (starEach es X.env)).any (·.1) = false := by rfl) : PE X (.Call (.Name "Word" p) (e :: es) [] pos) (tMake C (spInit K C) [] E0 t) := by
  subst hK
  exact pe_word M T hr hkj hg ha he hpl
theorem call_lenK {X : Cx} {K : PySem.W.Frag} (h : X.K = K) : CallR X (.builtin "len") (fun xs H Q => ∃ p ys, xs = [.ref p] ∧ (SqL K H p ys ∨ SqT K H p ys) ∧ Q (.int ys.length) H) := h ▸ call_len_seq
/-! ### plain words made to rims; nexts, letters -/
def spLRims (K : PySem.W.Frag) (C CR : Addr) : Sp := fun vs H Q _ => ∃ (p : Addr) (us : List V) (ws : List (List Int)), vs = [.ref p] ∧ H p = some (.lst us) ∧ LLs H us ws ∧ RimOk ws ∧ ∀ q H' xs, Same H H' → RimsAt K C CR H' q xs ws → Q (.ref q) H'
abbrev sLRims : Stmt := top 73
abbrev nLRims : List Str := ["_law_words", "_law_word"]
theorem scLRims : FnScope nLRims ["_law_words"] (defScope sLRims) := ⟨rfl, rfl, rfl, by decide +kernel, rfl, by decide +kernel, by decide +kernel⟩
def spLets : Sp := fun vs H Q _ => ∃ (p : Addr) (us : List V) (ws : List (List Int)), vs = [.ref p] ∧ H p = some (.lst us) ∧ LLs H us ws ∧ ws.flatten.length ≤ 60 ∧ ∀ l H', H l = none → Same H H' → H' l = some (.lst (iv ws.flatten)) → Q (.ref l) H'
abbrev sLets : Stmt := top 74
abbrev nLets : List Str := ["_law_words", "_law_found", "_law_word"]
theorem scLets : FnScope nLets ["_law_words"] (defScope sLets) := ⟨rfl, rfl, rfl, by decide +kernel, rfl, by decide +kernel, by decide +kernel⟩
theorem ret_mk_lc {C : Addr} {sq : Sp} {wi : TI} {g : TG} {tt : TT} {te : TE} {vs : List Nat} {D : Ends} {σ : L2.St} {H : Hp}
    (h : wi σ H fun J H1 => tLc (fun _ H R => R J H) g tt te vs σ H1 fun y H2 => tMake C sq [] E0 (fun _ H Q => Q [y] H) σ H2 D.rt) : tRet (tMake C sq [] E0 (tCons (tLc wi g tt te vs) tNil)) D σ H := h
section
variable {P : Program} {w : World} {K : PySem.W.Frag} {mg : Str → Option Value} {base : Heap} {C CR : Addr}
theorem ok_LRims {f : Addr} {fd : FuncData} (F : Fun K "_law_rims" "_law_rims" sLRims f fd) (N : TN mg) (T : TxW K mg C) (TC : TxRC K mg CR) (MW : MkW P w K mg base C) (MR : MkR P w K mg base C CR)  : FnOk P w K mg base CX0 6 f fd ["_law_words"] (spLRims K C CR) := by
  refine F.ok scLRims (fun vs H Q E h => ?_) (fun cdv A outer s H vs Q E hr h => ?_)
  · obtain ⟨p, us, ws, rfl, _⟩ := h
    rfl
  · obtain ⟨p, us, ws, rfl, hp, hu, ok, k⟩ := h
    refine ⟨_, pss_one (ps_ret (pe_rims (mg := mg) MR TC hr (by decide) (by rfl) (pa_cons (pe_lc (own := [("_law_word", 1)]) (g := gName 1) (tt := tYes) rfl scLRims.nd (pi_list (pv 0)) (blkOk_by (N := nLRims) (sc := defScope sLRims) (by decide +kernel)) (fun _ _ _ _ _ => (pg_name (i := 1) scLRims.nd rfl (Or.inl rfl))) (fun _ _ _ _ _ => pts_nil) (fun _ _ _ _ _ => (pe_wordK (K := K) rfl MW T hr (by decide) (by rfl) (pa_cons (pv 1) pa_nil)))) pa_nil))), ?_⟩
    obtain ⟨o1, o2, o3, o4, o5, o6⟩ := id ok
    have lu := hu.length
    refine ret_mk_lc ?_
    refine ⟨_, rfl, p, rfl, ⟨_, SqL.of hp⟩, ?_⟩
    refine lcM (walk_list (K := K) (a := p) (xs := us)) ws (fun _ H v ns => ∃ q, v = V.ref q ∧ WordAt K C H q ns) (fun _ _ _ _ _ ⟨q, e, h⟩ s => ⟨q, e, h.same s⟩) ?_ (by omega) lu (fun H s => SqL.of (s _ _ hp)) ?_ (fun x σ1 H A B k h => gName_mono k h) ?_
    · rintro D2 H5 ws5 o v ns hD5 ⟨q, e, h⟩
      exact ⟨q, e, h.keptL hD5 Kept.upd⟩
    · intro i x u hx hu' D2 H5 hD2 _ s5 Qy ky
      obtain ⟨u', hu2, ⟨q, rfl, hq⟩⟩ := hu.at hx
      obtain rfl : u' = u := Option.some.inj (hu2.symm.trans hu')
      have hmem := List.mem_of_getElem? hu'
      have hlu : u'.length ≤ 24 := Nat.le_trans (word_le hmem) o4
      refine ⟨rfl, _, rfl, fun xw dxw nx ndx _ => make_at nx ndx (.inl (SqL.of (s5 _ _ hq))) (by omega) (o5.word hmem) fun H6 s6 W6 => ?_⟩
      exact ky _ H6 s6 ⟨xw, rfl, W6⟩
    intro D2 H5 vs2 hD2 s5 h5 r5
    obtain ⟨qs, eqs, hW⟩ := all_word r5
    rw [eqs] at h5
    intro px dpx npx ndpx _
    exact rims_at npx ndpx (SqL.of h5) hW ok fun H6 s6 R6 => k px H6 qs (s5.trans s6) R6
theorem ok_Lets {f : Addr} {fd : FuncData} (F : Fun K "_law_letters" "_law_letters" sLets f fd) (N : TN mg)   : FnOk P w K mg base CX0 1 f fd ["_law_words"] (spLets) := by
  refine F.ok scLets (fun vs H Q E h => ?_) (fun cdv A outer s H vs Q E hr h => ?_)
  · obtain ⟨p, us, ws, rfl, _⟩ := h
    rfl
  · obtain ⟨p, us, ws, rfl, hp, hu, l60, k⟩ := h
    refine ⟨_, pss_cons (ps_set (i := 1) scLets.nd rfl (Or.inl rfl) (pe_lst pa_nil))
      (pss_cons (ps_for PassesOwn.never rfl (pi_list (pv 0)) (pg_name (i := 2) scLets.nd rfl (Or.inl rfl))
      (pss_one (ps_set (i := 1) scLets.nd rfl (Or.inl rfl) (pe_op op_cat (pv 1) (pe_callTy call_list_of (by rfl) N.list (by decide +kernel) (pa_cons (pv 2) pa_nil))))))
      (pss_one (ps_ret (pv 1)))), ?_⟩
    have lu := hu.length
    refine ⟨Nat.zero_le _, fun fo hfo => ?_⟩
    have s1 := same_upd (o := .lst []) hfo
    refine ⟨_, rfl, p, rfl, ⟨_, SqL.of (s1 _ _ hp)⟩, for_list (K := K) (a := p) (xs := us) (fun i σ H' => ∃ (v2 : Option V) (l : Addr), σ = [some (.ref p), some (.ref l), v2] ∧ Same H H' ∧ H l = none ∧ H' l = some (.lst (iv (ws.take i).flatten)))
      ⟨none, fo, rfl, s1, hfo, upd_same⟩ (fun i σ H' _ ⟨_, _, _, s, _⟩ => SqL.of (s _ _ hp)) ?_ ?_⟩
    · rintro i x σ H3 hi ⟨v2, l, rfl, s3, hl0, hl3⟩
      obtain ⟨u, hu2, ⟨q, rfl, hq⟩⟩ := hu.at hi
      have hil : i < ws.length := (List.getElem?_eq_some_iff.mp hu2).1
      have hq3 := s3 _ _ hq
      have hst : (ws.take (i + 1)).flatten = (ws.take i).flatten ++ u := by
        rw [List.take_succ_eq_append_getElem hil, (List.getElem?_eq_some_iff.mp hu2).2, List.flatten_append]
        simp
      have hfl : (ws.take i).flatten.length + u.length ≤ 60 := by
        rw [← List.length_append, ← hst]
        refine Nat.le_trans ?_ l60
        have := congrArg (fun z : List (List Int) => z.flatten.length) (List.take_append_drop (i + 1) ws)
        rw [List.flatten_append, List.length_append] at this
        omega
      refine ⟨_, rfl, _, rfl, q, _, rfl, .inl (SqL.of hq3), fun q1 hq1 => ?_⟩
      have s4 := same_upd (o := .lst (iv u)) hq1
      refine ⟨l, q1, _, _, rfl, rfl, s4 _ _ hl3, upd_same, Evl.sz_of (by rw [List.length_map, List.length_map]; omega), fun q4 hq4 => ?_⟩
      refine ⟨_, q4, rfl, s3.trans (s4.trans (same_upd hq4)), (s3.trans s4).free hq4, ?_⟩
      rw [upd_same, hst]
      simp [iv]
    · rintro σ H3 ⟨v2, l, rfl, s3, hl0, hl3⟩
      rw [lu, List.take_length] at hl3
      exact ⟨_, rfl, k l H3 hl0 s3 hl3⟩
end
end W16
set_option Elab.async false
set_option linter.all false
set_option maxRecDepth 100000
set_option maxHeartbeats 600000
namespace W16
open PySem L2 PySem.Spec PyProof.Rows WR WB WE
/-! ### corners, by the law's own going round -/
theorem inV_nats {p : Nat} {s : List Nat} : inV (.int (p : Int)) (iv (nats s)) = decide (p ∈ s) := by
  unfold inV iv nats
  rw [List.map_map, List.any_map, Bool.eq_iff_iff, List.any_eq_true, decide_eq_true_iff]
  constructor
  · rintro ⟨x, hx, e⟩
    have : V.int ((x : Nat) : Int) = V.int (p : Int) := by
      have e : eqV (V.int ((x : Nat) : Int)) (V.int (p : Int)) = true := e
      simpa [eqV] using e
    injection this with this
    have : x = p := by omega
    exact this ▸ hx
  · intro h
    refine ⟨p, h, ?_⟩
    show eqV (V.int ((p : Nat) : Int)) (V.int (p : Int)) = true
    simp [eqV]
theorem flat_nats (s : List Nat) : (iv (nats s)).all flatV = true := by
  unfold iv nats
  rw [List.map_map, List.all_eq_true]
  intro x hx
  obtain ⟨y, _, rfl⟩ := List.mem_map.mp hx
  rfl
end W16
set_option Elab.async false
set_option linter.all false
set_option maxRecDepth 100000
set_option maxHeartbeats 1000000
/-! sorted of a list of tuples of ints, none empty, of any length. -/
namespace SrtT
open PySem PySem.Spec PyProof.Rows Srt SrtO L2
/-- by the first that differ, and the shorter one ahead -/
def lexL : List Int → List Int → Bool
  | [], [] => false
  | [], _ :: _ => true
  | _ :: _, [] => false
  | x :: r, y :: s => if x = y then lexL r s else decide (x < y)
theorem lexL_irr : ∀ a : List Int, lexL a a = false
  | [] => rfl
  | x :: r => by
    show (if x = x then lexL r r else _) = false
    rw [if_pos rfl]
    exact lexL_irr r
theorem lexL_cons {x y : Int} {r s : List Int} : lexL (x :: r) (y :: s) = true ↔ x < y ∨ (x = y ∧ lexL r s = true) := by
  show (if x = y then lexL r s else decide (x < y)) = true ↔ _
  by_cases e : x = y
  · rw [if_pos e]
    constructor
    · exact fun h => .inr ⟨e, h⟩
    · rintro (h | h)
      · omega
      · exact h.2
  · rw [if_neg e, decide_eq_true_eq]
    constructor
    · exact .inl
    · rintro (h | h)
      · exact h
      · exact absurd h.1 e
section
variable {prog : Program} {w : World} {A : Around} {E : Value → Shared → Prop} {s : Shared}
/-- a tuple of ints -/
def IsTI (h : Heap) (v : Value) (ns : List Int) : Prop := ∃ a o its n, v = .ref a ∧ h.get? a = some o ∧ o.cls = .type "tuple" ∧ o.data = .seq its n ∧ Vals (ns.map V.int) its.toList
theorem IsTI.keeps {h h' : Heap} {v : Value} {ns : List Int} (p : IsTI h v ns) (k : ∀ b o, h.get? b = some o → o.cls = .type "tuple" → h'.get? b = some o) : IsTI h' v ns := by
  obtain ⟨a, o, its, n, e, ho, hc, hd, r⟩ := p
  exact ⟨a, o, its, n, e, k _ _ ho hc, hc, hd, r⟩
end
end SrtT
/-! the same, told by what stands in the tuples -/
namespace SrtT
open PySem PySem.Spec PyProof.Rows Srt SrtO L2
end SrtT
set_option Elab.async false
set_option linter.all false
set_option maxRecDepth 100000
set_option maxHeartbeats 1000000
/-! one step into a reading, whatever stands in it: no helper for each shape. -/
namespace STP
open PySem PySem.Spec PyProof.Rows L2
variable {σ : L2.St} {H : Hp} {D : Ends}
theorem seq {t u : TS} (h : t { D with nx := u D } σ H) : tSeq t u D σ H := h
theorem nx {f b c : L2.St → Hp → Prop} {r : VK} (h : f σ H) : tNext { nx := f, rt := r, bk := b, ct := c } σ H := h
theorem ret {t : TE} (h : t σ H D.rt) : tRet t D σ H := h
theorem asg {t : TE} {g : TG} (h : t σ H fun x H1 => g x σ H1 D.nx) : tAsg t g D σ H := h
theorem ifS {c : TT} {t u : TS} (h : c σ H fun b H1 => if b = true then t D σ H1 else u D σ H1) : tIfS c t u D σ H := h
theorem test {t : TE} {Q : Bool → Hp → Prop} (h : t σ H fun x H' => ∃ k, x = .bl k ∧ Q k H') : tTest t σ H Q := h
theorem op {r : R2} {ta tb : TE} {Q : VK} (h : ta σ H fun x H1 => tb σ H1 fun y H2 => r x y H2 Q) : tOp r ta tb σ H Q := h
theorem cb {r : List V → Hp → VK → Prop} {t : TA} {Q : VK} (h : t σ H fun vs H1 => r vs H1 Q) : tCB r t σ H Q := h
theorem call {sp : Sp} {dvs : List V} {E : XK} {t : TA} {Q : VK} (h : t σ H fun vs H1 => sp (vs ++ dvs) H1 Q E) : tCall sp dvs E t σ H Q := h
theorem cons {ta : TE} {tr : TA} {Q : List V → Hp → Prop} (h : ta σ H fun x H1 => tr σ H1 fun xs H2 => Q (x :: xs) H2) : tCons ta tr σ H Q := h
theorem nil {Q : List V → Hp → Prop} (h : Q [] H) : tNil σ H Q := h
theorem lc {wi : TI} {g : TG} {tt : TT} {te : TE} {vs : List Nat} {Q : VK} (h : wi σ H fun J H1 => tLc (fun _ H R => R J H) g tt te vs σ H1 Q) : tLc wi g tt te vs σ H Q := h
theorem name {i : Nat} {v : V} {f : L2.St → Hp → Prop} (h : f (σ.set i (some v)) H) : gName i v σ H f := h
theorem lst {t : TA} {Q : VK} (h : t σ H fun xs H1 => xs.length ≤ sizeLine ∧ ∀ l, H1 l = none → Q (.ref l) (L2.upd H1 l (.lst xs))) : tLst t σ H Q := h
theorem expr {t : TE} (h : t σ H fun _ H1 => D.nx σ H1) : tDrop t D σ H := h
theorem bm {K : PySem.W.Frag} {T : String} {r : V → List V → Hp → VK → Prop} {to : TE} {t : TA} {Q : VK} (h : to σ H fun x H1 => tyV K T x H1 ∧ t σ H1 fun xs H2 => r x xs H2 Q) : tBM K T r to t σ H Q := h
theorem tif {c : TT} {a b : TE} {Q : VK} (h : c σ H fun d H1 => if d = true then a σ H1 Q else b σ H1 Q) : tIf c a b σ H Q := h
theorem andV {ta tb : TE} {Q : VK} (h : ta σ H fun x H1 => ∃ c, x = .bl c ∧ if c = true then tb σ H1 Q else Q (.bl false) H1) : tAndV ta tb σ H Q := h
end STP
set_option Elab.async false
set_option linter.all false
set_option maxRecDepth 100000
set_option maxHeartbeats 1000000
namespace W16
open PySem L2 PySem.Spec PyProof.Rows WR WB WE SrtT
/-! ### all mates: each once, ascending, none left out -/
/-- r tells what m tells -/
def Agr (m : List (Option Nat)) (r : List Nat) : Prop := r.length = m.length ∧ ∀ i x : Nat, m[i]? = some (some x) → r[i]? = some x
theorem any_false {m : List (Option Nat)} (h : ¬ m.any Option.isNone = true) : m.any Option.isNone = false := by
  cases z : m.any Option.isNone with
  | false => rfl
  | true => exact absurd z h
theorem Agr.done {m : List (Option Nat)} {r : List Nat} (h : Agr m r) (no : m.any Option.isNone = false) : m.map (·.getD 0) = r := by
  refine List.ext_getElem (by rw [List.length_map]; exact h.1.symm) fun i h1 h2 => ?_
  rw [List.getElem_map]
  rw [List.length_map] at h1
  rw [List.any_eq_false] at no
  have := no m[i] (List.getElem_mem h1)
  cases e : m[i] with
  | none => rw [e] at this; exact absurd rfl this
  | some x =>
    have := h.2 i x (by rw [List.getElem?_eq_getElem h1, e])
    rw [List.getElem?_eq_getElem h2] at this
    exact (Option.some.inj this).symm
theorem Agr.of_done {m : List (Option Nat)} (no : m.any Option.isNone = false) : Agr m (m.map (·.getD 0)) := by
  refine ⟨by rw [List.length_map], fun i x hx => ?_⟩
  rw [List.getElem?_map, hx]
  rfl
theorem fill_agr {ls : List Int} (hl : Lts ls) : ∀ (d : Nat) (m : List (Option Nat)), MtOk ls m → ∀ r ∈ fillF (prtF ls) d m, Agr m r
  | 0, m, _, r, hr => nomatch hr
  | d + 1, m, h, r, hr => by
    by_cases no : m.any Option.isNone = true
    · rw [fill_yes no, List.mem_flatten] at hr
      obtain ⟨l, hl1, hr⟩ := hr
      obtain ⟨q, hq, rfl⟩ := List.mem_map.mp hl1
      unfold fillG at hr
      split at hr
      · rename_i hn
        have lp := fN_lt no
        have hp := fN_at no
        have hq2 := getD_none hn
        obtain ⟨a, b⟩ := prt_at (by rw [← h.1]; exact lp) hq
        have ih := fill_agr hl d _ (h.step hl hp hq2 b) r hr
        refine ⟨by rw [ih.1, List.length_set, List.length_set], fun i x hx => ih.2 i x ?_⟩
        have n1 : i ≠ q := fun z => by rw [z, hq2] at hx; injection hx with z; cases z
        have n2 : i ≠ fN m := fun z => by rw [z, hp] at hx; injection hx with z; cases z
        rw [List.getElem?_set, if_neg (fun z => n1 z.symm), List.getElem?_set, if_neg (fun z => n2 z.symm)]
        exact hx
      · cases hr
    · have no' := any_false no
      rw [fill_no no', List.mem_singleton] at hr
      rw [hr]
      exact Agr.of_done no'
theorem mat_at {ls : List Int} {r : List Nat} (h : MatOk ls (nats r)) {p q : Nat} (hp : r[p]? = some q) : p < ls.length ∧ q < ls.length ∧ q ≠ p ∧ r[q]? = some p ∧ ls.getD q 0 = -ls.getD p 0 := by
  obtain ⟨⟨⟨hlen, rng⟩, inv⟩, con⟩ := h
  have e1 : (nats r).length = r.length := List.length_map _
  obtain ⟨lp, eq⟩ := List.getElem?_eq_some_iff.mp hp
  have lp2 : p < (nats r).length := by rw [e1]; exact lp
  have g : (nats r)[p] = (q : Int) := by
    show (r.map fun (x : Nat) => (x : Int))[p]'(by rw [List.length_map]; exact lp) = _
    rw [List.getElem_map, eq]
  have i1 := inv p lp2
  have c1 := con p lp2
  rw [g, Int.toNat_natCast] at i1 c1
  have i2 := i1.2
  have rq := rng _ (List.getElem_mem lp2)
  rw [g] at rq
  refine ⟨by rw [← hlen, e1]; exact lp, by omega, fun z => i1.1 (by rw [z]), ?_, c1⟩
  show r[q]? = some p
  have : (nats r)[q]? = (r[q]?).map fun (x : Nat) => (x : Int) := List.getElem?_map
  rw [this] at i2
  cases e : r[q]? with
  | none => rw [e] at i2; cases i2
  | some x =>
    rw [e] at i2
    have z : ((x : Nat) : Int) = (p : Int) := Option.some.inj i2
    rw [show x = p by omega]
theorem in_prt {ls : List Int} {p q : Nat} (hp : p < ls.length) (hq : q < ls.length) (h : ls.getD q 0 = -ls.getD p 0) : q ∈ (prtF ls).getD p [] := by
  unfold prtF
  rw [List.getD_eq_getElem?_getD, List.getElem?_map, List.getElem?_eq_getElem hp]
  show q ∈ (List.range ls.length).filter fun j => decide (ls.getD j 0 = -ls[p])
  rw [List.mem_filter, List.mem_range, decide_eq_true_eq]
  refine ⟨hq, ?_⟩
  rw [h, List.getD_eq_getElem?_getD, List.getElem?_eq_getElem hp]
  rfl
theorem set2_cN {m : List (Option Nat)} {p q : Nat} (hp : m[p]? = some none) (hq : m[q]? = some none) (n : q ≠ p) : cN ((m.set p (some q)).set q (some p)) + 2 = cN m := by
  have a := cN_none (x := q) hp
  have b : cN ((m.set p (some q)).set q (some p)) + 1 = cN (m.set p (some q)) := cN_none (by
    rw [List.getElem?_set, if_neg (fun z => n z.symm)]
    exact hq)
  omega
/-- none is left out -/
theorem fill_all {ls : List Int} (hl : Lts ls) {r : List Nat} (hr : MatOk ls (nats r)) : ∀ (d : Nat) (m : List (Option Nat)), MtOk ls m → Agr m r → cN m < d → r ∈ fillF (prtF ls) d m
  | 0, m, _, _, hd => absurd hd (Nat.not_lt_zero _)
  | d + 1, m, h, ag, hd => by
    by_cases no : m.any Option.isNone = true
    · have lp := fN_lt no
      have hp := fN_at no
      have lr : fN m < r.length := by rw [ag.1]; exact lp
      obtain ⟨q, eq⟩ : ∃ q, r[fN m]? = some q := ⟨_, List.getElem?_eq_getElem lr⟩
      obtain ⟨a1, a2, a3, a4, a5⟩ := mat_at hr eq
      have hq : m[q]? = some none := by
        have lq : q < m.length := by rw [h.1]; exact a2
        cases e : m[q] with
        | none => rw [List.getElem?_eq_getElem lq, e]
        | some x =>
          have hx : m[q]? = some (some x) := by rw [List.getElem?_eq_getElem lq, e]
          have rx := ag.2 q x hx
          rw [a4] at rx
          obtain rfl := Option.some.inj rx
          have := (h.2 q _ hx).2.2.1
          rw [hp] at this
          cases this
      rw [fill_yes no, List.mem_flatten]
      refine ⟨fillG (prtF ls) d m q, List.mem_map.mpr ⟨q, in_prt a1 a2 a5, rfl⟩, ?_⟩
      unfold fillG
      rw [if_pos (by rw [List.getD_eq_getElem?_getD, hq]; rfl)]
      have lq := (List.getElem?_eq_some_iff.mp hq).1
      have c2 := set2_cN hp hq a3
      refine fill_all hl hr d _ (h.step hl hp hq a5) ⟨by rw [List.length_set, List.length_set]; exact ag.1, fun i x hx => ?_⟩ (by omega)
      rw [set2_at lp lq a3] at hx
      by_cases e1 : i = q
      · rw [if_pos e1] at hx
        injection hx with z
        injection z with z
        rw [e1, a4, z]
      · rw [if_neg e1] at hx
        by_cases e2 : i = fN m
        · rw [if_pos e2] at hx
          injection hx with z
          injection z with z
          rw [e2, eq, z]
        · rw [if_neg e2] at hx
          exact ag.2 i x hx
    · have no' := any_false no
      rw [fill_no no', List.mem_singleton]
      exact (ag.done no').symm
theorem lex_at : ∀ {a b : List Int} {p : Nat} {x y : Int}, (∀ i, i < p → a[i]? = b[i]?) → a[p]? = some x → b[p]? = some y → x < y → lexL a b = true
  | [], _, p, _, _, _, h, _, _ => by rw [List.getElem?_nil] at h; cases h
  | _ :: _, [], p, _, _, _, _, h, _ => by rw [List.getElem?_nil] at h; cases h
  | u :: a, v :: b, 0, x, y, _, h1, h2, l => by
    rw [List.getElem?_cons_zero] at h1 h2
    obtain rfl := Option.some.inj h1
    obtain rfl := Option.some.inj h2
    exact lexL_cons.mpr (.inl l)
  | u :: a, v :: b, p + 1, x, y, h, h1, h2, l => by
    have e := h 0 (Nat.succ_pos _)
    rw [List.getElem?_cons_zero, List.getElem?_cons_zero] at e
    rw [List.getElem?_cons_succ] at h1 h2
    exact lexL_cons.mpr (.inr ⟨Option.some.inj e, lex_at (fun i hi => by
      have := h (i + 1) (Nat.succ_lt_succ hi)
      rw [List.getElem?_cons_succ, List.getElem?_cons_succ] at this
      exact this) h1 h2 l⟩)
theorem nats_at {r : List Nat} {i : Nat} : (nats r)[i]? = (r[i]?).map fun (x : Nat) => (x : Int) := List.getElem?_map
/-- what is ahead of the first open place is told -/
theorem ahead {m : List (Option Nat)} {j : Nat} (hj : j < fN m) (hl : j < m.length) : ∃ x, m[j]? = some (some x) := by
  cases e : m[j] with
  | none =>
    have := fN_not hj (by rw [List.getElem?_eq_getElem hl, e])
    cases this
  | some x => exact ⟨x, by rw [List.getElem?_eq_getElem hl, e]⟩
/-- ascending -/
theorem fill_asc {ls : List Int} (hl : Lts ls) : ∀ (d : Nat) (m : List (Option Nat)), MtOk ls m → (fillF (prtF ls) d m).Pairwise fun a b => lexL (nats a) (nats b) = true
  | 0, m, _ => List.Pairwise.nil
  | d + 1, m, h => by
    by_cases no : m.any Option.isNone = true
    · have lp := fN_lt no
      have hp := fN_at no
      have gq : ∀ q r, q ∈ (prtF ls).getD (fN m) [] → r ∈ fillG (prtF ls) d m q → MtOk ls ((m.set (fN m) (some q)).set q (some (fN m))) ∧ Agr m r ∧ r[fN m]? = some q := by
        intro q r hq hr
        unfold fillG at hr
        split at hr
        · rename_i hn
          have hq2 := getD_none hn
          obtain ⟨a, b⟩ := prt_at (by rw [← h.1]; exact lp) hq
          have st := h.step hl hp hq2 b
          have ih := fill_agr hl d _ st r hr
          have lq := (List.getElem?_eq_some_iff.mp hq2).1
          have nqp : q ≠ fN m := fun z => by
            have := getD_ne hl (i := fN m) (by rw [← h.1]; exact lp)
            rw [z] at b
            omega
          refine ⟨st, ⟨by rw [ih.1, List.length_set, List.length_set], fun i x hx => ih.2 i x ?_⟩, ih.2 _ _ ?_⟩
          · have n1 : i ≠ q := fun z => by rw [z, hq2] at hx; injection hx with z; cases z
            have n2 : i ≠ fN m := fun z => by rw [z, hp] at hx; injection hx with z; cases z
            rw [set2_at lp lq nqp, if_neg n1, if_neg n2]
            exact hx
          · rw [set2_at lp lq nqp, if_neg (fun z => nqp z.symm), if_pos rfl]
        · cases hr
      rw [fill_yes no]
      rw [List.pairwise_flatten]
      refine ⟨fun l hl1 => ?_, ?_⟩
      · obtain ⟨q, hq, rfl⟩ := List.mem_map.mp hl1
        unfold fillG
        split
        · rename_i hn
          obtain ⟨a, b⟩ := prt_at (by rw [← h.1]; exact lp) hq
          exact fill_asc hl d _ (h.step hl hp (getD_none hn) b)
        · exact List.Pairwise.nil
      · rw [List.pairwise_map]
        have asc : ((prtF ls).getD (fN m) []).Pairwise (· < ·) := by
          unfold prtF
          rw [List.getD_eq_getElem?_getD, List.getElem?_map]
          cases ls[fN m]? with
          | none => exact List.Pairwise.nil
          | some l => exact List.Pairwise.filter _ List.pairwise_lt_range
        refine asc.imp_of_mem fun {q q'} hq hq' lt r hr r' hr' => ?_
        obtain ⟨_, a1, a2⟩ := gq q r hq hr
        obtain ⟨_, b1, b2⟩ := gq q' r' hq' hr'
        refine lex_at (p := fN m) (x := (q : Int)) (y := (q' : Int)) (fun i hi => ?_) (by rw [nats_at, a2]; rfl) (by rw [nats_at, b2]; rfl) (by omega)
        obtain ⟨x, hx⟩ := ahead hi (Nat.lt_trans hi lp)
        rw [nats_at, nats_at, a1.2 i x hx, b1.2 i x hx]
    · rw [fill_no (any_false no)]
      exact List.pairwise_singleton _ _
theorem start_ok (ls : List Int) : MtOk ls (List.replicate (prtF ls).length none) := by
  refine ⟨by rw [List.length_replicate, prt_len], fun i x hx => ?_⟩
  rw [List.getElem?_replicate] at hx
  split at hx
  · injection hx with z; cases z
  · cases hx
theorem mates_all {ls : List Int} (hl : Lts ls) (h24 : ls.length ≤ 24) {r : List Nat} (hr : MatOk ls (nats r)) : r ∈ matesF (prtF ls) := by
  refine fill_all hl hr 25 _ (start_ok ls) ⟨?_, fun i x hx => ?_⟩ ?_
  · rw [List.length_replicate, prt_len, ← hr.1.1.1]
    exact (List.length_map _).symm
  · rw [List.getElem?_replicate] at hx
    split at hx
    · injection hx with z; cases z
    · cases hx
  · have := List.countP_le_length (p := Option.isNone) (l := List.replicate (prtF ls).length (none : Option Nat))
    rw [List.length_replicate, prt_len] at this
    unfold cN
    rw [prt_len]
    omega
theorem mates_asc {ls : List Int} (hl : Lts ls) : (matesF (prtF ls)).Pairwise fun a b => lexL (nats a) (nats b) = true := fill_asc hl 25 _ (start_ok ls)
theorem mates_nodup {ls : List Int} (hl : Lts ls) : (matesF (prtF ls)).Nodup := (mates_asc hl).imp fun {a b} h e => by
  rw [e, lexL_irr] at h
  cases h
end W16
set_option Elab.async false
set_option linter.all false
set_option maxRecDepth 100000
set_option maxHeartbeats 600000
namespace W16
open PySem L2 PySem.Spec PyProof.Rows WR WB WE WS
/-! ### drawn mates -/
theorem for_ss_lc {K : PySem.W.Frag} {r1 r2 : List V → Hp → VK → Prop} {wi : TI} {g gg : TG} {tt : TT} {te : TE} {vs : List Nat} {tb : TS} {D : Ends} {σ : L2.St} {H : Hp}
    (h : wi σ H fun J H1 => tLc (fun _ H R => R J H) g tt te vs σ H1 fun y H2 => r2 [y] H2 fun z H3 => r1 [z] H3 fun u H4 => tFor (iList K (fun _ H Q => Q u H)) gg tb D σ H4) :
    tFor (iList K (tCB r1 (tCons (tCB r2 (tCons (tLc wi g tt te vs) tNil)) tNil))) gg tb D σ H := h
theorem sq_lcS {wi : TI} {g gg : TG} {tt : TT} {te : TE} {vs : List Nat} {D : Ends} {σ : L2.St} {H : Hp} {Cc : TS}
    (h : wi σ H fun J H1 => tLc (fun _ H R => R J H) g tt te vs σ H1 fun z H4 => gg z σ H4 (Cc D)) : tSeq (tAsg (tLc wi g tt te vs) gg) Cc D σ H := h
theorem asg_cal_lc {sq : Sp} {t0 : TE} {wi : TI} {g gg : TG} {tt : TT} {te : TE} {vs : List Nat} {D : Ends} {σ : L2.St} {H : Hp} {Cc : TS}
    (h : t0 σ H fun x H0 => wi σ H0 fun J H1 => tLc (fun _ H R => R J H) g tt te vs σ H1 fun y H2 => sq [x, y] H2 (fun z H4 => gg z σ H4 (Cc D)) E0) : tSeq (tAsg (tCall sq [] E0 (tCons t0 (tCons (tLc wi g tt te vs) tNil))) gg) Cc D σ H := h
/-- the places with a letter -/
def plc (ls : List Int) (k : Int) : List Nat := (List.range ls.length).filter fun p => decide (ls.getD p 0 = k)
theorem plc_mem {ls : List Int} {k : Int} {p : Nat} : p ∈ plc ls k ↔ p < ls.length ∧ ls.getD p 0 = k := by
  unfold plc
  rw [List.mem_filter, List.mem_range, decide_eq_true_iff]
theorem plc_nodup (ls : List Int) (k : Int) : (plc ls k).Nodup := (List.nodup_range (n := ls.length)).filter _
theorem self_map (ls : List Int) : ls = (List.range ls.length).map fun i => ls.getD i 0 := by
  refine List.ext_getElem (by simp) fun i h1 h2 => ?_
  rw [List.getElem_map, List.getElem_range, getD_lt h1]
theorem plc_len (ls : List Int) (k : Int) : (plc ls k).length = ls.count k := by
  conv => rhs; rw [self_map ls]
  unfold plc
  rw [List.count_eq_countP, List.countP_map, List.countP_eq_length_filter]
  congr 1
/-- places of these kinds have mates -/
def Half (ls fd : List Int) (S : Int → Prop) : Prop := ∀ p, p < ls.length → S (((ls.getD p 0).natAbs : Nat) : Int) → mtn fd p < ls.length ∧ fd.getD p 0 = ((mtn fd p : Nat) : Int) ∧ mtn fd (mtn fd p) = p ∧ ls.getD (mtn fd p) 0 = -ls.getD p 0
theorem half_ok {ls fd : List Int} (hl : fd.length = ls.length) (lt : Lts ls) {S : Int → Prop} (h : Half ls fd S) (all : ∀ z ∈ ls, S ((z.natAbs : Nat) : Int)) : MatOk ls fd := by
  have at_ : ∀ p (hp : p < ls.length), mtn fd p < ls.length ∧ fd.getD p 0 = ((mtn fd p : Nat) : Int) ∧ mtn fd (mtn fd p) = p ∧ ls.getD (mtn fd p) 0 = -ls.getD p 0 := fun p hp => h p hp (by
    rw [getD_lt hp]
    exact all _ (List.getElem_mem hp))
  have nz : ∀ p (hp : p < ls.length), ls.getD p 0 ≠ 0 := fun p hp e => by
    have := lt _ (List.getElem_mem hp)
    rw [← getD_lt hp, e] at this
    simp at this
  refine ⟨mates_ok_of hl (mtn fd) fun i hi => ?_, fun i hi => ?_⟩
  · have hi' : i < ls.length := by omega
    obtain ⟨h1, h2, h3, h4⟩ := at_ i hi'
    refine ⟨by rw [← getD_lt hi]; exact h2, h1, fun e => ?_, h3⟩
    rw [e] at h4
    have := nz i hi'
    omega
  · have hi' : i < ls.length := by omega
    obtain ⟨h1, h2, h3, h4⟩ := at_ i hi'
    have : fd[i].toNat = mtn fd i := by
      show _ = (fd.getD i 0).toNat
      rw [getD_lt hi]
    rw [this]
    exact h4
theorem getD_set2 {fd : List Int} {p q : Nat} (hp : p < fd.length) (hq : q < fd.length) (n : p ≠ q) (i : Nat) : ((fd.set p ((q : Nat) : Int)).set q ((p : Nat) : Int)).getD i 0 = if i = q then ((p : Nat) : Int) else if i = p then ((q : Nat) : Int) else fd.getD i 0 := by
  rw [List.getD_eq_getElem?_getD, List.getElem?_set, List.getElem?_set, List.length_set]
  by_cases h1 : i = q
  · subst h1
    rw [if_pos rfl, if_pos hq, if_pos rfl]
    rfl
  · rw [if_neg (fun e => h1 e.symm), if_neg h1]
    by_cases h2 : i = p
    · subst h2
      rw [if_pos rfl, if_pos hp, if_pos rfl]
      rfl
    · rw [if_neg (fun e => h2 e.symm), if_neg h2, List.getD_eq_getElem?_getD]
/-- the mates of one kind, pair by pair -/
structure Prs (ls fd0 fd : List Int) (fw bw : List Nat) (j : Nat) : Prop where
  len : fd.length = ls.length
  old : ∀ p, p ∉ fw.take j → p ∉ bw.take j → fd.getD p 0 = fd0.getD p 0
  one : ∀ t, t < j → ∀ x y, fw[t]? = some x → bw[t]? = some y → fd.getD x 0 = ((y : Nat) : Int) ∧ fd.getD y 0 = ((x : Nat) : Int)
theorem take_not {xs : List Nat} (h : xs.Nodup) {i : Nat} {x : Nat} (hx : xs[i]? = some x) : x ∉ xs.take i := fun hm => by
  obtain ⟨j, hj, e⟩ := List.getElem_of_mem hm
  rw [List.length_take] at hj
  rw [List.getElem_take] at e
  have hi := (List.getElem?_eq_some_iff.mp hx)
  obtain ⟨hi1, hi2⟩ := hi
  have := List.pairwise_iff_getElem.mp h j i (by omega) hi1 (by omega)
  exact this (by rw [e, hi2])
theorem Prs.step {ls fd0 fd : List Int} {fw bw : List Nat} {j x y : Nat} (h : Prs ls fd0 fd fw bw j) (nf : fw.Nodup) (nb : bw.Nodup) (dj : ∀ a ∈ fw, a ∉ bw) (hx : fw[j]? = some x) (hy : bw[j]? = some y) (lx : x < ls.length) (ly : y < ls.length) :
    Prs ls fd0 ((fd.set x ((y : Nat) : Int)).set y ((x : Nat) : Int)) fw bw (j + 1) := by
  have nxy : x ≠ y := fun e => dj x (List.mem_of_getElem? hx) (e ▸ List.mem_of_getElem? hy)
  have hl := h.len
  have g := fun i => getD_set2 (fd := fd) (p := x) (q := y) (by omega) (by omega) nxy i
  have tx := take_not nf hx
  have ty := take_not nb hy
  have ef : fw.take (j + 1) = fw.take j ++ [x] := by
    rw [List.take_succ_eq_append_getElem (List.getElem?_eq_some_iff.mp hx).1, (List.getElem?_eq_some_iff.mp hx).2]
  have eb : bw.take (j + 1) = bw.take j ++ [y] := by
    rw [List.take_succ_eq_append_getElem (List.getElem?_eq_some_iff.mp hy).1, (List.getElem?_eq_some_iff.mp hy).2]
  refine ⟨by rw [List.length_set, List.length_set]; exact hl, fun p h1 h2 => ?_, fun t ht a b ha hb => ?_⟩
  · rw [ef, List.mem_append, List.mem_singleton, not_or] at h1
    rw [eb, List.mem_append, List.mem_singleton, not_or] at h2
    rw [g, if_neg h2.2, if_neg h1.2]
    exact h.old p h1.1 h2.1
  · rcases Nat.lt_succ_iff_lt_or_eq.mp ht with ht | rfl
    · obtain ⟨o1, o2⟩ := h.one t ht a b ha hb
      have at_ : a ∈ fw.take j := List.mem_of_getElem? (by rw [List.getElem?_take, if_pos ht]; exact ha)
      have bt : b ∈ bw.take j := List.mem_of_getElem? (by rw [List.getElem?_take, if_pos ht]; exact hb)
      have n1 : a ≠ x := fun e => tx (e ▸ at_)
      have n2 : b ≠ y := fun e => ty (e ▸ bt)
      have n3 : a ≠ y := fun e => dj a (List.mem_of_getElem? ha) (e ▸ List.mem_of_getElem? hy)
      have n4 : b ≠ x := fun e => dj x (List.mem_of_getElem? hx) (e ▸ List.mem_of_getElem? hb)
      rw [g, g, if_neg n3, if_neg n1, if_neg n2, if_neg n4]
      exact ⟨o1, o2⟩
    · obtain rfl := Option.some.inj (ha.symm.trans hx)
      obtain rfl := Option.some.inj (hb.symm.trans hy)
      rw [g, g, if_neg nxy, if_pos rfl, if_pos rfl]
      exact ⟨rfl, rfl⟩
theorem Prs.half {ls fd0 fd : List Int} {bw : List Nat} {k : Int} {S : Int → Prop} (h : Prs ls fd0 fd (plc ls k) bw (plc ls k).length) (k0 : 0 < k) (hb : bw.Perm (plc ls (-k))) (le : bw.length = (plc ls k).length) (h0 : Half ls fd0 S) : Half ls fd fun z => S z ∨ z = k := by
  have mb : ∀ p, p ∈ bw ↔ p < ls.length ∧ ls.getD p 0 = -k := fun p => by rw [hb.mem_iff, plc_mem]
  have old := h.old
  rw [List.take_length, ← le, List.take_length] at old
  intro p hp hs
  by_cases hk : ((ls.getD p 0).natAbs : Int) = k
  · have cases : ls.getD p 0 = k ∨ ls.getD p 0 = -k := by omega
    rcases cases with e | e
    · obtain ⟨t, ht, et⟩ := List.getElem_of_mem (plc_mem.mpr ⟨hp, e⟩)
      have ht2 : t < bw.length := by omega
      obtain ⟨o1, o2⟩ := h.one t ht p bw[t] (by rw [List.getElem?_eq_getElem ht, et]) (List.getElem?_eq_getElem ht2)
      obtain ⟨m1, m2⟩ := (mb _).mp (List.getElem_mem ht2)
      have e1 : mtn fd p = bw[t] := by unfold mtn; rw [o1, Int.toNat_natCast]
      have e2 : mtn fd bw[t] = p := by unfold mtn; rw [o2, Int.toNat_natCast]
      exact ⟨by rw [e1]; exact m1, by rw [e1]; exact o1, by rw [e1, e2], by rw [e1, m2, e]⟩
    · obtain ⟨t, ht, et⟩ := List.getElem_of_mem ((mb p).mpr ⟨hp, e⟩)
      have ht2 : t < (plc ls k).length := by omega
      obtain ⟨o1, o2⟩ := h.one t ht2 (plc ls k)[t] p (List.getElem?_eq_getElem ht2) (by rw [List.getElem?_eq_getElem ht, et])
      obtain ⟨m1, m2⟩ := plc_mem.mp (List.getElem_mem ht2)
      have e1 : mtn fd p = (plc ls k)[t] := by unfold mtn; rw [o2, Int.toNat_natCast]
      have e2 : mtn fd (plc ls k)[t] = p := by unfold mtn; rw [o1, Int.toNat_natCast]
      exact ⟨by rw [e1]; exact m1, by rw [e1]; exact o2, by rw [e1, e2], by rw [e1, m2, e]; omega⟩
  · have hs' : S ((ls.getD p 0).natAbs : Int) := hs.resolve_right hk
    obtain ⟨a1, a2, a3, a4⟩ := h0 p hp hs'
    have keep : ∀ x, x < ls.length → ((ls.getD x 0).natAbs : Int) ≠ k → fd.getD x 0 = fd0.getD x 0 := fun x hx n => old x (fun hm => n (by rw [(plc_mem.mp hm).2]; omega)) fun hm => n (by rw [((mb x).mp hm).2]; omega)
    have k1 := keep p hp hk
    have m1 : mtn fd p = mtn fd0 p := by unfold mtn; rw [k1]
    have k2 := keep (mtn fd0 p) a1 (by rw [a4]; omega)
    have m2 : mtn fd (mtn fd0 p) = p := by
      show (fd.getD (mtn fd0 p) 0).toNat = p
      rw [k2]
      exact a3
    exact ⟨by rw [m1]; exact a1, by rw [k1, m1]; exact a2, by rw [m1, m2], by rw [m1]; exact a4⟩
def spMates : Sp := fun vs H Q _ => ∃ (a c p : Addr) (ls : List Int) (n : Nat), vs = [.ref a, .ref p] ∧ HandAt H a c n ∧ p ≠ a ∧ H p = some (.lst (iv ls)) ∧ ls.length ≤ 60 ∧ Lts ls ∧ (∀ z, (ls.count z : Int) = ls.count (-z)) ∧ n ≤ 6000 ∧
  ∀ l H' mt, H l = none → Drew a c (n + 100) H H' → H' l = some (.lst (iv mt)) → MatOk ls mt → Q (.ref l) H'
abbrev sMates : Stmt := top 75
abbrev nMates : List Str := ["_law_pen_here", "_law_letters_here", "_law_found", "_law_kind", "_law_forward", "_law_backward", "_law_one", "_law_other", "_law_place", "_law_letter"]
theorem scMates : FnScope nMates ["_law_pen_here", "_law_letters_here"] (defScope sMates) := ⟨rfl, rfl, rfl, by decide +kernel, rfl, by decide +kernel, by decide +kernel⟩
section
variable {P : Program} {w : World} {K : PySem.W.Frag} {mg : Str → Option Value} {base : Heap} {C CR : Addr}
theorem ok_Mates {f : Addr} {fd : FuncData} (F : Fun K "_law_mates" "_law_mates" sMates f fd) (N : TN mg)  (G_mixed : Cal P w K mg base "_law_mixed" 2 ["_law_pen_here", "_law_some"] (spMixed)) : FnOk P w K mg base CX0 3 f fd ["_law_pen_here", "_law_letters_here"] (spMates) := by
  refine F.ok scMates (fun vs H Q E h => ?_) (fun cdv A outer s H vs Q E hr h => ?_)
  · obtain ⟨a, c, p, ls, n, rfl, _⟩ := h
    rfl
  · obtain ⟨a, c, p, ls, n, rfl, hH, hpa, hp, l60, lt, bal, hn, k⟩ := h
    refine ⟨_, pss_cons (ps_set (i := 2) scMates.nd rfl (Or.inl rfl) (pe_op op_rep (pe_lst (pa_cons pe_int pa_nil)) (pe_callB call_len_seq (by rfl) N.len PySem.boot_len (pa_cons (pv 1) pa_nil))))
      (pss_cons (ps_for PassesOwn.never rfl (pi_list (pe_callB (cr_sortedSet rfl) (by rfl) N.sorted (by decide +kernel) (pa_cons (pe_callTy (call_setLI rfl) (by rfl) N.set (by decide +kernel) (pa_cons (pe_lc (own := [("_law_letter", 9)]) (g := gName 9) (tt := tYes) rfl scMates.nd (pi_list (pv 1)) (blkOk_by (N := nMates) (sc := defScope sMates) (by decide +kernel)) (fun _ _ _ _ _ => (pg_name (i := 9) scMates.nd rfl (Or.inl rfl))) (fun _ _ _ _ _ => pts_nil) (fun _ _ _ _ _ => (pe_callB call_abs (by rfl) N.abs (by decide +kernel) (pa_cons (pv 9) pa_nil)))) pa_nil)) pa_nil))) (pg_name (i := 3) scMates.nd rfl (Or.inr rfl))
      (pss_cons (ps_setLc (i := 4) (own := [("_law_place", 8), ("_law_letter", 9)]) (g := gTup K 2 (gCons (gName 8) (gCons (gName 9) gNil))) rfl scMates.nd rfl rfl (sw_true rfl rfl rfl (by decide +kernel)) (pi_enum (by rfl) N.enumerate (pa_cons (pv 1) pa_nil)) (blkOk_by (N := nMates) (sc := defScope sMates) (by decide +kernel)) (fun _ _ _ _ _ => (pg_tup (n := 2) rfl (pgs_cons (pg_name (i := 8) scMates.nd rfl (Or.inl rfl)) (pgs_cons (pg_name (i := 9) scMates.nd rfl (Or.inl rfl)) pgs_nil)))) (fun _ _ _ _ _ => (pts_one (pt_cmpR op_eq (pv 9) (pv 3) (nomark _)))) (fun _ _ _ _ _ => (pv 8)))
      (pss_cons (ps_set (i := 5) scMates.nd rfl (Or.inl rfl) (pe_cal G_mixed hr (by decide) (by rfl) (pa_cons (pv 0) (pa_cons (pe_lc (own := [("_law_place", 8), ("_law_letter", 9)]) (g := gTup K 2 (gCons (gName 8) (gCons (gName 9) gNil))) rfl scMates.nd (pi_enum (by rfl) N.enumerate (pa_cons (pv 1) pa_nil)) (blkOk_by (N := nMates) (sc := defScope sMates) (by decide +kernel)) (fun _ _ _ _ _ => (pg_tup (n := 2) rfl (pgs_cons (pg_name (i := 8) scMates.nd rfl (Or.inl rfl)) (pgs_cons (pg_name (i := 9) scMates.nd rfl (Or.inl rfl)) pgs_nil)))) (fun _ _ _ _ _ => (pts_one (pt_cmpR op_eq (pv 9) (pe_un un_neg (pv 3)) (nomark _)))) (fun _ _ _ _ _ => (pv 8))) pa_nil))))
      (pss_one (ps_for PassesOwn.never rfl (pi_zip (by rfl) N.zip (pa_cons (pv 4) (pa_cons (pv 5) pa_nil))) (pg_tup (n := 2) rfl (pgs_cons (pg_name (i := 6) scMates.nd rfl (Or.inl rfl)) (pgs_cons (pg_name (i := 7) scMates.nd rfl (Or.inl rfl)) pgs_nil)))
      (pss_one (ps_asg (pe_tup (pa_cons (pv 7) (pa_cons (pv 6) pa_nil))) (pg_tup (n := 2) rfl (pgs_cons (pg_sub (pv 2) (pv 6) set_list) (pgs_cons (pg_sub (pv 2) (pv 7) set_list) pgs_nil))))))))))
      (pss_one (ps_ret (pv 2)))), ?_⟩
    have elen : ((iv ls).length : Int) = (ls.length : Int) := by rw [List.length_map]
    refine ⟨by show 1 ≤ sizeLine; decide, fun q0 hq0 => ?_⟩
    have s0 := same_upd (o := .lst [.int 0]) hq0
    refine ⟨_, rfl, p, _, rfl, .inl (SqL.of (s0 _ _ hp)), q0, _, _, rfl, rfl, upd_same, by omega, by omega, Evl.sz_of (by show 1 * ((((iv ls).length : Nat) : Int)).toNat ≤ _; omega), fun fo hfo => ?_⟩
    have s1 := s0.trans (same_upd (o := .lst (List.replicate (((iv ls).length : Nat) : Int).toNat [V.int 0]).flatten) hfo)
    have fo0 : H fo = none := s0.free hfo
    have gfo : L2.upd (L2.upd H q0 (.lst [.int 0])) fo (.lst (List.replicate (((iv ls).length : Nat) : Int).toNat [V.int 0]).flatten) fo = some (.lst (iv (List.replicate ls.length 0))) := by
      rw [upd_same, Int.toNat_natCast, List.length_map]
      simp [iv]
    obtain ⟨H1, e1⟩ : ∃ H1, H1 = L2.upd (L2.upd H q0 (.lst [.int 0])) fo (.lst (List.replicate (((iv ls).length : Nat) : Int).toNat [V.int 0]).flatten) := ⟨_, rfl⟩
    rw [← e1] at s1 gfo ⊢
    have hfa := hH.ne fo0
    have hfc := hH.neC fo0
    have hpf : p ≠ fo := fun e => by rw [e, fo0] at hp; cases hp
    have D1 : Drew a c n H H1 := (Drew.refl hH).same s1
    refine at_set ?_
    try dsimp only
    refine for_ss_lc (K := K) ?_
    have hp1 := s1 _ _ hp
    refine ⟨_, rfl, p, rfl, ⟨_, SqL.of hp1⟩, ?_⟩
    refine lcp (walk_list (K := K) (a := p) (xs := iv ls)) (fun _ => true) (fun x => match x with | .int i => V.int (if i < 0 then -i else i) | v => v) (by rw [List.length_map]; omega) (fun H' s => SqL.of (s _ _ hp1)) ?_ ?_
    · intro x hx H2 s2 Qy Qn ky kn
      obtain ⟨z, hz, rfl⟩ := List.mem_map.mp hx
      exact ⟨rfl, yes_te ⟨_, rfl, z, rfl, ky rfl H2 (Same.refl _)⟩⟩
    intro D H2 hD s2 hD2
    have eab : ((iv ls).filter (fun _ => true)).map (fun x => match x with | .int i => V.int (if i < 0 then -i else i) | v => v) = iv (ls.map fun i => ((i.natAbs : Nat) : Int)) := by
      rw [List.filter_eq_self.mpr (fun _ _ => rfl)]
      unfold iv
      rw [List.map_map, List.map_map]
      refine List.map_congr_left fun i _ => ?_
      show V.int (if i < 0 then -i else i) = V.int ((i.natAbs : Nat) : Int)
      congr 1
      split <;> omega
    rw [eab] at hD2
    refine ⟨D, _, rfl, SqL.of hD2, by rw [List.length_map]; omega, fun S L hS ndL memL => ?_⟩
    have lL : L.length ≤ 26 := by
      have nd2 : (L.map Int.toNat).Nodup := by
        refine List.pairwise_map.mpr (ndL.imp_of_mem fun {x y} hx hy ne e => ne ?_)
        obtain ⟨z1, _, rfl⟩ := List.mem_map.mp ((memL x).mp hx)
        obtain ⟨z2, _, rfl⟩ := List.mem_map.mp ((memL y).mp hy)
        rw [Int.toNat_natCast, Int.toNat_natCast] at e
        rw [e]
      have := L2.nat_nodup_len (L.map Int.toNat) ((List.range 26).map (· + 1)) nd2 fun x hx => by
        obtain ⟨y, hy, rfl⟩ := List.mem_map.mp hx
        obtain ⟨z, hz, rfl⟩ := List.mem_map.mp ((memL y).mp hy)
        have := lt z hz
        rw [Int.toNat_natCast]
        exact List.mem_map.mpr ⟨z.natAbs - 1, List.mem_range.mpr (by omega), by omega⟩
      rw [List.length_map, List.length_map, List.length_range] at this
      exact this
    have s3 := s2.trans (same_upd (o := SetO w S (fun j => decide (j ∈ ls.map fun i => ((i.natAbs : Nat) : Int))) L.length) hS)
    refine ⟨S, _, L.length, rfl, upd_same, by omega, fun ks p3 hlt hmem hlen hp3 => ?_⟩
    have s4 := s3.trans (same_upd (o := .lst (iv ks)) hp3)
    have hks : ∀ z, z ∈ ks ↔ z ∈ ls.map fun i => ((i.natAbs : Nat) : Int) := fun z => by
      rw [hmem]
      exact decide_eq_true_iff
    have ndk : ks.Nodup := hlt.imp fun h => Int.ne_of_lt h
    have gk3 : L2.upd (L2.upd H2 S (SetO w S (fun j => decide (j ∈ ls.map fun i => ((i.natAbs : Nat) : Int))) L.length)) p3 (.lst (iv ks)) p3 = some (.lst (iv ks)) := upd_same
    have hp3f : p3 ≠ fo := fun e => by
      have h3 := s3 _ _ gfo
      rw [← e] at h3
      cases (h3.symm.trans hp3)
    have D4 := D1.same s4
    have hp4 := s4 _ _ hp1
    have gf4 := s4 _ _ gfo
    refine ⟨p3, rfl, ⟨_, SqL.of gk3⟩, for_list (K := K) (a := p3) (xs := iv ks) (fun i σ H' => ∃ (v3 v4 v5 v6 v7 : Option V) (fd : List Int) (us : List Nat), σ = [some (.ref a), some (.ref p), some (.ref fo), v3, v4, v5, v6, v7, none, none] ∧ Drew a c (n + us.length) H H' ∧ H' p = some (.lst (iv ls)) ∧ H' p3 = some (.lst (iv ks)) ∧ H' fo = some (.lst (iv fd)) ∧
        fd.length = ls.length ∧ Half ls fd (fun z => z ∈ ks.take i) ∧ us.Nodup ∧ (∀ x ∈ us, x < ls.length ∧ ∃ k ∈ ks.take i, ls.getD x 0 = -k))
      ⟨none, none, none, none, none, _, [], rfl, D4, hp4, gk3, gf4, List.length_replicate, (fun _ _ h => nomatch h), List.nodup_nil, fun _ h => nomatch h⟩ (fun i σ H' _ ⟨_, _, _, _, _, _, _, _, _, _, h, _⟩ => SqL.of h) ?_ ?_⟩
    · rintro i x σ H5 hi ⟨v3, v4, v5, v6, v7, fd, us, rfl, D5, hp5, gk5, gf5, lfd, half, ndu, hus⟩
      obtain ⟨kk, hk, rfl⟩ : ∃ z, ks[i]? = some z ∧ x = V.int z := by
        rw [List.getElem?_map] at hi
        cases e : ks[i]? with
        | none => rw [e] at hi; cases hi
        | some z => rw [e] at hi; exact ⟨z, rfl, (Option.some.inj hi).symm⟩
      have hik : i < ks.length := (List.getElem?_eq_some_iff.mp hk).1
      have ekt : ks.take (i + 1) = ks.take i ++ [kk] := by
        rw [List.take_succ_eq_append_getElem hik, (List.getElem?_eq_some_iff.mp hk).2]
      have k0 : 0 < kk := by
        obtain ⟨z, hz, e⟩ := List.mem_map.mp ((hks kk).mp (List.mem_of_getElem? hk))
        have := lt z hz
        omega
      have nkt : kk ∉ ks.take i := fun hm => by
        obtain ⟨j, hj, e⟩ := List.getElem_of_mem hm
        rw [List.length_take] at hj
        rw [List.getElem_take] at e
        have := List.pairwise_iff_getElem.mp ndk j i (by omega) hik (by omega)
        exact this (by rw [e, (List.getElem?_eq_some_iff.mp hk).2])
      have ndu2 : (us ++ plc ls (-kk)).Nodup := List.nodup_append.mpr ⟨ndu, plc_nodup _ _, fun x hx y hy e => by
        subst e
        obtain ⟨_, k', hk', e1⟩ := hus x hx
        have e2 := (plc_mem.mp hy).2
        have : k' = kk := by omega
        exact nkt (this ▸ hk')⟩
      have hus2 : ∀ x ∈ us ++ plc ls (-kk), x < ls.length ∧ ∃ k ∈ ks.take (i + 1), ls.getD x 0 = -k := fun x hx => by
        rcases List.mem_append.mp hx with hx | hx
        · obtain ⟨h1, k', hk', e⟩ := hus x hx
          exact ⟨h1, k', by rw [ekt]; exact List.mem_append_left _ hk', e⟩
        · exact ⟨(plc_mem.mp hx).1, kk, by rw [ekt]; exact List.mem_append_right _ List.mem_cons_self, (plc_mem.mp hx).2⟩
      have lus : (us ++ plc ls (-kk)).length ≤ 60 := by
        refine Nat.le_trans (L2.nat_nodup_len _ (List.range ls.length) ndu2 fun x hx => List.mem_range.mpr (hus2 x hx).1) ?_
        rw [List.length_range]
        exact l60
      rw [List.length_append] at lus
      have leq : (plc ls (-kk)).length = (plc ls kk).length := by
        rw [plc_len, plc_len]
        have := bal kk
        omega
      have enm : ∀ (k : Int) (H2 : Hp) (T0 : Addr) (j : Nat) (x : V), (iv ls)[j]? = some x → H2 T0 = none → j < ls.length ∧ x = V.int (ls.getD j 0) := fun k H2 T0 j x hx _ => by
        have hj : j < ls.length := by
          have := (List.getElem?_eq_some_iff.mp hx).1
          rwa [List.length_map] at this
        rw [List.getElem?_map, List.getElem?_eq_getElem hj] at hx
        exact ⟨hj, by rw [getD_lt hj]; exact (Option.some.inj hx).symm⟩
      have efl : ∀ k : Int, ((List.range (iv ls).length).filter fun j => decide (ls.getD j 0 = k)).map (fun (j : Nat) => V.int (j : Int)) = iv (nats (plc ls k)) := fun k => by
        rw [List.length_map]
        unfold iv nats plc
        rw [List.map_map]
        rfl
      refine at_set ?_
      try dsimp only
      refine sq_lcS ?_
      refine ⟨_, rfl, p, _, rfl, SqL.of hp5, ?_⟩
      refine lcE (walk_enum (K := K) (a := p) (xs := iv ls)) (fun j => decide (ls.getD j 0 = kk)) (fun (j : Nat) => V.int (j : Int)) (by rw [List.length_map]; omega) (fun H' s => SqL.of (s _ _ hp5)) ?_ ?_
      · intro j x hx H2 s2 T0 hT Qy Qn ky kn
        obtain ⟨hj, rfl⟩ := enm kk H2 T0 j x hx hT
        have sT := same_upd (o := .tup [.int (j : Nat), .int (ls.getD j 0)]) hT
        refine ⟨T0, _, rfl, SqT.of upd_same, rfl, _, _, rfl, _, _, rfl, rfl, rfl, _, rfl, _, rfl, rfl, _, rfl, ?_⟩
        refine ite2 (fun hb => ?_) (fun hb => ?_)
        · exact ⟨_, rfl, ky (decide_eq_true (by have := of_decide_eq_true hb; injection this)) _ sT⟩
        · exact kn (decide_eq_false fun e => hb (decide_eq_true (by rw [e]))) _ sT
      intro fw H6 hfw s6 gfw
      rw [efl] at gfw
      have D6 := D5.same s6
      have hp6 := s6 _ _ hp5
      have gk6 := s6 _ _ gk5
      have gf6 := s6 _ _ gf5
      have hfwf : fw ≠ fo := fun e => by rw [e, gf5] at hfw; cases hfw
      have hfwa : fw ≠ a := D5.1.ne hfw
      refine at_set ?_
      try dsimp only
      refine asg_cal_lc ?_
      refine ⟨_, rfl, _, rfl, p, _, rfl, SqL.of hp6, ?_⟩
      refine lcE (walk_enum (K := K) (a := p) (xs := iv ls)) (fun j => decide (ls.getD j 0 = -kk)) (fun (j : Nat) => V.int (j : Int)) (by rw [List.length_map]; omega) (fun H' s => SqL.of (s _ _ hp6)) ?_ ?_
      · intro j x hx H2 s2 T0 hT Qy Qn ky kn
        obtain ⟨hj, rfl⟩ := enm kk H2 T0 j x hx hT
        have sT := same_upd (o := .tup [.int (j : Nat), .int (ls.getD j 0)]) hT
        refine ⟨T0, _, rfl, SqT.of upd_same, rfl, _, _, rfl, _, _, rfl, rfl, rfl, _, rfl, _, rfl, kk, rfl, rfl, _, rfl, ?_⟩
        refine ite2 (fun hb => ?_) (fun hb => ?_)
        · exact ⟨_, rfl, ky (decide_eq_true (by have := of_decide_eq_true hb; injection this)) _ sT⟩
        · exact kn (decide_eq_false fun e => hb (decide_eq_true (by rw [e]))) _ sT
      intro bq H7 hbq s7 gbq
      rw [efl] at gbq
      have D7 := D6.same s7
      have lbq : (iv (nats (plc ls (-kk)))).length = (plc ls (-kk)).length := by unfold iv nats; rw [List.length_map, List.length_map]
      refine ⟨a, c, bq, _, n + us.length, rfl, D7.1, gbq, by rw [lbq]; omega, by omega, fun bw H8 ys hbw D8 g8 pm => ?_⟩
      obtain ⟨ms0, pm0, rfl⟩ := perm_map pm _ rfl
      obtain ⟨ms, pm1, rfl⟩ := perm_map pm0 _ rfl
      rw [lbq] at D8
      have D8' := D7.trans D8
      have hpq := D8.2 _ _ hpa (s7 _ _ hp6)
      have hp3a : p3 ≠ a := fun e => by
        obtain ⟨_, _, _, h, _⟩ := D5.1
        rw [← e, gk5] at h
        cases ks with
        | nil => cases h
        | cons k r => cases h
      have gk8 := D8.2 _ _ hp3a (s7 _ _ gk6)
      have gf8 := D8.2 _ _ hfa (s7 _ _ gf6)
      have gfw8 := D8.2 _ _ hfwa (s7 _ _ gfw)
      have hbwf : bw ≠ fo := fun e => by rw [e, s7 _ _ gf6] at hbw; cases hbw
      have lms := pm1.length_eq
      have eiv : ∀ zs : List Nat, (iv (nats zs)).length = zs.length := fun zs => by unfold iv nats; rw [List.length_map, List.length_map]
      refine at_set ?_
      refine ⟨_, rfl, _, rfl, fw, bw, _, _, rfl, SqL.of gfw8, SqL.of g8, ?_⟩
      refine RZ.for_zipL (K := K) (a := fw) (b := bw) (xs := iv (nats (plc ls kk))) (ys := iv (nats ms)) (by rw [eiv, eiv]; omega) (fun j σ H' => ∃ (v6 v7 : Option V) (fd' : List Int), σ = [some (.ref a), some (.ref p), some (.ref fo), some (.int kk), some (.ref fw), some (.ref bw), v6, v7, none, none] ∧ Drew a c (n + us.length + (plc ls (-kk)).length) H H' ∧ H' p = some (.lst (iv ls)) ∧ H' p3 = some (.lst (iv ks)) ∧ H' fo = some (.lst (iv fd')) ∧
          H' fw = some (.lst (iv (nats (plc ls kk)))) ∧ H' bw = some (.lst (iv (nats ms))) ∧ Prs ls fd fd' (plc ls kk) ms j)
        ⟨_, _, fd, rfl, D8', hpq, gk8, gf8, gfw8, g8, lfd, (fun _ _ _ => rfl), fun t ht => absurd ht (Nat.not_lt_zero _)⟩ (fun j σ H' ⟨_, _, _, _, _, _, _, _, h1, h2, _⟩ => ⟨SqL.of h1, SqL.of h2⟩) ?_ ?_
      · rintro j x y T σ H9 hx hy ⟨v6, v7, fd', rfl, D9, hp9, gk9, gf9, gw9, gb9, prs⟩ hT
        have get : ∀ (zs : List Nat) (v : V), (iv (nats zs))[j]? = some v → ∃ z : Nat, zs[j]? = some z ∧ v = V.int ((z : Nat) : Int) := fun zs v h => by
          unfold iv nats at h
          rw [List.getElem?_map, List.getElem?_map] at h
          cases e : zs[j]? with
          | none => rw [e] at h; cases h
          | some z => rw [e] at h; exact ⟨z, rfl, (Option.some.inj h).symm⟩
        obtain ⟨xn, hxn, rfl⟩ := get _ _ hx
        obtain ⟨yn, hyn, rfl⟩ := get _ _ hy
        have lx := (plc_mem.mp (List.mem_of_getElem? hxn)).1
        have ly := (plc_mem.mp (pm1.mem_iff.mp (List.mem_of_getElem? hyn))).1
        have sT := same_upd (o := .tup [.int (xn : Int), .int (yn : Int)]) hT
        have gf10 := sT _ _ gf9
        have hp10 := sT _ _ hp9
        have gk10 := sT _ _ gk9
        have gw10 := sT _ _ gw9
        have gb10 := sT _ _ gb9
        have D10 := D9.same sT
        have gT : L2.upd H9 T (.tup [.int (xn : Int), .int (yn : Int)]) T = some (.tup [.int (xn : Int), .int (yn : Int)]) := upd_same
        generalize L2.upd H9 T (.tup [.int (xn : Int), .int (yn : Int)]) = HA at gf10 hp10 gk10 gw10 gb10 D10 gT ⊢
        refine ⟨T, _, rfl, SqT.of gT, rfl, _, _, rfl, _, _, rfl, rfl, ?_⟩
        refine ⟨_, rfl, _, rfl, by show 2 ≤ sizeLine; decide, fun t ht => ?_⟩
        have st := same_upd (o := .tup [.int (yn : Int), .int (xn : Int)]) ht
        have gf11 := st _ _ gf10
        have hp11 := st _ _ hp10
        have gk11 := st _ _ gk10
        have gw11 := st _ _ gw10
        have gb11 := st _ _ gb10
        have D11 := D10.same st
        have gt : L2.upd HA t (.tup [.int (yn : Int), .int (xn : Int)]) t = some (.tup [.int (yn : Int), .int (xn : Int)]) := upd_same
        generalize L2.upd HA t (.tup [.int (yn : Int), .int (xn : Int)]) = HB at gf11 hp11 gk11 gw11 gb11 D11 gt ⊢
        have lf' : (iv fd').length = ls.length := by rw [List.length_map]; exact prs.len
        refine ⟨t, _, rfl, SqT.of gt, rfl, _, _, rfl, _, rfl, _, rfl, fo, _, _, xn, rfl, rfl, gf11, Evl.ixN_nat (by omega), _, _, rfl, _, rfl, _, rfl, fo, _, _, yn, rfl, rfl, upd_same, Evl.ixN_nat (by rw [List.length_set]; omega), rfl, ?_⟩
        have two : ∀ b o, b ≠ fo → HB b = some o → L2.upd (L2.upd HB fo (.lst ((iv fd').set xn (.int (yn : Int))))) fo (.lst (((iv fd').set xn (.int (yn : Int))).set yn (.int (xn : Int)))) b = some o := fun b o nb e => by rw [upd_ne nb, upd_ne nb]; exact e
        refine ⟨_, _, (fd'.set xn ((yn : Nat) : Int)).set yn ((xn : Nat) : Int), rfl, (D11.put fo0 hfa hfc).put fo0 hfa hfc, two _ _ hpf hp11, two _ _ hp3f gk11, ?_, two _ _ hfwf gw11, two _ _ hbwf gb11, ?_⟩
        · rw [upd_same]
          simp [iv]
        · exact prs.step (plc_nodup _ _) (pm1.nodup_iff.mpr (plc_nodup _ _)) (fun x hx hm => by
            have e1 := (plc_mem.mp hx).2
            have e2 := (plc_mem.mp (pm1.mem_iff.mp hm)).2
            omega) hxn hyn lx ly
      · rintro σ H9 ⟨v6, v7, fd', rfl, D9, hp9, gk9, gf9, gw9, gb9, prs⟩
        rw [eiv] at prs
        refine ⟨_, _, _, _, _, fd', us ++ plc ls (-kk), rfl, by rw [List.length_append, ← Nat.add_assoc]; exact D9, hp9, gk9, gf9, prs.len, ?_, ndu2, hus2⟩
        have hf := prs.half k0 pm1 (by omega) half
        intro q hq hS
        refine hf q hq ?_
        rw [ekt] at hS
        rcases List.mem_append.mp hS with h | h
        · exact .inl h
        · exact .inr (List.mem_singleton.mp h)
    · rintro σ H5 ⟨v3, v4, v5, v6, v7, fd, us, rfl, D5, hp5, gk5, gf5, lfd, half, ndu, hus⟩
      rw [List.length_map, List.take_length] at half
      have lus : us.length ≤ 60 := by
        refine Nat.le_trans (L2.nat_nodup_len _ (List.range ls.length) ndu fun x hx => List.mem_range.mpr (hus x hx).1) ?_
        rw [List.length_range]
        exact l60
      refine ⟨_, rfl, k fo H5 fd fo0 (D5.mono (by omega)) gf5 (half_ok lfd lt half fun z hz => (hks _).mpr (List.mem_map.mpr ⟨z, hz, rfl⟩))⟩
end
end W16
set_option Elab.async false
set_option linter.all false
set_option maxRecDepth 100000
set_option maxHeartbeats 600000
/-! Rounds do not depend on how places are called; a place that stands alone and one passed over, taken out. -/
namespace Cy
theorem it_inj {n : Nat} {f : Nat → Nat} (h : Bij n f) : ∀ (k x y : Nat), x < n → y < n → it f k x = it f k y → x = y
  | 0, x, y, _, _, e => e
  | k + 1, x, y, hx, hy, e => h.inj x y hx hy (it_inj h k (f x) (f y) (h.lt x hx) (h.lt y hy) e)
/-- each place is come back to -/
theorem round {n : Nat} {f : Nat → Nat} (h : Bij n f) {x : Nat} (hx : x < n) : ∃ d, it f (d + 1) x = x := by
  by_cases em : ∃ i j, i < j ∧ it f i x = it f j x
  · obtain ⟨i, j, lt, e⟩ := em
    refine ⟨j - i - 1, ?_⟩
    have e1 : it f j x = it f i (it f (j - i - 1 + 1) x) := by
      rw [← it_add]
      congr 1
      omega
    exact (it_inj h i _ _ (it_lt h.lt _ _ hx) hx (by rw [← e1, ← e]))
  · have nd : ((List.range (n + 1)).map fun k => it f k x).Nodup := List.pairwise_map.mpr (List.pairwise_lt_range.imp fun {a b} lt e => em ⟨a, b, lt, e⟩)
    have := L2.nat_nodup_len _ (List.range n) nd fun y hy => by
      obtain ⟨k, _, rfl⟩ := List.mem_map.mp hy
      exact List.mem_range.mpr (it_lt h.lt k x hx)
    rw [List.length_map, List.length_range, List.length_range] at this
    omega
theorem Rch.back {n : Nat} {f : Nat → Nat} (h : Bij n f) : ∀ (k x y : Nat), x < n → it f k x = y → Rch f y x
  | 0, x, y, _, e => ⟨0, e.symm⟩
  | k + 1, x, y, hx, e => by
    refine Rch.trans (Rch.back h k (f x) y (h.lt x hx) e) ?_
    obtain ⟨d, hd⟩ := round h hx
    exact ⟨d, hd⟩
theorem Rch.symm {n : Nat} {f : Nat → Nat} (h : Bij n f) {x y : Nat} (hx : x < n) (r : Rch f x y) : Rch f y x := by
  obtain ⟨k, e⟩ := r
  exact Rch.back h k x y hx e
end Cy
set_option Elab.async false
set_option linter.all false
set_option maxRecDepth 100000
set_option maxHeartbeats 1000000
/-! Numbers parted by a relation: the parts are the same, however they are told. -/
namespace Pt
structure Part (n : Nat) (R : Nat → Nat → Prop) (P : List (List Nat)) : Prop where
  ne : ∀ c ∈ P, c ≠ []
  nd : P.flatten.Nodup
  cov : ∀ a, a ∈ P.flatten ↔ a < n
  cls : ∀ c ∈ P, ∀ a ∈ c, ∀ b, b < n → (b ∈ c ↔ R a b)
/-- ascending -/
def srt (c : List Nat) : List Nat := c.mergeSort (fun a b => decide (a ≤ b))
theorem srt_perm (c : List Nat) : (srt c).Perm c := List.mergeSort_perm c _
theorem srt_asc (c : List Nat) : (srt c).Pairwise (· ≤ ·) := by
  have h := List.pairwise_mergeSort (le := fun (a b : Nat) => decide (a ≤ b)) (fun a b c h1 h2 => decide_eq_true (Nat.le_trans (of_decide_eq_true h1) (of_decide_eq_true h2))) (fun a b => by
    rcases Nat.le_total a b with h | h
    · simp [h]
    · simp [h]) c
  exact h.imp fun {a b} h => of_decide_eq_true h
theorem asc_eq {α : Type} {le : α → α → Prop} (anti : ∀ a b, le a b → le b a → a = b) : ∀ {l m : List α}, l.Pairwise le → m.Pairwise le → l.Perm m → l = m
  | [], m, _, _, h => (List.Perm.eq_nil h.symm).symm
  | x :: l, [], _, _, h => absurd h.length_eq (by simp)
  | x :: l, y :: m, hl, hm, h => by
    have e : x = y := by
      have a := h.mem_iff.mp (List.mem_cons_self (a := x) (l := l))
      have b := h.mem_iff.mpr (List.mem_cons_self (a := y) (l := m))
      rcases List.mem_cons.mp a with a | a
      · exact a
      · rcases List.mem_cons.mp b with b | b
        · exact b.symm
        · exact anti _ _ ((List.pairwise_cons.mp hl).1 y b) ((List.pairwise_cons.mp hm).1 x a)
    subst e
    rw [asc_eq anti (List.pairwise_cons.mp hl).2 (List.pairwise_cons.mp hm).2 h.cons_inv]
theorem srt_uniq {c d : List Nat} (h : c.Perm d) (ha : d.Pairwise (· ≤ ·)) : srt c = d := asc_eq (fun _ _ => Nat.le_antisymm) (srt_asc c) ha ((srt_perm c).trans h)
theorem srt_eq {c d : List Nat} (h : c.Perm d) : srt c = srt d := srt_uniq (h.trans (srt_perm d).symm) (srt_asc d)
theorem srt_id {d : List Nat} (ha : d.Pairwise (· < ·)) : srt d = d := srt_uniq (List.Perm.refl _) (ha.imp fun h => Nat.le_of_lt h)
theorem mem_flat {P : List (List Nat)} {a : Nat} : a ∈ P.flatten ↔ ∃ c ∈ P, a ∈ c := List.mem_flatten
theorem perm_of {c d : List Nat} (h1 : c.Nodup) (h2 : d.Nodup) (h : ∀ a, a ∈ c ↔ a ∈ d) : c.Perm d := (List.perm_ext_iff_of_nodup h1 h2).mpr h
theorem perm_of' {α : Type} {c d : List α} (h1 : c.Nodup) (h2 : d.Nodup) (h : ∀ a, a ∈ c ↔ a ∈ d) : c.Perm d := (List.perm_ext_iff_of_nodup h1 h2).mpr h
theorem nodup_flat {P : List (List Nat)} (h : P.flatten.Nodup) : (∀ c ∈ P, c.Nodup) ∧ P.Pairwise fun c d => ∀ a, a ∈ c → a ∈ d → False := by
  have := List.pairwise_flatten.mp h
  exact ⟨this.1, this.2.imp fun {c d} h a ha hb => h a ha a hb rfl⟩
theorem Part.nd1 {n : Nat} {R : Nat → Nat → Prop} {P : List (List Nat)} (h : Part n R P) {c : List Nat} (hc : c ∈ P) : c.Nodup := (nodup_flat h.nd).1 c hc
theorem Part.uniq {n : Nat} {R : Nat → Nat → Prop} {P : List (List Nat)} (h : Part n R P) {c d : List Nat} (hc : c ∈ P) (hd : d ∈ P) {a : Nat} (ha : a ∈ c) (hb : a ∈ d) : c = d := by
  obtain ⟨i, hi, rfl⟩ := List.getElem_of_mem hc
  obtain ⟨j, hj, rfl⟩ := List.getElem_of_mem hd
  have pw := List.pairwise_iff_getElem.mp (nodup_flat h.nd).2
  rcases Nat.lt_trichotomy i j with l | rfl | l
  · exact (pw i j hi hj l _ ha hb).elim
  · rfl
  · exact (pw j i hj hi l _ hb ha).elim
theorem Part.lt {n : Nat} {R : Nat → Nat → Prop} {P : List (List Nat)} (h : Part n R P) {c : List Nat} (hc : c ∈ P) {a : Nat} (ha : a ∈ c) : a < n := (h.cov a).mp (mem_flat.mpr ⟨c, hc, ha⟩)
theorem Part.nodup {n : Nat} {R : Nat → Nat → Prop} {P : List (List Nat)} (h : Part n R P) : P.Nodup := by
  refine List.pairwise_iff_getElem.mpr fun i j hi hj l e => ?_
  have pw := List.pairwise_iff_getElem.mp (nodup_flat h.nd).2 i j hi hj l
  obtain ⟨a, ha⟩ := List.exists_mem_of_ne_nil _ (h.ne _ (List.getElem_mem hi))
  exact pw _ ha (by rw [← e]; exact ha)
theorem nodup_map {α β : Type} {f : α → β} : ∀ {l : List α}, l.Nodup → (∀ a ∈ l, ∀ b ∈ l, f a = f b → a = b) → (l.map f).Nodup
  | [], _, _ => List.nodup_nil
  | x :: l, h, inj => by
    rw [List.nodup_cons] at h
    rw [List.map_cons, List.nodup_cons]
    refine ⟨fun m => ?_, nodup_map h.2 fun a ha b hb => inj a (List.mem_cons_of_mem _ ha) b (List.mem_cons_of_mem _ hb)⟩
    obtain ⟨y, hy, e⟩ := List.mem_map.mp m
    exact h.1 (inj y (List.mem_cons_of_mem _ hy) x List.mem_cons_self e ▸ hy)
section
variable {n : Nat} {R R' : Nat → Nat → Prop} {P P' : List (List Nat)} {e : Nat → Nat}
/-- a part goes over to a part -/
theorem carry (A : Part n R P) (B : Part n R' P') (he : Cy.Bij n e) (hr : ∀ i j, i < n → j < n → (R' i j ↔ R (e i) (e j))) {c : List Nat} (hc : c ∈ P') : ∃ d ∈ P, (c.map e).Perm d := by
  obtain ⟨a, ha⟩ := List.exists_mem_of_ne_nil _ (B.ne c hc)
  have la := B.lt hc ha
  obtain ⟨d, hd, had⟩ := mem_flat.mp ((A.cov (e a)).mpr (he.lt a la))
  refine ⟨d, hd, perm_of (nodup_map (B.nd1 hc) fun x hx y hy q => he.inj x y (B.lt hc hx) (B.lt hc hy) q) (A.nd1 hd) fun b => ⟨fun hb => ?_, fun hb => ?_⟩⟩
  · obtain ⟨x, hx, rfl⟩ := List.mem_map.mp hb
    have lx := B.lt hc hx
    exact (A.cls d hd _ had _ (he.lt x lx)).mpr ((hr a x la lx).mp ((B.cls c hc a ha x lx).mp hx))
  · have lb := A.lt hd hb
    obtain ⟨x, lx, rfl⟩ := he.hit lb
    exact List.mem_map.mpr ⟨x, (B.cls c hc a ha x lx).mpr ((hr a x la lx).mpr ((A.cls d hd _ had _ lb).mp hb)), rfl⟩
theorem carry_back (A : Part n R P) (B : Part n R' P') (he : Cy.Bij n e) (hr : ∀ i j, i < n → j < n → (R' i j ↔ R (e i) (e j))) {d : List Nat} (hd : d ∈ P) : ∃ c ∈ P', (c.map e).Perm d := by
  obtain ⟨b, hb⟩ := List.exists_mem_of_ne_nil _ (A.ne d hd)
  obtain ⟨a, la, rfl⟩ := he.hit (A.lt hd hb)
  obtain ⟨c, hc, hac⟩ := mem_flat.mp ((B.cov a).mpr la)
  obtain ⟨d2, hd2, p⟩ := carry A B he hr hc
  have : e a ∈ d2 := p.mem_iff.mp (List.mem_map_of_mem hac)
  rw [A.uniq hd2 hd this hb] at p
  exact ⟨c, hc, p⟩
/-- all parts, each ascending, go over to all parts -/
theorem carried (A : Part n R P) (B : Part n R' P') (he : Cy.Bij n e) (hr : ∀ i j, i < n → j < n → (R' i j ↔ R (e i) (e j))) : (P'.map fun c => srt (c.map e)).Perm (P.map srt) := by
  refine perm_of' (nodup_map B.nodup fun c hc d hd q => ?_) (nodup_map A.nodup fun c hc d hd q => ?_) fun x => ⟨fun hx => ?_, fun hx => ?_⟩
  · obtain ⟨a, ha⟩ := List.exists_mem_of_ne_nil _ (B.ne c hc)
    have m : e a ∈ d.map e := (srt_perm _).mem_iff.mp (q ▸ (srt_perm _).mem_iff.mpr (List.mem_map_of_mem ha))
    obtain ⟨b, hb, q2⟩ := List.mem_map.mp m
    have : a = b := (he.inj b a (B.lt hd hb) (B.lt hc ha) q2).symm
    exact B.uniq hc hd ha (this ▸ hb)
  · obtain ⟨a, ha⟩ := List.exists_mem_of_ne_nil _ (A.ne c hc)
    exact A.uniq hc hd ha ((srt_perm _).mem_iff.mp (q ▸ (srt_perm _).mem_iff.mpr ha))
  · obtain ⟨c, hc, rfl⟩ := List.mem_map.mp hx
    obtain ⟨d, hd, p⟩ := carry A B he hr hc
    exact List.mem_map.mpr ⟨d, hd, (srt_eq p).symm⟩
  · obtain ⟨d, hd, rfl⟩ := List.mem_map.mp hx
    obtain ⟨c, hc, p⟩ := carry_back A B he hr hd
    exact List.mem_map.mpr ⟨c, hc, srt_eq p⟩
theorem carried_sizes (A : Part n R P) (B : Part n R' P') (he : Cy.Bij n e) (hr : ∀ i j, i < n → j < n → (R' i j ↔ R (e i) (e j))) : (P'.map List.length).Perm (P.map List.length) := by
  have h := (carried A B he hr).map List.length
  rw [List.map_map, List.map_map] at h
  have e1 : (P'.map (List.length ∘ fun c => srt (c.map e))) = P'.map List.length := List.map_congr_left fun c _ => by
    show (srt (c.map e)).length = c.length
    rw [(srt_perm _).length_eq, List.length_map]
  have e2 : (P.map (List.length ∘ srt)) = P.map List.length := List.map_congr_left fun c _ => (srt_perm c).length_eq
  rwa [e1, e2] at h
end
end Pt
set_option Elab.async false
set_option linter.all false
set_option maxRecDepth 100000
set_option maxHeartbeats 1000000
namespace W16
open PySem L2 PySem.Spec PyProof.Rows WR WB WE Pt
/-! ### corners part the places -/
theorem orb_tail {nx mt : List Int} : ∀ (k p : Nat) (s c : List Nat), ∃ t, (orb nx mt k s p c).2 = c ++ t ∧ (∀ j, j ∈ (orb nx mt k s p c).1 ↔ j ∈ s ∨ j ∈ t) ∧ t.Nodup ∧ (∀ j ∈ t, j ∉ s ∧ Cy.Rch (nxt nx mt) p j)
  | 0, p, s, c => ⟨[], (List.append_nil _).symm, fun j => ⟨.inl, fun h => h.elim id fun h => nomatch h⟩, List.nodup_nil, fun _ h => nomatch h⟩
  | k + 1, p, s, c => by
    by_cases h : p ∈ s
    · rw [orb_in (by omega) h]
      exact ⟨[], (List.append_nil _).symm, fun j => ⟨.inl, fun h => h.elim id fun h => nomatch h⟩, List.nodup_nil, fun _ h => nomatch h⟩
    · rw [orb_out h]
      obtain ⟨t, e, m, nd, o⟩ := orb_tail (nx := nx) (mt := mt) k (nxt nx mt p) (p :: s) (c ++ [p])
      refine ⟨p :: t, by rw [e, List.append_assoc]; rfl, fun j => ?_, List.nodup_cons.mpr ⟨fun hp => (o p hp).1 List.mem_cons_self, nd⟩, fun j hj => ?_⟩
      · rw [m j, List.mem_cons, List.mem_cons]
        constructor
        · rintro ((h | h) | h)
          · exact .inr (.inl h)
          · exact .inl h
          · exact .inr (.inr h)
        · rintro (h | h | h)
          · exact .inl (.inr h)
          · exact .inl (.inl h)
          · exact .inr h
      · rcases List.mem_cons.mp hj with rfl | hj
        · exact ⟨h, Cy.Rch.refl _ _⟩
        · obtain ⟨a, b⟩ := o j hj
          exact ⟨fun z => a (List.mem_cons_of_mem _ z), (Cy.Rch.step _ p).trans b⟩
theorem crn_part {nx mt : List Int} {n : Nat} (hb : Cy.Bij n (nxt nx mt)) : ∀ m, m ≤ n → (∀ c ∈ (crn nx mt n m).2, c ≠ []) ∧ (crn nx mt n m).2.flatten.Nodup ∧ (∀ j, j ∈ (crn nx mt n m).2.flatten ↔ j ∈ (crn nx mt n m).1) ∧ ∀ c ∈ (crn nx mt n m).2, ∀ a ∈ c, ∀ b, b < n → (b ∈ c ↔ Cy.Rch (nxt nx mt) a b)
  | 0, _ => ⟨(fun _ h => nomatch h), List.nodup_nil, fun j => ⟨(fun h => nomatch h), fun h => nomatch h⟩, fun _ h => nomatch h⟩
  | m + 1, hm => by
    obtain ⟨i1, i2, i3, i4⟩ := crn_part hb m (by omega)
    obtain ⟨c1, c2, c3, _⟩ := crn_all (mt := mt) hb.lt m (by omega)
    obtain ⟨d1, d2, d3, _⟩ := crn_all (mt := mt) hb.lt (m + 1) hm
    obtain ⟨t, e, mm, nd, o⟩ := orb_tail (nx := nx) (mt := mt) (n + 1) m (crn nx mt n m).1 []
    rw [List.nil_append] at e
    have e1 : (crn nx mt n (m + 1)).1 = (orb nx mt (n + 1) (crn nx mt n m).1 m []).1 := rfl
    have e2 : (crn nx mt n (m + 1)).2 = if (orb nx mt (n + 1) (crn nx mt n m).1 m []).2 = [] then (crn nx mt n m).2 else (crn nx mt n m).2 ++ [(orb nx mt (n + 1) (crn nx mt n m).1 m []).2] := rfl
    rw [e] at e2
    by_cases ht : t = []
    · rw [if_pos ht] at e2
      refine ⟨by rw [e2]; exact i1, by rw [e2]; exact i2, fun j => ?_, by rw [e2]; exact i4⟩
      rw [e2, i3, e1, mm, ht]
      exact ⟨.inl, fun h => h.elim id fun h => nomatch h⟩
    · rw [if_neg ht] at e2
      rw [e2]
      have tn : ∀ j ∈ t, j < n := fun j hj => d1.2 j (by rw [e1, mm]; exact .inr hj)
      refine ⟨fun c hc => ?_, ?_, fun j => ?_, fun c hc a ha b hbn => ?_⟩
      · rcases List.mem_append.mp hc with hc | hc
        · exact i1 c hc
        · rw [List.mem_singleton.mp hc]
          exact ht
      · rw [List.flatten_append, List.flatten_cons, List.flatten_nil, List.append_nil]
        refine List.nodup_append.mpr ⟨i2, nd, fun a ha b hb2 q => ?_⟩
        exact (o b hb2).1 (q ▸ (i3 a).mp ha)
      · rw [List.flatten_append, List.flatten_cons, List.flatten_nil, List.append_nil, List.mem_append, i3, e1, mm]
      · rcases List.mem_append.mp hc with hc | hc
        · exact i4 c hc a ha b hbn
        · rw [List.mem_singleton.mp hc] at ha ⊢
          have la := tn a ha
          constructor
          · intro hb2
            exact (Cy.Rch.symm hb (by omega) (o a ha).2).trans (o b hb2).2
          · intro r
            have inS : b ∈ (crn nx mt n (m + 1)).1 := (d3 b).mpr ⟨m, by omega, (o a ha).2.trans r⟩
            rw [e1, mm] at inS
            rcases inS with h | h
            · have rb := Cy.Rch.symm hb la r
              obtain ⟨i, hi, ri⟩ := (c3 b).mp h
              exact absurd ((c3 a).mpr ⟨i, hi, ri.trans rb⟩) (o a ha).1
            · exact h
theorem corn_part {ws : List (List Int)} (hne : ∀ w ∈ ws, w ≠ []) {mt : List Int} (h : PairOk ws.flatten.length mt) : Part ws.flatten.length (Cy.Rch (nxt (nxF 0 ws) mt)) (cornF ws mt) := by
  have hb := bij_nxt hne h
  obtain ⟨h1, h2, h3, h4⟩ := crn_part hb ws.flatten.length (Nat.le_refl _)
  obtain ⟨c1, _, c3, _⟩ := crn_all (mt := mt) hb.lt ws.flatten.length (Nat.le_refl _)
  exact ⟨h1, h2, fun a => by
    show a ∈ (crn (nxF 0 ws) mt ws.flatten.length ws.flatten.length).2.flatten ↔ _
    rw [h3]
    exact ⟨fun z => c1.2 a z, fun z => (c3 a).mpr ⟨a, z, Cy.Rch.refl _ _⟩⟩, h4⟩
end W16
set_option Elab.async false
set_option linter.all false
set_option maxRecDepth 100000
set_option maxHeartbeats 1000000
namespace W16
open PySem L2 PySem.Spec PyProof.Rows WR WB WE Pt
/-! ### what pairs join -/
inductive Con (n : Nat) (ps : List (Nat × Nat)) : Nat → Nat → Prop
  | refl {i : Nat} (h : i < n) : Con n ps i i
  | pair {p : Nat × Nat} (h : p ∈ ps) : Con n ps p.1 p.2
  | symm {i j : Nat} (h : Con n ps i j) : Con n ps j i
  | trans {i j k : Nat} (h : Con n ps i j) (h2 : Con n ps j k) : Con n ps i k
theorem Con.mono {n : Nat} {ps qs : List (Nat × Nat)} (s : ∀ p ∈ ps, p ∈ qs) {i j : Nat} (h : Con n ps i j) : Con n qs i j := by
  induction h with
  | refl h => exact .refl h
  | pair h => exact .pair (s _ h)
  | symm _ ih => exact .symm ih
  | trans _ _ ih1 ih2 => exact .trans ih1 ih2
theorem Con.lt {n : Nat} {ps : List (Nat × Nat)} (hp : ∀ p ∈ ps, p.1 < n ∧ p.2 < n) {i j : Nat} (h : Con n ps i j) : i < n ∧ j < n := by
  induction h with
  | refl h => exact ⟨h, h⟩
  | pair h => exact hp _ h
  | symm _ ih => exact ⟨ih.2, ih.1⟩
  | trans _ _ ih1 ih2 => exact ⟨ih1.1, ih2.2⟩
def rep (ab : List Nat) (i : Nat) : Nat := rt ab i i
section
variable {n : Nat} {ab : List Nat}
theorem rt_root (h : DnOk n ab) : ∀ (k x : Nat), x < n → x ≤ k → ab.getD (rt ab k x) 0 = rt ab k x
  | 0, x, hx, hk => by
    obtain rfl : x = 0 := by omega
    have := h.2 0 hx
    show ab.getD 0 0 = 0
    omega
  | k + 1, x, hx, hk => by
    unfold rt
    by_cases e : ab.getD x 0 = x
    · rw [if_pos e]
      exact e
    · rw [if_neg e]
      have := h.2 x hx
      exact rt_root h k _ (by omega) (by omega)
theorem rt_fuel (h : DnOk n ab) : ∀ (k k' x : Nat), x < n → x ≤ k → x ≤ k' → rt ab k x = rt ab k' x
  | 0, k', x, hx, hk, hk' => by
    obtain rfl : x = 0 := by omega
    have e : ab.getD 0 0 = 0 := by
      have := h.2 0 hx
      omega
    cases k' with
    | zero => rfl
    | succ k' =>
      unfold rt
      rw [if_pos e]
  | k + 1, k', x, hx, hk, hk' => by
    cases k' with
    | zero =>
      obtain rfl : x = 0 := by omega
      have e : ab.getD 0 0 = 0 := by
        have := h.2 0 hx
        omega
      unfold rt
      rw [if_pos e]
    | succ k' =>
      unfold rt
      by_cases e : ab.getD x 0 = x
      · rw [if_pos e, if_pos e]
      · rw [if_neg e, if_neg e]
        have := h.2 x hx
        exact rt_fuel h k k' _ (by omega) (by omega) (by omega)
theorem rt_set (h : DnOk n ab) {r v : Nat} (hr : r < n) (er : ab.getD r 0 = r) (hv : v ≤ r) (ev : ab.getD v 0 = v) : ∀ (k x : Nat), x < n → x ≤ k → rt (ab.set r v) k x = if rt ab k x = r then v else rt ab k x
  | 0, x, hx, hk => by
    obtain rfl : x = 0 := by omega
    show 0 = if 0 = r then v else 0
    split
    · omega
    · rfl
  | k + 1, x, hx, hk => by
    have g := getD_set (l := ab) (i := r) (j := x) (v := v) (by rw [h.1]; exact hr)
    have lx := h.2 x hx
    by_cases xr : x = r
    · rw [if_pos xr] at g
      have e2 : rt ab (k + 1) x = r := by
        unfold rt
        rw [xr, if_pos er]
      rw [e2, if_pos rfl]
      unfold rt
      rw [g]
      by_cases vx : v = x
      · rw [if_pos vx, vx]
      · rw [if_neg vx, rt_set h hr er hv ev k v (by omega) (by omega)]
        have e3 : rt ab k v = v := by
          cases k with
          | zero => rfl
          | succ k =>
            unfold rt
            rw [if_pos ev]
        rw [e3, if_neg (by omega)]
    · rw [if_neg xr] at g
      unfold rt
      rw [g]
      by_cases e : ab.getD x 0 = x
      · rw [if_pos e, if_pos e, if_neg xr]
      · rw [if_neg e, if_neg e]
        exact rt_set h hr er hv ev k _ (by omega) (by omega)
theorem rep_le (h : DnOk n ab) {x : Nat} (hx : x < n) : rep ab x ≤ x := h.rt_le x x hx
theorem rep_rep (h : DnOk n ab) {x : Nat} (hx : x < n) : rep ab (rep ab x) = rep ab x := by
  have r := rt_root h x x hx (Nat.le_refl _)
  exact h.rt_end _ r
theorem rep_jnS (h : DnOk n ab) {p : Nat × Nat} (h1 : p.1 < n) (h2 : p.2 < n) {x : Nat} (hx : x < n) : rep (jnS ab p) x = if rep ab x = max (rep ab p.1) (rep ab p.2) then min (rep ab p.1) (rep ab p.2) else rep ab x := by
  have a := rep_le h h1
  have b := rep_le h h2
  have r1 := rt_root h p.1 p.1 h1 (Nat.le_refl _)
  have r2 := rt_root h p.2 p.2 h2 (Nat.le_refl _)
  refine rt_set h (r := max (rep ab p.1) (rep ab p.2)) (v := min (rep ab p.1) (rep ab p.2)) (by omega) ?_ (by omega) ?_ x x hx (Nat.le_refl _)
  · rcases Nat.le_total (rep ab p.1) (rep ab p.2) with l | l
    · rw [Nat.max_eq_right l]
      exact r2
    · rw [Nat.max_eq_left l]
      exact r1
  · rcases Nat.le_total (rep ab p.1) (rep ab p.2) with l | l
    · rw [Nat.min_eq_left l]
      exact r1
    · rw [Nat.min_eq_right l]
      exact r2
/-- one root just if joined -/
def Told (n : Nat) (ab : List Nat) (ps : List (Nat × Nat)) : Prop := ∀ i j, i < n → j < n → (rep ab i = rep ab j ↔ Con n ps i j)
theorem told_start (n : Nat) : Told n (List.range n) [] := by
  have e : ∀ i, i < n → rep (List.range n) i = i := fun i hi => by
    have g : (List.range n).getD i 0 = i := by
      rw [List.getD_eq_getElem?_getD, List.getElem?_range hi]
      rfl
    exact (dn_range n).rt_end _ g
  intro i j hi hj
  rw [e i hi, e j hj]
  constructor
  · rintro rfl
    exact .refl hi
  · intro h
    induction h with
    | refl _ => rfl
    | pair h => cases h
    | symm h ih => exact (ih hj hi).symm
    | trans h1 h2 ih1 ih2 =>
      have l := (Con.lt (ps := []) (fun p hp => absurd hp List.not_mem_nil) h1).2
      exact (ih1 hi l).trans (ih2 l hj)
theorem told_step (h : DnOk n ab) {ps : List (Nat × Nat)} (t : Told n ab ps) (hps : ∀ p ∈ ps, p.1 < n ∧ p.2 < n) {p : Nat × Nat} (h1 : p.1 < n) (h2 : p.2 < n) : Told n (jnS ab p) (ps ++ [p]) := by
  have up : ∀ {i j : Nat}, Con n ps i j → Con n (ps ++ [p]) i j := fun c => c.mono fun q hq => List.mem_append_left _ hq
  have pp : Con n (ps ++ [p]) p.1 p.2 := .pair (List.mem_append_right _ List.mem_cons_self)
  have both : ∀ x, x < n → rep ab x = max (rep ab p.1) (rep ab p.2) → Con n (ps ++ [p]) x p.1 := fun x hx e => by
    rcases Nat.le_total (rep ab p.1) (rep ab p.2) with l | l
    · rw [Nat.max_eq_right l] at e
      exact .trans (up ((t x p.2 hx h2).mp e)) (.symm pp)
    · rw [Nat.max_eq_left l] at e
      exact up ((t x p.1 hx h1).mp e)
  have both2 : ∀ x, x < n → rep ab x = min (rep ab p.1) (rep ab p.2) → Con n (ps ++ [p]) x p.1 := fun x hx e => by
    rcases Nat.le_total (rep ab p.1) (rep ab p.2) with l | l
    · rw [Nat.min_eq_left l] at e
      exact up ((t x p.1 hx h1).mp e)
    · rw [Nat.min_eq_right l] at e
      exact .trans (up ((t x p.2 hx h2).mp e)) (.symm pp)
  intro i j hi hj
  constructor
  · rw [rep_jnS h h1 h2 hi, rep_jnS h h1 h2 hj]
    intro e
    split at e <;> split at e
    · rename_i a b
      exact up ((t i j hi hj).mp (a.trans b.symm))
    · rename_i a b
      exact .trans (both i hi a) (.symm (both2 j hj e.symm))
    · rename_i a b
      exact .trans (both2 i hi e) (.symm (both j hj b))
    · exact up ((t i j hi hj).mp e)
  · intro c
    have hpq : ∀ q ∈ ps ++ [p], q.1 < n ∧ q.2 < n := fun q hq => by
      rcases List.mem_append.mp hq with hq | hq
      · exact hps q hq
      · rw [List.mem_singleton.mp hq]
        exact ⟨h1, h2⟩
    clear both both2
    induction c with
    | refl _ => rfl
    | symm _ ih => exact (ih hj hi).symm
    | trans c1 c2 ih1 ih2 =>
      have l := (c1.lt hpq).2
      exact (ih1 hi l).trans (ih2 l hj)
    | pair hq =>
      rename_i q
      rw [rep_jnS h h1 h2 hi, rep_jnS h h1 h2 hj]
      rcases List.mem_append.mp hq with hq | hq
      · rw [(t _ _ hi hj).mpr (.pair hq)]
      · rw [List.mem_singleton.mp hq]
        rcases Nat.le_total (rep ab p.1) (rep ab p.2) with l | l
        · rw [Nat.max_eq_right l, Nat.min_eq_left l, if_pos rfl]
          split
          · rfl
          · rfl
        · rw [Nat.max_eq_left l, Nat.min_eq_right l, if_pos rfl]
          split
          · rfl
          · rfl
theorem told_jn : ∀ (qs ps : List (Nat × Nat)) (ab : List Nat), DnOk n ab → Told n ab ps → (∀ p ∈ ps, p.1 < n ∧ p.2 < n) → (∀ p ∈ qs, p.1 < n ∧ p.2 < n) → Told n (jn ab qs) (ps ++ qs)
  | [], ps, ab, _, t, _, _ => by
    rw [List.append_nil]
    exact t
  | q :: qs, ps, ab, h, t, hp, hq => by
    obtain ⟨q1, q2⟩ := hq q List.mem_cons_self
    have := told_jn qs (ps ++ [q]) (jnS ab q) (h.jnS q1 q2) (told_step h t hp q1 q2) (fun p hp2 => by
      rcases List.mem_append.mp hp2 with hp2 | hp2
      · exact hp p hp2
      · rw [List.mem_singleton.mp hp2]
        exact ⟨q1, q2⟩) fun p hp2 => hq p (List.mem_cons_of_mem _ hp2)
    rw [List.append_assoc] at this
    exact this
/-! ### the rows -/
def rowsF (g : Nat → Nat) (m : Nat) : List (Nat × List Nat) := ((List.range m).filter fun r => decide (g r = r)).map fun r => (r, (List.range m).filter fun j => decide (g j = r))
theorem putR_in {g : Nat → List Nat} {k i : Nat} : ∀ {ks : List Nat}, ks.Nodup → k ∈ ks → putR (ks.map fun r => (r, g r)) k i = ks.map fun r => (r, if r = k then g r ++ [i] else g r)
  | [], _, h => nomatch h
  | r :: ks, nd, h => by
    rw [List.nodup_cons] at nd
    rw [List.map_cons, List.map_cons]
    unfold putR
    by_cases e : r = k
    · rw [if_pos e, if_pos e]
      congr 1
      refine List.map_congr_left fun x hx => ?_
      rw [if_neg fun q => nd.1 (by rw [e, ← q]; exact hx)]
    · rw [if_neg e, if_neg e, putR_in nd.2 ((List.mem_cons.mp h).resolve_left fun q => e q.symm)]
theorem putR_out {g : Nat → List Nat} {k i : Nat} : ∀ {ks : List Nat}, k ∉ ks → putR (ks.map fun r => (r, g r)) k i = (ks.map fun r => (r, g r)) ++ [(k, [i])]
  | [], _ => rfl
  | r :: ks, h => by
    rw [List.mem_cons, not_or] at h
    rw [List.map_cons]
    unfold putR
    rw [if_neg fun q => h.1 q.symm, putR_out h.2]
    rfl
theorem rows_put {g : Nat → Nat} {m : Nat} (le : ∀ x, x ≤ m → g x ≤ x) (gg : ∀ x, x ≤ m → g (g x) = g x) : putR (rowsF g m) (g m) m = rowsF g (m + 1) := by
  have nd : ((List.range m).filter fun r => decide (g r = r)).Nodup := List.Pairwise.filter _ List.nodup_range
  unfold rowsF
  rw [List.range_succ, List.filter_append]
  by_cases e : g m = m
  · rw [putR_out (by
      intro z
      have := List.mem_range.mp (List.mem_filter.mp z).1
      omega)]
    rw [show List.filter (fun r => decide (g r = r)) [m] = [m] by simp [e], List.map_append]
    congr 1
    · refine List.map_congr_left fun r hr => ?_
      have := List.mem_range.mp (List.mem_filter.mp hr).1
      rw [List.filter_append, show List.filter (fun j => decide (g j = r)) [m] = [] by simp; omega, List.append_nil]
    · rw [e]
      show [(m, [m])] = [(m, _)]
      rw [List.filter_append, show List.filter (fun j => decide (g j = m)) [m] = [m] by simp [e], show (List.range m).filter (fun j => decide (g j = m)) = [] from ?_]
      · rfl
      · rw [List.filter_eq_nil_iff]
        intro a ha
        have := List.mem_range.mp ha
        have := le a (by omega)
        rw [decide_eq_true_eq]
        omega
  · have lm := le m (Nat.le_refl _)
    rw [putR_in nd (List.mem_filter.mpr ⟨List.mem_range.mpr (by omega), decide_eq_true (gg m (Nat.le_refl _))⟩)]
    rw [show List.filter (fun r => decide (g r = r)) [m] = [] by simp [e], List.append_nil]
    refine List.map_congr_left fun r hr => ?_
    rw [List.filter_append]
    by_cases q : r = g m
    · rw [if_pos q, show List.filter (fun j => decide (g j = r)) [m] = [m] by simp [q]]
    · rw [if_neg q, show List.filter (fun j => decide (g j = r)) [m] = [] by simp; exact fun z => q z.symm, List.append_nil]
theorem flr_is (h : DnOk n ab) : ∀ i, i ≤ n → (flr ab i).1.length = n ∧ (∀ j, j < n → (flr ab i).1.getD j 0 = if j < i then rep ab j else ab.getD j 0) ∧ (flr ab i).2 = rowsF (rep ab) i
  | 0, _ => ⟨h.1, fun j _ => by rw [if_neg (Nat.not_lt_zero _)]; rfl, rfl⟩
  | i + 1, hi => by
    obtain ⟨h1, h2, h3⟩ := flr_is h i (by omega)
    have lt : i < n := by omega
    have ei : (flr ab i).1.getD i 0 = ab.getD i 0 := by rw [h2 i lt, if_neg (Nat.lt_irrefl _)]
    have le := h.2 i lt
    have ev : (flr ab i).1.getD ((flr ab i).1.getD i 0) 0 = rep ab i := by
      rw [ei, h2 _ (by omega)]
      by_cases e : ab.getD i 0 = i
      · rw [if_neg (by omega), e, e]
        exact (h.rt_end _ e).symm
      · rw [if_pos (by omega)]
        show rt ab (ab.getD i 0) (ab.getD i 0) = rt ab i i
        cases i with
        | zero => omega
        | succ i =>
          conv => rhs; unfold rt
          rw [if_neg e]
          exact rt_fuel h _ _ _ (by omega) (Nat.le_refl _) (by omega)
    have f1 : (flr ab (i + 1)).1 = (flr ab i).1.set i ((flr ab i).1.getD ((flr ab i).1.getD i 0) 0) := rfl
    have f2 : (flr ab (i + 1)).2 = putR (flr ab i).2 ((flr ab i).1.getD ((flr ab i).1.getD i 0) 0) i := rfl
    refine ⟨by rw [f1, List.length_set, h1], fun j hj => ?_, ?_⟩
    · rw [f1, getD_set (by rw [h1]; exact lt), ev, h2 j hj]
      by_cases q : j = i
      · rw [if_pos q, if_pos (by omega), q]
      · rw [if_neg q]
        by_cases l : j < i
        · rw [if_pos l, if_pos (by omega)]
        · rw [if_neg l, if_neg (by omega)]
    · rw [f2, ev, h3, rows_put (fun x hx => rep_le h (by omega)) fun x hx => rep_rep h (by omega)]
end
/-- all parts, ascending, the first by their least -/
theorem rows_part {g : Nat → Nat} {n : Nat} (le : ∀ x, x < n → g x ≤ x) (gg : ∀ x, x < n → g (g x) = g x) : Part n (fun i j => g i = g j) ((rowsF g n).map (·.2)) := by
  have em : ∀ c, c ∈ (rowsF g n).map (·.2) ↔ ∃ r, r < n ∧ g r = r ∧ c = (List.range n).filter fun j => decide (g j = r) := fun c => by
    unfold rowsF
    rw [List.map_map, List.mem_map]
    constructor
    · rintro ⟨r, hr, rfl⟩
      obtain ⟨a, b⟩ := List.mem_filter.mp hr
      exact ⟨r, List.mem_range.mp a, of_decide_eq_true b, rfl⟩
    · rintro ⟨r, a, b, rfl⟩
      exact ⟨r, List.mem_filter.mpr ⟨List.mem_range.mpr a, decide_eq_true b⟩, rfl⟩
  refine ⟨fun c hc => ?_, ?_, fun a => ?_, fun c hc a ha b hb => ?_⟩
  · obtain ⟨r, hr, e, rfl⟩ := (em c).mp hc
    exact List.ne_nil_of_mem (List.mem_filter.mpr ⟨List.mem_range.mpr hr, decide_eq_true e⟩)
  · refine List.pairwise_flatten.mpr ⟨fun c hc => ?_, ?_⟩
    · obtain ⟨r, _, _, rfl⟩ := (em c).mp hc
      exact List.Pairwise.filter _ List.nodup_range
    · unfold rowsF
      rw [List.map_map]
      refine List.pairwise_map.mpr ((List.Pairwise.filter _ List.nodup_range).imp fun {r s} ne a ha b hb q => ?_)
      have a2 := of_decide_eq_true (List.mem_filter.mp ha).2
      have b2 := of_decide_eq_true (List.mem_filter.mp hb).2
      subst q
      exact ne (a2.symm.trans b2)
  · rw [mem_flat]
    constructor
    · rintro ⟨c, hc, ha⟩
      obtain ⟨r, _, _, rfl⟩ := (em c).mp hc
      exact List.mem_range.mp (List.mem_filter.mp ha).1
    · intro ha
      exact ⟨_, (em _).mpr ⟨g a, Nat.lt_of_le_of_lt (le a ha) ha, gg a ha, rfl⟩, List.mem_filter.mpr ⟨List.mem_range.mpr ha, decide_eq_true rfl⟩⟩
  · obtain ⟨r, _, _, rfl⟩ := (em c).mp hc
    have a2 := of_decide_eq_true (List.mem_filter.mp ha).2
    rw [List.mem_filter, decide_eq_true_eq, a2]
    exact ⟨fun h => h.2.symm, fun h => ⟨List.mem_range.mpr hb, h.symm⟩⟩
theorem rows_asc {g : Nat → Nat} {n : Nat} : ∀ c ∈ (rowsF g n).map (·.2), c.Pairwise (· < ·) := fun c hc => by
  unfold rowsF at hc
  rw [List.map_map] at hc
  obtain ⟨r, _, rfl⟩ := List.mem_map.mp hc
  exact List.Pairwise.filter _ List.pairwise_lt_range
theorem rows_lex {g : Nat → Nat} {n : Nat} (le : ∀ x, x < n → g x ≤ x) : ((rowsF g n).map (·.2)).Pairwise fun c d => nats c ≤ nats d := by
  unfold rowsF
  rw [List.map_map]
  have hd : ∀ r, r < n → g r = r → ∃ t, (List.range n).filter (fun j => decide (g j = r)) = r :: t := fun r hr e => by
    have m : r ∈ (List.range n).filter (fun j => decide (g j = r)) := List.mem_filter.mpr ⟨List.mem_range.mpr hr, decide_eq_true e⟩
    have asc : ((List.range n).filter (fun j => decide (g j = r))).Pairwise (· < ·) := List.Pairwise.filter _ List.pairwise_lt_range
    cases q : (List.range n).filter (fun j => decide (g j = r)) with
    | nil => rw [q] at m; cases m
    | cons x t =>
      rw [q] at m asc
      have hx : x ∈ (List.range n).filter (fun j => decide (g j = r)) := by rw [q]; exact List.mem_cons_self
      obtain ⟨x1, x2⟩ := List.mem_filter.mp hx
      have x3 := of_decide_eq_true x2
      have := le x (List.mem_range.mp x1)
      rcases List.mem_cons.mp m with rfl | m
      · exact ⟨t, rfl⟩
      · have := (List.pairwise_cons.mp asc).1 r m
        omega
  have base : ((List.range n).filter fun r => decide (g r = r)).Pairwise (· < ·) := List.Pairwise.filter _ List.pairwise_lt_range
  refine List.pairwise_map.mpr (base.imp_of_mem fun {r s} hr hs lt => ?_)
  obtain ⟨r1, r2⟩ := List.mem_filter.mp hr
  obtain ⟨s1, s2⟩ := List.mem_filter.mp hs
  obtain ⟨t, et⟩ := hd r (List.mem_range.mp r1) (of_decide_eq_true r2)
  obtain ⟨u, eu⟩ := hd s (List.mem_range.mp s1) (of_decide_eq_true s2)
  dsimp only [Function.comp_apply]
  rw [et, eu]
  refine List.le_of_lt ?_
  show (r : Int) :: nats t < (s : Int) :: nats u
  exact List.cons_lt_cons_iff.mpr (.inl (by omega))
theorem join_all {n : Nat} {ps : List (Nat × Nat)} (hp : ∀ p ∈ ps, p.1 < n ∧ p.2 < n) : Part n (Con n ps) (joinF n ps) ∧ (∀ c ∈ joinF n ps, c.Pairwise (· < ·)) ∧ (joinF n ps).Pairwise fun c d => nats c ≤ nats d := by
  have D := DnOk.jn ps (dn_range n) hp
  have T := told_jn ps [] _ (dn_range n) (told_start n) (fun _ h => nomatch h) hp
  rw [List.nil_append] at T
  have e : joinF n ps = (rowsF (rep (jn (List.range n) ps)) n).map (·.2) := by
    unfold joinF
    rw [(flr_is D n (Nat.le_refl _)).2.2]
  rw [e]
  have P := rows_part (g := rep (jn (List.range n) ps)) (n := n) (fun x hx => rep_le D hx) fun x hx => rep_rep D hx
  refine ⟨⟨P.ne, P.nd, P.cov, fun c hc a ha b hb => ?_⟩, rows_asc, rows_lex fun x hx => rep_le D hx⟩
  rw [P.cls c hc a ha b hb]
  exact T a b (P.lt hc ha) hb
theorem pc_all {ws : List (List Int)} {mt : List Int} (h : MatesOk ws.flatten.length mt) : Part ws.length (Con ws.length (pcP ws mt)) (pcF ws mt) ∧ (∀ c ∈ pcF ws mt, c.Pairwise (· < ·)) ∧ (pcF ws mt).Pairwise fun c d => nats c ≤ nats d := by
  refine join_all fun p hp => ?_
  obtain ⟨i, hi, rfl⟩ := List.mem_map.mp hp
  have hi := List.mem_range.mp hi
  rw [h.1] at hi
  have hl : i < mt.length := by rw [h.1]; exact hi
  have e : mt.getD i 0 = mt[i] := by rw [List.getD_eq_getElem?_getD, List.getElem?_eq_getElem hl]; rfl
  have := h.2 _ (List.getElem_mem hl)
  rw [e]
  exact ⟨(home_at hi).2, (home_at (by omega)).2⟩
end W16
set_option Elab.async false
set_option linter.all false
set_option maxRecDepth 100000
set_option maxHeartbeats 1000000
namespace W16
open PySem L2 PySem.Spec PyProof.Rows WR WB WE Pt
/-! ### rims that come of other ones by a bijection of places -/
def nxN (ws : List (List Int)) (i : Nat) : Nat := ((nxF 0 ws).getD i 0).toNat
structure Mv (ws us : List (List Int)) (e p : Nat → Nat) (g : Int → Int) (back : Bool) : Prop where
  len : us.flatten.length = ws.flatten.length
  many : us.length = ws.length
  bij : Cy.Bij ws.flatten.length e
  pb : Cy.Bij ws.length p
  hm : ∀ i, i < ws.flatten.length → p (home us i) = home ws (e i)
  nx0 : back = false → ∀ i, i < ws.flatten.length → e (nxN us i) = nxN ws (e i)
  nx1 : back = true → ∀ i, i < ws.flatten.length → nxN ws (e (nxN us i)) = e i
  lts : ∀ i, i < ws.flatten.length → us.flatten.getD i 0 = g (ws.flatten.getD (e i) 0)
  odd : ∀ x ∈ ws.flatten, g (-x) = -g x
  inj : ∀ x ∈ ws.flatten, ∀ y ∈ ws.flatten, g x = g y → x = y
  rng : ∀ x ∈ ws.flatten, 1 ≤ (g x).natAbs ∧ (g x).natAbs ≤ 26
  ne : ∀ w ∈ us, w ≠ []
/-- mates carried along -/
def TM (n : Nat) (e : Nat → Nat) (mt mt2 : List Int) : Prop := mt2.length = n ∧ ∀ i, i < n → ∃ j, j < n ∧ mt2[i]? = some ((j : Nat) : Int) ∧ e j = mtn mt (e i)
theorem TM.at {n : Nat} {e : Nat → Nat} {mt mt2 : List Int} (h : TM n e mt mt2) {i : Nat} (hi : i < n) : mtn mt2 i < n ∧ mt2[i]? = some ((mtn mt2 i : Nat) : Int) ∧ e (mtn mt2 i) = mtn mt (e i) := by
  obtain ⟨j, h1, h2, h3⟩ := h.2 i hi
  have e2 : mtn mt2 i = j := by
    unfold mtn
    rw [List.getD_eq_getElem?_getD, h2]
    exact Int.toNat_natCast j
  rw [e2]
  exact ⟨h1, h2, h3⟩
theorem getD_mem {ls : List Int} {i : Nat} (h : i < ls.length) : ls.getD i 0 ∈ ls := by
  rw [getD_lt h]
  exact List.getElem_mem h
section
variable {ws us : List (List Int)} {e p : Nat → Nat} {g : Int → Int} {back : Bool} {mt mt2 : List Int}
theorem Mv.mates (M : Mv ws us e p g back) (h : MatOk ws.flatten mt) (bal : ∀ x ∈ ws.flatten, -x ∈ ws.flatten) (t : TM ws.flatten.length e mt mt2) : MatOk us.flatten mt2 := by
  have P : PairOk ws.flatten.length mt2 := mates_ok_of t.1 (fun i => mtn mt2 i) fun i hi => by
    have hn : i < ws.flatten.length := by rw [← t.1]; exact hi
    obtain ⟨a1, a2, a3⟩ := t.at hn
    obtain ⟨b1, b2, b3⟩ := t.at a1
    have le := M.bij.lt i hn
    obtain ⟨q1, q2⟩ := pair_inv h.1 le
    refine ⟨?_, a1, fun q => q2 (by rw [← a3, q]), M.bij.inj _ _ b1 hn (by rw [b3, a3, q1])⟩
    rw [List.getElem?_eq_getElem hi] at a2
    exact Option.some.inj a2
  refine ⟨by rw [M.len]; exact P, fun i hi => ?_⟩
  have hn : i < ws.flatten.length := by rw [← t.1]; exact hi
  obtain ⟨a1, a2, a3⟩ := t.at hn
  have ei : mt2[i] = ((mtn mt2 i : Nat) : Int) := by
    rw [List.getElem?_eq_getElem hi] at a2
    exact Option.some.inj a2
  rw [ei, Int.toNat_natCast, M.lts _ a1, M.lts _ hn, a3]
  have le := M.bij.lt i hn
  have lm : e i < mt.length := by rw [h.1.1.1]; exact le
  have q := h.2 (e i) lm
  rw [show mt[e i].toNat = mtn mt (e i) by unfold mtn; rw [getD_lt lm]] at q
  rw [q, M.odd _ (getD_mem le)]
theorem it_conj {n : Nat} {f f2 e : Nat → Nat} (h2 : ∀ i, i < n → f2 i < n) (h : ∀ i, i < n → e (f2 i) = f (e i)) : ∀ (k i : Nat), i < n → e (Cy.it f2 k i) = Cy.it f k (e i)
  | 0, i, _ => rfl
  | k + 1, i, hi => by
    show e (Cy.it f2 k (f2 i)) = Cy.it f k (f (e i))
    rw [it_conj h2 h k _ (h2 i hi), h i hi]
theorem rch_conj {n : Nat} {f f2 e : Nat → Nat} (he : Cy.Bij n e) (hf2 : ∀ i, i < n → f2 i < n) (h : ∀ i, i < n → e (f2 i) = f (e i)) {i j : Nat} (hi : i < n) (hj : j < n) : Cy.Rch f2 i j ↔ Cy.Rch f (e i) (e j) := by
  constructor
  · rintro ⟨k, rfl⟩
    exact ⟨k, (it_conj hf2 h k i hi).symm⟩
  · rintro ⟨k, q⟩
    rw [← it_conj hf2 h k i hi] at q
    exact ⟨k, he.inj _ _ (Cy.it_lt hf2 k i hi) hj q⟩
theorem it_back {n : Nat} {f f2 e : Nat → Nat} (h2 : ∀ i, i < n → f2 i < n) (h : ∀ i, i < n → f (e (f2 i)) = e i) : ∀ (k i : Nat), i < n → Cy.it f k (e (Cy.it f2 k i)) = e i
  | 0, i, _ => rfl
  | k + 1, i, hi => by
    show Cy.it f (k + 1) (e (Cy.it f2 k (f2 i))) = e i
    rw [Cy.it_add]
    rw [it_back h2 h k _ (h2 i hi)]
    exact h i hi
theorem rch_back {n : Nat} {f f2 e : Nat → Nat} (hf : Cy.Bij n f) (hf2 : Cy.Bij n f2) (he : Cy.Bij n e) (h : ∀ i, i < n → f (e (f2 i)) = e i) {i j : Nat} (hi : i < n) (hj : j < n) : Cy.Rch f2 i j ↔ Cy.Rch f (e i) (e j) := by
  constructor
  · rintro ⟨k, rfl⟩
    exact Cy.Rch.symm hf (he.lt _ (Cy.it_lt hf2.lt k i hi)) ⟨k, it_back hf2.lt h k i hi⟩
  · rintro ⟨k, q⟩
    have q2 := it_back hf2.lt h k j hj
    have l := Cy.it_lt hf2.lt k j hj
    have := Cy.it_inj hf k _ _ (he.lt _ l) (he.lt i hi) (q2.trans q.symm)
    exact Cy.Rch.symm hf2 hj ⟨k, he.inj _ _ l hi this⟩
/-- where corners go -/
theorem Mv.rounds (M : Mv ws us e p g back) (hne : ∀ w ∈ ws, w ≠ []) (h : PairOk ws.flatten.length mt) (h2 : PairOk us.flatten.length mt2) (t : TM ws.flatten.length e mt mt2) :
    ∃ c, Cy.Bij ws.flatten.length c ∧ ∀ i j, i < ws.flatten.length → j < ws.flatten.length → (Cy.Rch (nxt (nxF 0 us) mt2) i j ↔ Cy.Rch (nxt (nxF 0 ws) mt) (c i) (c j)) := by
  have B := bij_nxt hne h
  have B2 := bij_nxt M.ne h2
  rw [M.len] at B2
  cases back with
  | false =>
    refine ⟨e, M.bij, fun i j hi hj => rch_conj M.bij B2.lt (fun i hi => ?_) hi hj⟩
    obtain ⟨a1, _, a3⟩ := t.at hi
    show e (nxN us (mtn mt2 i)) = nxN ws (mtn mt (e i))
    rw [M.nx0 rfl _ a1, a3]
  | true =>
    have Bc : Cy.Bij ws.flatten.length fun i => mtn mt (e i) := ⟨fun i hi => (mtn_at h.1 (M.bij.lt i hi)).1, fun i j hi hj q => by
      have := congrArg (mtn mt) q
      rw [(pair_inv h (M.bij.lt i hi)).1, (pair_inv h (M.bij.lt j hj)).1] at this
      exact M.bij.inj i j hi hj this⟩
    refine ⟨_, Bc, fun i j hi hj => rch_back B B2 Bc (fun i hi => ?_) hi hj⟩
    obtain ⟨a1, _, a3⟩ := t.at hi
    have l2 : nxN us (mtn mt2 i) < ws.flatten.length := B2.lt i hi
    show nxN ws (mtn mt (mtn mt (e (nxN us (mtn mt2 i))))) = mtn mt (e i)
    rw [(pair_inv h (M.bij.lt _ l2)).1, M.nx1 rfl _ a1, a3]
theorem Mv.sizes (M : Mv ws us e p g back) (hne : ∀ w ∈ ws, w ≠ []) (h : PairOk ws.flatten.length mt) (h2 : PairOk us.flatten.length mt2) (t : TM ws.flatten.length e mt mt2) : ((cornF us mt2).map List.length).Perm ((cornF ws mt).map List.length) := by
  obtain ⟨c, hc, hr⟩ := M.rounds hne h h2 t
  have B := corn_part M.ne h2
  rw [M.len] at B
  exact carried_sizes (corn_part hne h) B hc hr
theorem Mv.cost (M : Mv ws us e p g back) (hne : ∀ w ∈ ws, w ≠ []) (h : PairOk ws.flatten.length mt) (h2 : PairOk us.flatten.length mt2) (t : TM ws.flatten.length e mt mt2) : costF us mt2 = costF ws mt := by
  have l := (M.sizes hne h h2 t).length_eq
  rw [List.length_map, List.length_map] at l
  unfold costF
  rw [l, M.len]
theorem con_to {n : Nat} {ps qs : List (Nat × Nat)} {p : Nat → Nat} (hp : ∀ i, i < n → p i < n) (h : ∀ q ∈ qs, (p q.1, p q.2) ∈ ps) {i j : Nat} (c : Con n qs i j) : Con n ps (p i) (p j) := by
  induction c with
  | refl hi => exact .refl (hp _ hi)
  | pair hq => exact .pair (h _ hq)
  | symm _ ih => exact .symm ih
  | trans _ _ ih1 ih2 => exact .trans ih1 ih2
theorem con_from {n : Nat} {ps qs : List (Nat × Nat)} {p : Nat → Nat} (hb : Cy.Bij n p) (hps : ∀ q ∈ ps, q.1 < n ∧ q.2 < n) (hqs : ∀ q ∈ qs, q.1 < n ∧ q.2 < n) (h : ∀ q ∈ ps, ∃ r ∈ qs, p r.1 = q.1 ∧ p r.2 = q.2) {a b : Nat} (c : Con n ps a b) : ∀ i j, i < n → j < n → p i = a → p j = b → Con n qs i j := by
  induction c with
  | refl ha =>
    intro i j hi hj e1 e2
    rw [hb.inj i j hi hj (e1.trans e2.symm)]
    exact .refl hj
  | pair hq =>
    intro i j hi hj e1 e2
    obtain ⟨r, hr, f1, f2⟩ := h _ hq
    obtain ⟨r1, r2⟩ := hqs r hr
    rw [hb.inj i r.1 hi r1 (e1.trans f1.symm), hb.inj j r.2 hj r2 (e2.trans f2.symm)]
    exact .pair hr
  | symm _ ih => exact fun i j hi hj e1 e2 => .symm (ih j i hj hi e2 e1)
  | trans c1 c2 ih1 ih2 =>
    intro i j hi hj e1 e2
    obtain ⟨m, hm, em⟩ := hb.hit (c1.lt hps).2
    exact .trans (ih1 i m hi hm e1 em) (ih2 m j hm hj em e2)
theorem pcP_lt {ws : List (List Int)} {mt : List Int} (h : MatesOk ws.flatten.length mt) : ∀ q ∈ pcP ws mt, q.1 < ws.length ∧ q.2 < ws.length := fun q hq => by
  obtain ⟨i, hi, rfl⟩ := List.mem_map.mp hq
  have hi := List.mem_range.mp hi
  rw [h.1] at hi
  exact ⟨(home_at hi).2, (home_at (mtn_at h hi).1).2⟩
theorem pcP_mem {ws : List (List Int)} {mt : List Int} (h : MatesOk ws.flatten.length mt) {i : Nat} (hi : i < ws.flatten.length) : (home ws i, home ws (mtn mt i)) ∈ pcP ws mt := List.mem_map.mpr ⟨i, List.mem_range.mpr (by rw [h.1]; exact hi), rfl⟩
theorem Mv.pieces (M : Mv ws us e p g back) (h : MatesOk ws.flatten.length mt) (h2 : MatesOk us.flatten.length mt2) (t : TM ws.flatten.length e mt mt2) : ((pcF us mt2).map fun c => srt (c.map p)).Perm (pcF ws mt) := by
  obtain ⟨A, asc, _⟩ := pc_all h
  obtain ⟨B, _, _⟩ := pc_all h2
  rw [M.many] at B
  have l1 := pcP_lt h
  have l2 := pcP_lt h2
  rw [M.many] at l2
  have hr : ∀ i j, i < ws.length → j < ws.length → (Con ws.length (pcP us mt2) i j ↔ Con ws.length (pcP ws mt) (p i) (p j)) := fun i j hi hj => by
    constructor
    · refine con_to M.pb.lt fun q hq => ?_
      obtain ⟨k, hk, rfl⟩ := List.mem_map.mp hq
      have hk := List.mem_range.mp hk
      rw [h2.1, M.len] at hk
      obtain ⟨a1, _, a3⟩ := t.at hk
      dsimp only
      rw [M.hm k hk, show (mt2.getD k 0).toNat = mtn mt2 k from rfl, M.hm _ a1, a3]
      exact pcP_mem h (M.bij.lt k hk)
    · refine fun c => con_from M.pb l1 l2 (fun q hq => ?_) c i j hi hj rfl rfl
      obtain ⟨k, hk, rfl⟩ := List.mem_map.mp hq
      have hk := List.mem_range.mp hk
      rw [h.1] at hk
      obtain ⟨m, hm, rfl⟩ := M.bij.hit hk
      obtain ⟨a1, _, a3⟩ := t.at hm
      refine ⟨_, pcP_mem h2 (i := m) (by rw [M.len]; exact hm), M.hm m hm, ?_⟩
      show p (home us (mtn mt2 m)) = home ws (mtn mt (e m))
      rw [M.hm _ a1, a3]
  have r := carried A B M.pb hr
  rwa [show (pcF ws mt).map srt = pcF ws mt from (List.map_congr_left fun c hc => srt_id (asc c hc)).trans (List.map_id' _)] at r
theorem Mv.hand (M : Mv ws us e p g back) (hne : ∀ w ∈ ws, w ≠ []) (h : PairOk ws.flatten.length mt) (h2 : PairOk us.flatten.length mt2) (t : TM ws.flatten.length e mt mt2) : handF us mt2 = handF ws mt ∧ (pcF us mt2).length = (pcF ws mt).length := by
  have l := (M.pieces h.1 h2.1 t).length_eq
  rw [List.length_map] at l
  refine ⟨?_, l⟩
  unfold handF
  rw [l, M.many, M.cost hne h h2 t]
end
end W16
set_option Elab.async false
set_option linter.all false
set_option maxRecDepth 100000
set_option maxHeartbeats 1000000
namespace W16
open PySem L2 PySem.Spec PyProof.Rows WR WB WE Pt
/-! ### the census goes along, and what rims want -/
theorem sew_iff {ls : List Int} (hl : Lts ls) (h24 : ls.length ≤ 24) (r : List Nat) : r ∈ matesF (prtF ls) ↔ MatOk ls (nats r) := ⟨fun h => mates_ok hl h, fun h => mates_all hl h24 h⟩
open Classical in
noncomputable def invB (n : Nat) (e : Nat → Nat) (y : Nat) : Nat := if h : ∃ x, x < n ∧ e x = y then Classical.choose h else 0
theorem invB_ok {n : Nat} {e : Nat → Nat} (h : Cy.Bij n e) {y : Nat} (hy : y < n) : invB n e y < n ∧ e (invB n e y) = y := by
  have ex := h.hit hy
  unfold invB
  rw [dif_pos ex]
  exact Classical.choose_spec ex
noncomputable def goF (n : Nat) (e : Nat → Nat) (r : List Nat) : List Nat := (List.range n).map fun i => invB n e (mtn (nats r) (e i))
def backF (n : Nat) (e f : Nat → Nat) (r : List Nat) : List Nat := (List.range n).map fun y => e (mtn (nats r) (f y))
theorem go_tm {n : Nat} {e : Nat → Nat} (he : Cy.Bij n e) {r : List Nat} (h : MatesOk n (nats r)) : TM n e (nats r) (nats (goF n e r)) := by
  refine ⟨by unfold nats goF; rw [List.length_map, List.length_map, List.length_range], fun i hi => ?_⟩
  obtain ⟨a1, a2⟩ := invB_ok he (mtn_at h (he.lt i hi)).1
  refine ⟨_, a1, ?_, a2⟩
  rw [nats_at]
  unfold goF
  rw [List.getElem?_map, List.getElem?_range hi]
  rfl
theorem mtn_nats {r : List Nat} {f : Nat → Nat} {n i : Nat} (e : r = (List.range n).map f) (hi : i < n) : mtn (nats r) i = f i := by
  unfold mtn
  rw [List.getD_eq_getElem?_getD, nats_at, e, List.getElem?_map, List.getElem?_range hi]
  exact Int.toNat_natCast _
theorem nats_ext {n : Nat} {r s : List Nat} (hr : MatesOk n (nats r)) (hs : MatesOk n (nats s)) (h : ∀ i, i < n → mtn (nats r) i = mtn (nats s) i) : r = s := by
  have l1 : r.length = n := by rw [← hr.1]; exact (List.length_map _).symm
  have l2 : s.length = n := by rw [← hs.1]; exact (List.length_map _).symm
  refine List.ext_getElem (by omega) fun i h1 h2 => ?_
  have q := h i (by omega)
  have a := (mtn_at hr (i := i) (by omega)).2.1
  have b := (mtn_at hs (i := i) (by omega)).2.1
  rw [nats_at, List.getElem?_eq_getElem h1] at a
  rw [nats_at, List.getElem?_eq_getElem h2] at b
  have a2 : ((r[i] : Nat) : Int) = _ := Option.some.inj a
  have b2 : ((s[i] : Nat) : Int) = _ := Option.some.inj b
  omega
theorem ds_perm {a b : List Int} (h : a.Perm b) : dsF a = dsF b := by
  unfold dsF
  exact List.filter_congr fun x _ => by rw [decide_eq_decide]; exact h.mem_iff
theorem cens_perm {ws us : List (List Int)} (h : (costsF us).Perm (costsF ws)) : censusF us = censusF ws := by
  unfold censusF
  rw [ds_perm h]
  exact List.map_congr_left fun c _ => by rw [h.count_eq]
theorem cnt_neg (z : Int) : ∀ L : List Int, (L.map fun x => -x).count z = L.count (-z)
  | [] => rfl
  | x :: L => by
    rw [List.map_cons, List.count_cons, List.count_cons, cnt_neg z L]
    by_cases e : x = -z
    · rw [if_pos (by simp [e]), if_pos (by simp [e])]
    · rw [if_neg (by simp; omega), if_neg (by simp [e])]
section
variable {ws us : List (List Int)} {e p : Nat → Nat} {g : Int → Int} {back : Bool}
theorem neg_mem {L : List Int} (bal : ∀ z, L.count z = L.count (-z)) {x : Int} (h : x ∈ L) : -x ∈ L := by
  have := List.count_pos_iff.mpr h
  rw [bal x] at this
  exact List.count_pos_iff.mp this
theorem Mv.flat (M : Mv ws us e p g back) : us.flatten.Perm (ws.flatten.map g) := by
  have e1 : us.flatten = ((List.range ws.flatten.length).map e).map fun i => g (ws.flatten.getD i 0) := by
    refine List.ext_getElem (by rw [List.length_map, List.length_map, List.length_range, M.len]) fun i h1 h2 => ?_
    rw [List.getElem_map, List.getElem_map, List.getElem_range, ← M.lts i (by rw [← M.len]; exact h1), getD_lt h1]
  have e2 : ws.flatten.map g = (List.range ws.flatten.length).map fun i => g (ws.flatten.getD i 0) := by
    refine List.ext_getElem (by rw [List.length_map, List.length_map, List.length_range]) fun i h1 h2 => ?_
    rw [List.length_map] at h1
    rw [List.getElem_map, List.getElem_map, List.getElem_range, getD_lt h1]
  rw [e1, e2]
  refine List.Perm.map _ (perm_of (nodup_map List.nodup_range fun a ha b hb q => M.bij.inj a b (List.mem_range.mp ha) (List.mem_range.mp hb) q) List.nodup_range fun a => ?_)
  rw [List.mem_map, List.mem_range]
  constructor
  · rintro ⟨x, hx, rfl⟩
    exact M.bij.lt x (List.mem_range.mp hx)
  · intro ha
    obtain ⟨x, hx, q⟩ := M.bij.hit ha
    exact ⟨x, List.mem_range.mpr hx, q⟩
theorem Mv.ltsOk (M : Mv ws us e p g back) : Lts us.flatten := fun x hx => by
  obtain ⟨y, hy, rfl⟩ := List.mem_map.mp (M.flat.mem_iff.mp hx)
  exact M.rng y hy
theorem Mv.bal (M : Mv ws us e p g back) (bal : ∀ z, ws.flatten.count z = ws.flatten.count (-z)) (z : Int) : us.flatten.count z = us.flatten.count (-z) := by
  rw [M.flat.count_eq, M.flat.count_eq]
  have q : ws.flatten.Perm (ws.flatten.map fun x => -x) := List.perm_iff_count.mpr fun z => by rw [cnt_neg]; exact bal z
  have q2 := q.map g
  rw [List.map_map] at q2
  have e3 : ws.flatten.map (g ∘ fun x => -x) = (ws.flatten.map g).map fun x => -x := by
    rw [List.map_map]
    exact List.map_congr_left fun x hx => M.odd x hx
  rw [e3] at q2
  rw [q2.count_eq, cnt_neg]
theorem Mv.rim (M : Mv ws us e p g back) (ok : RimOk ws) (bal : ∀ z, ws.flatten.count z = ws.flatten.count (-z)) : RimOk us := by
  obtain ⟨h1, h2, h3, h4, h5, h6⟩ := ok
  exact ⟨by rw [M.many]; exact h1, by rw [M.many]; exact h2, M.ne, by rw [M.len]; exact h4, M.ltsOk, bal_none fun z => by rw [M.bal bal z]⟩
theorem Mv.costs (M : Mv ws us e p g back) (ok : RimOk ws) (bal : ∀ z, ws.flatten.count z = ws.flatten.count (-z)) : (costsF us).Perm (costsF ws) := by
  obtain ⟨h1, h2, hne, h24, hl, _⟩ := ok
  have hl2 := M.ltsOk
  have h24' : us.flatten.length ≤ 24 := by rw [M.len]; exact h24
  have bm : ∀ x ∈ ws.flatten, -x ∈ ws.flatten := fun x hx => neg_mem bal hx
  have iff1 := sew_iff hl h24
  have iff2 := sew_iff hl2 h24'
  have tm : ∀ {r : List Nat}, MatOk ws.flatten (nats r) → TM ws.flatten.length e (nats r) (nats (goF ws.flatten.length e r)) := fun h => go_tm M.bij h.1.1
  have ok2 : ∀ {r : List Nat}, MatOk ws.flatten (nats r) → MatOk us.flatten (nats (goF ws.flatten.length e r)) := fun h => M.mates h bm (tm h)
  have pm : ((sewF ws).map (goF ws.flatten.length e)).Perm (sewF us) := by
    refine perm_of' (nodup_map (mates_nodup hl) fun r hr s hs q => ?_) (mates_nodup hl2) fun r => ?_
    · have hr := (iff1 r).mp hr
      have hs := (iff1 s).mp hs
      refine nats_ext hr.1.1 hs.1.1 fun i hi => ?_
      obtain ⟨x, hx, rfl⟩ := M.bij.hit hi
      have a := (tm hr).at hx
      have b := (tm hs).at hx
      rw [← a.2.2, ← b.2.2, q]
    · rw [List.mem_map]
      constructor
      · rintro ⟨s, hs, rfl⟩
        exact (iff2 _).mpr (ok2 ((iff1 s).mp hs))
      · intro hr
        have hr := (iff2 r).mp hr
        have hrm : MatesOk ws.flatten.length (nats r) := by rw [← M.len]; exact hr.1.1
        have hpr : PairOk ws.flatten.length (nats r) := by rw [← M.len]; exact hr.1
        have iv := fun {y : Nat} (hy : y < ws.flatten.length) => invB_ok M.bij hy
        have back : ∀ y, y < ws.flatten.length → mtn (nats (backF ws.flatten.length e (invB ws.flatten.length e) r)) y = e (mtn (nats r) (invB ws.flatten.length e y)) := fun y hy => mtn_nats rfl hy
        have bl : (nats (backF ws.flatten.length e (invB ws.flatten.length e) r)).length = ws.flatten.length := by unfold nats backF; rw [List.length_map, List.length_map, List.length_range]
        have at_ : ∀ y (hy : y < (nats (backF ws.flatten.length e (invB ws.flatten.length e) r)).length), (nats (backF ws.flatten.length e (invB ws.flatten.length e) r))[y] = ((e (mtn (nats r) (invB ws.flatten.length e y)) : Nat) : Int) := fun y hy => by
          rw [← back y (by omega)]
          unfold mtn
          rw [getD_lt hy]
          have : 0 ≤ (nats (backF ws.flatten.length e (invB ws.flatten.length e) r))[y] := by
            obtain ⟨z, _, q⟩ := List.mem_map.mp (List.getElem_mem hy)
            rw [← q]
            omega
          omega
        have okb : MatOk ws.flatten (nats (backF ws.flatten.length e (invB ws.flatten.length e) r)) := by
          have P : PairOk ws.flatten.length (nats (backF ws.flatten.length e (invB ws.flatten.length e) r)) := mates_ok_of bl (fun y => e (mtn (nats r) (invB ws.flatten.length e y))) fun y hy => by
            have hn : y < ws.flatten.length := by omega
            obtain ⟨i1, i2⟩ := iv hn
            obtain ⟨m1, _⟩ := mtn_at hrm i1
            obtain ⟨p1, p2⟩ := pair_inv hpr i1
            have l := M.bij.lt _ m1
            refine ⟨at_ y hy, l, fun q => p2 (M.bij.inj _ _ m1 i1 (q.trans i2.symm)), ?_⟩
            obtain ⟨j1, j2⟩ := iv l
            have : invB ws.flatten.length e (e (mtn (nats r) (invB ws.flatten.length e y))) = mtn (nats r) (invB ws.flatten.length e y) := M.bij.inj _ _ j1 m1 j2
            rw [this, p1, i2]
          refine ⟨P, fun y hy => ?_⟩
          have hn : y < ws.flatten.length := by omega
          obtain ⟨i1, i2⟩ := iv hn
          obtain ⟨m1, _⟩ := mtn_at hrm i1
          rw [at_ y hy, Int.toNat_natCast]
          have l := M.bij.lt _ m1
          have li : invB ws.flatten.length e y < (nats r).length := by rw [hrm.1]; exact i1
          have q := hr.2 _ li
          rw [show (nats r)[invB ws.flatten.length e y].toNat = mtn (nats r) (invB ws.flatten.length e y) by unfold mtn; rw [getD_lt li], M.lts _ m1, M.lts _ i1, i2, ← M.odd _ (getD_mem hn)] at q
          exact M.inj _ (getD_mem l) _ (bm _ (getD_mem hn)) q
        refine ⟨_, (iff1 _).mpr okb, nats_ext (by have q := (ok2 okb).1.1; rw [M.len] at q; exact q) hrm fun i hi => ?_⟩
        obtain ⟨a1, _, a3⟩ := (tm okb).at hi
        have le := M.bij.lt i hi
        rw [back _ le] at a3
        obtain ⟨i1, i2⟩ := iv le
        have : invB ws.flatten.length e (e i) = i := M.bij.inj _ _ i1 hi i2
        rw [this] at a3
        exact M.bij.inj _ _ a1 (mtn_at hrm hi).1 a3
  have q := pm.map fun r => costF us (nats r)
  rw [List.map_map] at q
  have e4 : (sewF ws).map ((fun r => costF us (nats r)) ∘ goF ws.flatten.length e) = costsF ws := List.map_congr_left fun r hr => by
    have hr := (iff1 r).mp hr
    exact M.cost hne hr.1 (ok2 hr).1 (tm hr)
  rw [e4] at q
  exact q.symm
theorem Mv.census (M : Mv ws us e p g back) (ok : RimOk ws) (bal : ∀ z, ws.flatten.count z = ws.flatten.count (-z)) : censusF us = censusF ws := cens_perm (M.costs ok bal)
theorem Mv.sewlen (M : Mv ws us e p g back) (ok : RimOk ws) (bal : ∀ z, ws.flatten.count z = ws.flatten.count (-z)) : (sewF us).length = (sewF ws).length := by
  have := (M.costs ok bal).length_eq
  unfold costsF at this
  rwa [List.length_map, List.length_map] at this
theorem Mv.congr {e2 : Nat → Nat} (M : Mv ws us e p g back) (h : ∀ i, i < ws.flatten.length → e2 i = e i) (hr : ∀ i, i < ws.flatten.length → nxN us i < ws.flatten.length) : Mv ws us e2 p g back := by
  refine ⟨M.len, M.many, ⟨fun i hi => by rw [h i hi]; exact M.bij.lt i hi, fun i j hi hj q => M.bij.inj i j hi hj (by rw [← h i hi, ← h j hj]; exact q)⟩, M.pb, fun i hi => by rw [h i hi]; exact M.hm i hi, fun b i hi => ?_, fun b i hi => ?_, fun i hi => by rw [h i hi]; exact M.lts i hi, M.odd, M.inj, M.rng, M.ne⟩
  · rw [h _ (hr i hi), h i hi]
    exact M.nx0 b i hi
  · rw [h _ (hr i hi), h i hi]
    exact M.nx1 b i hi
end
end W16
set_option Elab.async false
set_option linter.all false
set_option maxRecDepth 100000
set_option maxHeartbeats 1000000
namespace W16
open PySem L2 PySem.Spec PyProof.Rows WR WB WE Pt
/-! ### places by word and spot -/
def bg {α : Type} (P : List (List α)) (k : Nat) : Nat := (P.take k).flatten.length
theorem bg_cons {α : Type} (c : List α) (P : List (List α)) (k : Nat) : bg (c :: P) (k + 1) = c.length + bg P k := by
  unfold bg
  rw [List.take_succ_cons, List.flatten_cons, List.length_append]
theorem bg_zero {α : Type} (P : List (List α)) : bg P 0 = 0 := by
  unfold bg
  rw [List.take_zero]
  rfl
theorem flat_at {α : Type} : ∀ {P : List (List α)} {k j : Nat} {c : List α}, P[k]? = some c → j < c.length → P.flatten[bg P k + j]? = c[j]?
  | [], k, j, c, h, _ => by rw [List.getElem?_nil] at h; cases h
  | x :: P, 0, j, c, h, hj => by
    obtain rfl : x = c := by simpa using h
    rw [bg_zero, Nat.zero_add, List.flatten_cons, List.getElem?_append_left hj]
  | x :: P, k + 1, j, c, h, hj => by
    rw [List.getElem?_cons_succ] at h
    rw [bg_cons, List.flatten_cons, List.getElem?_append_right (by omega), show x.length + bg P k + j - x.length = bg P k + j by omega]
    exact flat_at h hj
theorem bg_lt {α : Type} : ∀ {P : List (List α)} {k j : Nat} {c : List α}, P[k]? = some c → j < c.length → bg P k + j < P.flatten.length
  | [], k, j, c, h, _ => by rw [List.getElem?_nil] at h; cases h
  | x :: P, 0, j, c, h, hj => by
    obtain rfl : x = c := by simpa using h
    rw [bg_zero, Nat.zero_add, List.flatten_cons, List.length_append]
    omega
  | x :: P, k + 1, j, c, h, hj => by
    rw [List.getElem?_cons_succ] at h
    rw [bg_cons, List.flatten_cons, List.length_append]
    have := bg_lt h hj
    omega
theorem nx_at : ∀ {ws : List (List Int)} {f k j : Nat} {c : List Int}, ws[k]? = some c → j < c.length → (nxF f ws)[bg ws k + j]? = some ((f : Int) + (((bg ws k + (j + 1) % c.length) : Nat) : Int))
  | [], f, k, j, c, h, _ => by rw [List.getElem?_nil] at h; cases h
  | x :: P, f, 0, j, c, h, hj => by
    obtain rfl : x = c := by simpa using h
    unfold nxF
    rw [bg_zero, Nat.zero_add, Nat.zero_add, List.getElem?_append_left (by rw [List.length_map, List.length_range]; exact hj), List.getElem?_map, List.getElem?_range hj]
    rfl
  | x :: P, f, k + 1, j, c, h, hj => by
    rw [List.getElem?_cons_succ] at h
    unfold nxF
    have l : ((List.range x.length).map fun (t : Nat) => (f : Int) + (((t + 1) % x.length : Nat) : Int)).length = x.length := by rw [List.length_map, List.length_range]
    rw [bg_cons, List.getElem?_append_right (by rw [l]; omega), l, show x.length + bg P k + j - x.length = bg P k + j by omega, nx_at h hj]
    congr 1
    omega
theorem hm_at : ∀ {ws : List (List Int)} {f k j : Nat} {c : List Int}, ws[k]? = some c → j < c.length → (hmF f ws)[bg ws k + j]? = some (((f + k : Nat)) : Int)
  | [], f, k, j, c, h, _ => by rw [List.getElem?_nil] at h; cases h
  | x :: P, f, 0, j, c, h, hj => by
    obtain rfl : x = c := by simpa using h
    unfold hmF
    rw [bg_zero, Nat.zero_add, List.getElem?_append_left (by rw [List.length_replicate]; exact hj), List.getElem?_replicate, if_pos hj]
    rfl
  | x :: P, f, k + 1, j, c, h, hj => by
    rw [List.getElem?_cons_succ] at h
    unfold hmF
    rw [bg_cons, List.getElem?_append_right (by rw [List.length_replicate]; omega), List.length_replicate, show x.length + bg P k + j - x.length = bg P k + j by omega, hm_at h hj]
    congr 1
    omega
theorem cover {α : Type} : ∀ {P : List (List α)} {p : Nat}, p < P.flatten.length → ∃ k c j, P[k]? = some c ∧ j < c.length ∧ p = bg P k + j
  | [], p, h => absurd h (Nat.not_lt_zero _)
  | x :: P, p, h => by
    rw [List.flatten_cons, List.length_append] at h
    by_cases l : p < x.length
    · exact ⟨0, x, p, rfl, l, by rw [bg_zero, Nat.zero_add]⟩
    · obtain ⟨k, c, j, h1, h2, h3⟩ := cover (P := P) (p := p - x.length) (by omega)
      exact ⟨k + 1, c, j, by rw [List.getElem?_cons_succ]; exact h1, h2, by rw [bg_cons]; omega⟩
theorem nxN_at {ws : List (List Int)} {k j : Nat} {c : List Int} (h : ws[k]? = some c) (hj : j < c.length) : nxN ws (bg ws k + j) = bg ws k + (j + 1) % c.length := by
  unfold nxN
  rw [List.getD_eq_getElem?_getD, nx_at h hj]
  show ((0 : Nat) + _ : Int).toNat = _
  omega
theorem home_bg {ws : List (List Int)} {k j : Nat} {c : List Int} (h : ws[k]? = some c) (hj : j < c.length) : home ws (bg ws k + j) = k := by
  unfold home
  rw [List.getD_eq_getElem?_getD, hm_at h hj]
  show (((0 + k : Nat)) : Int).toNat = k
  omega
theorem getD_at {ls : List Int} {i : Nat} {x : Int} (h : ls[i]? = some x) : ls.getD i 0 = x := by
  rw [List.getD_eq_getElem?_getD, h]
  rfl
/-! ### words in another order, turned, read from behind -/
def sg (back : Bool) (x : Int) : Int := if back = true then -x else x
def rowF (ws : List (List Int)) (ts : List Nat) (back : Bool) (k : Nat) : List Nat :=
  (List.range (ws.getD k []).length).map fun a => bg ws k + (ts.getD k 0 + if back = true then (ws.getD k []).length - 1 - a else a) % (ws.getD k []).length
def plcF (ws : List (List Int)) (ord ts : List Nat) (back : Bool) : List Nat := (ord.map (rowF ws ts back)).flatten
def usF (ws : List (List Int)) (ord ts : List Nat) (back : Bool) : List (List Int) := ord.map fun k => (rowF ws ts back k).map fun q => sg back (ws.flatten.getD q 0)
theorem bg_map {α β : Type} (f : Nat → List α) (g : Nat → List β) (h : ∀ k, (f k).length = (g k).length) : ∀ (ord : List Nat) (k : Nat), bg (ord.map f) k = bg (ord.map g) k
  | [], k => by unfold bg; rw [List.map_nil, List.map_nil, List.take_nil, List.take_nil]; rfl
  | x :: ord, 0 => by rw [bg_zero, bg_zero]
  | x :: ord, k + 1 => by rw [List.map_cons, List.map_cons, bg_cons, bg_cons, h x, bg_map f g h ord k]
theorem len_map {α β : Type} (f : Nat → List α) (g : Nat → List β) (h : ∀ k, (f k).length = (g k).length) (ord : List Nat) : (ord.map f).flatten.length = (ord.map g).flatten.length := by
  rw [List.length_flatten, List.length_flatten, List.map_map, List.map_map]
  congr 1
  exact List.map_congr_left fun k _ => h k
theorem mod_step {t a L : Nat} (h : 0 < L) : (t + (a + 1) % L) % L = ((t + a) % L + 1) % L := by
  rw [Nat.add_mod t ((a + 1) % L), Nat.mod_mod, ← Nat.add_mod, Nat.mod_add_mod, Nat.add_assoc]
theorem mod_back {t a L : Nat} (h : a < L) : ((t + (L - 1 - (a + 1) % L)) % L + 1) % L = (t + (L - 1 - a)) % L := by
  rw [Nat.mod_add_mod]
  by_cases e : a + 1 = L
  · rw [e, Nat.mod_self, show t + (L - 1 - 0) + 1 = t + L by omega, show t + (L - 1 - a) = t by omega, Nat.add_mod_right]
  · rw [Nat.mod_eq_of_lt (show a + 1 < L by omega)]
    congr 1
    omega
theorem mod_inj {t a b L : Nat} (ha : a < L) (hb : b < L) (e : (t + a) % L = (t + b) % L) : a = b := by
  have h1 := Nat.div_add_mod (t + a) L
  have h2 := Nat.div_add_mod (t + b) L
  rw [e] at h1
  rcases Nat.lt_trichotomy ((t + a) / L) ((t + b) / L) with l | l | l
  · have := Nat.mul_le_mul_left L (show (t + a) / L + 1 ≤ (t + b) / L from l)
    rw [Nat.mul_add, Nat.mul_one] at this
    omega
  · rw [l] at h1
    omega
  · have := Nat.mul_le_mul_left L (show (t + b) / L + 1 ≤ (t + a) / L from l)
    rw [Nat.mul_add, Nat.mul_one] at this
    omega
theorem nodup_injN {xs : List Nat} (h : xs.Nodup) {i j : Nat} (hi : i < xs.length) (hj : j < xs.length) (e : xs[i] = xs[j]) : i = j := by
  have hp := List.pairwise_iff_getElem.mp h
  rcases Nat.lt_trichotomy i j with l | l | l
  · exact absurd e (hp i j hi hj l)
  · exact l
  · exact absurd e.symm (hp j i hj hi l)
theorem moved_mv {ws : List (List Int)} {ord ts : List Nat} {back : Bool} (hne : ∀ w ∈ ws, w ≠ []) (hl : Lts ws.flatten) (ho : ord.Perm (List.range ws.length)) : Mv ws (usF ws ord ts back) (fun i => (plcF ws ord ts back).getD i 0) (fun k => ord.getD k 0) (sg back) back ∧ (plcF ws ord ts back).length = ws.flatten.length := by
  have lo : ord.length = ws.length := by rw [ho.length_eq, List.length_range]
  have nd : ord.Nodup := ho.nodup_iff.mpr List.nodup_range
  have mo : ∀ k ∈ ord, k < ws.length := fun k hk => List.mem_range.mp (ho.mem_iff.mp hk)
  have lr : ∀ k, (rowF ws ts back k).length = (ws.getD k []).length := fun k => by unfold rowF; rw [List.length_map, List.length_range]
  have ln : (ord.map fun k => ws.getD k []).flatten.length = ws.flatten.length := by
    have e : (List.range ws.length).map (fun k => ws.getD k []) = ws := by
      refine List.ext_getElem (by rw [List.length_map, List.length_range]) fun i h1 h2 => ?_
      rw [List.getElem_map, List.getElem_range, List.getD_eq_getElem?_getD, List.getElem?_eq_getElem h2]
      rfl
    conv => rhs; rw [← e]
    rw [List.length_flatten, List.length_flatten]
    exact ((ho.map _).map _).sum_nat
  have lp : (plcF ws ord ts back).length = ws.flatten.length := (len_map _ _ lr ord).trans ln
  have lu : (usF ws ord ts back).flatten.length = ws.flatten.length := (len_map _ _ (fun k => by rw [List.length_map]; exact lr k) ord).trans ln
  have bgs : ∀ k, bg (usF ws ord ts back) k = bg (ord.map (rowF ws ts back)) k := fun k => bg_map _ _ (fun k => List.length_map _) ord k
  -- each place of the later words
  have spot : ∀ i, i < ws.flatten.length → ∃ k a K c, ord[k]? = some K ∧ ws[K]? = some c ∧ 0 < c.length ∧ a < c.length ∧ i = bg (usF ws ord ts back) k + a ∧ (usF ws ord ts back)[k]? = some ((rowF ws ts back K).map fun q => sg back (ws.flatten.getD q 0)) ∧ ((rowF ws ts back K).map fun q => sg back (ws.flatten.getD q 0)).length = c.length := fun i hi => by
    obtain ⟨k, u, a, h1, h2, h3⟩ := cover (P := usF ws ord ts back) (p := i) (by rw [lu]; exact hi)
    have h1' := h1
    unfold usF at h1
    rw [List.getElem?_map] at h1
    cases ek : ord[k]? with
    | none => rw [ek] at h1; cases h1
    | some K =>
      rw [ek] at h1
      obtain rfl := Option.some.inj h1
      have hK := mo K (List.mem_of_getElem? ek)
      have g : ws.getD K [] = ws[K] := by rw [List.getD_eq_getElem?_getD, List.getElem?_eq_getElem hK]; rfl
      have l2 : ((rowF ws ts back K).map fun q => sg back (ws.flatten.getD q 0)).length = ws[K].length := by rw [List.length_map, lr, g]
      refine ⟨k, a, K, ws[K], ek, List.getElem?_eq_getElem hK, Nat.lt_of_le_of_lt (Nat.zero_le a) (by rw [← l2]; exact h2), by rw [← l2]; exact h2, h3, h1', l2⟩
  have row_at : ∀ {K a : Nat} {c : List Int}, ws[K]? = some c → a < c.length → (rowF ws ts back K)[a]? = some (bg ws K + (ts.getD K 0 + if back = true then c.length - 1 - a else a) % c.length) := fun {K a c} hK ha => by
    have g : ws.getD K [] = c := by rw [List.getD_eq_getElem?_getD, hK]; rfl
    unfold rowF
    rw [g, List.getElem?_map, List.getElem?_range ha]
    rfl
  have e_at : ∀ {k a K : Nat} {c : List Int}, ord[k]? = some K → ws[K]? = some c → a < c.length → (plcF ws ord ts back).getD (bg (usF ws ord ts back) k + a) 0 = bg ws K + (ts.getD K 0 + if back = true then c.length - 1 - a else a) % c.length := fun {k a K c} ek hK ha => by
    have hk : (ord.map (rowF ws ts back))[k]? = some (rowF ws ts back K) := by rw [List.getElem?_map, ek]; rfl
    have g : ws.getD K [] = c := by rw [List.getD_eq_getElem?_getD, hK]; rfl
    unfold plcF
    rw [bgs, List.getD_eq_getElem?_getD, flat_at hk (by rw [lr, g]; exact ha), row_at hK ha]
    rfl
  have md : ∀ {x L : Nat}, 0 < L → x % L < L := fun h => Nat.mod_lt _ h
  have ordEq : ∀ {k K : Nat}, ord[k]? = some K → ord.getD k 0 = K := fun h => by rw [List.getD_eq_getElem?_getD, h]; rfl
  refine ⟨⟨lu, by unfold usF; rw [List.length_map, lo], ⟨fun i hi => ?_, fun i j hi hj q => ?_⟩, ⟨fun k hk => ?_, fun k k2 hk hk2 q => ?_⟩, fun i hi => ?_, fun hb i hi => ?_, fun hb i hi => ?_, fun i hi => ?_, fun x hx => ?_, fun x hx y hy q => ?_, fun x hx => ?_, fun u hu => ?_⟩, lp⟩
  · obtain ⟨k, a, K, c, ek, hK, hc, ha, rfl, _⟩ := spot i hi
    try dsimp only
    rw [e_at ek hK ha]
    exact bg_lt hK (md hc)
  · obtain ⟨k, a, K, c, ek, hK, hc, ha, rfl, _⟩ := spot i hi
    obtain ⟨k2, a2, K2, c2, ek2, hK2, hc2, ha2, rfl, _⟩ := spot j hj
    try dsimp only at q
    rw [e_at ek hK ha, e_at ek2 hK2 ha2] at q
    have eK : K = K2 := by
      rw [← home_bg hK (md hc (x := ts.getD K 0 + if back = true then c.length - 1 - a else a)), q, home_bg hK2 (md hc2)]
    subst eK
    obtain rfl : c = c2 := Option.some.inj (hK.symm.trans hK2)
    have ek3 : k = k2 := by
      obtain ⟨l1, f1⟩ := List.getElem?_eq_some_iff.mp ek
      obtain ⟨l2, f2⟩ := List.getElem?_eq_some_iff.mp ek2
      exact nodup_injN nd _ _ (f1.trans f2.symm)
    subst ek3
    have q2 : (ts.getD K 0 + if back = true then c.length - 1 - a else a) % c.length = (ts.getD K 0 + if back = true then c.length - 1 - a2 else a2) % c.length := by omega
    have q3 := mod_inj (by split <;> omega) (by split <;> omega) q2
    have : a = a2 := by
      split at q3 <;> omega
    rw [this]
  · have lk : k < ord.length := by omega
    rw [ordEq (List.getElem?_eq_getElem lk)]
    exact mo _ (List.getElem_mem lk)
  · have lk : k < ord.length := by omega
    have lk2 : k2 < ord.length := by omega
    try dsimp only at q
    rw [ordEq (List.getElem?_eq_getElem lk), ordEq (List.getElem?_eq_getElem lk2)] at q
    exact nodup_injN nd _ _ q
  · obtain ⟨k, a, K, c, ek, hK, hc, ha, rfl, hu, hul⟩ := spot i hi
    try dsimp only
    rw [e_at ek hK ha, home_bg hK (md hc), home_bg hu (by rw [hul]; exact ha), ordEq ek]
  · obtain ⟨k, a, K, c, ek, hK, hc, ha, rfl, hu, hul⟩ := spot i hi
    subst hb
    try dsimp only
    have e1 := e_at ek hK ha
    have e2 := e_at ek hK (md hc (x := a + 1))
    rw [if_neg Bool.false_ne_true] at e1 e2
    rw [nxN_at hu (by rw [hul]; exact ha), hul, e2, e1, nxN_at hK (md hc), mod_step hc]
  · obtain ⟨k, a, K, c, ek, hK, hc, ha, rfl, hu, hul⟩ := spot i hi
    subst hb
    try dsimp only
    have e1 := e_at ek hK ha
    have e2 := e_at ek hK (md hc (x := a + 1))
    rw [if_pos rfl] at e1 e2
    rw [nxN_at hu (by rw [hul]; exact ha), hul, e2, nxN_at hK (md hc), e1, mod_back ha]
  · obtain ⟨k, a, K, c, ek, hK, hc, ha, rfl, hu, hul⟩ := spot i hi
    try dsimp only
    rw [e_at ek hK ha]
    refine getD_at ?_
    rw [flat_at hu (by rw [hul]; exact ha), List.getElem?_map, row_at hK ha]
    rfl
  · unfold sg
    split <;> rfl
  · unfold sg at q
    split at q
    · omega
    · exact q
  · have := hl x hx
    unfold sg
    split
    · omega
    · exact this
  · unfold usF at hu
    obtain ⟨K, hK, rfl⟩ := List.mem_map.mp hu
    intro z
    have := congrArg List.length z
    rw [List.length_map, lr] at this
    have lK := mo K hK
    have g : ws.getD K [] = ws[K] := by rw [List.getD_eq_getElem?_getD, List.getElem?_eq_getElem lK]; rfl
    rw [g] at this
    exact hne _ (List.getElem_mem lK) (List.length_eq_zero_iff.mp this)
/-! ### other letters for kinds -/
theorem nxF_ren (g : Int → Int) : ∀ (ws : List (List Int)) (f : Nat), nxF f (ws.map fun w => w.map g) = nxF f ws
  | [], _ => rfl
  | w :: r, f => by
    rw [List.map_cons]
    unfold nxF
    rw [List.length_map, nxF_ren g r]
theorem hmF_ren (g : Int → Int) : ∀ (ws : List (List Int)) (f : Nat), hmF f (ws.map fun w => w.map g) = hmF f ws
  | [], _ => rfl
  | w :: r, f => by
    rw [List.map_cons]
    unfold hmF
    rw [List.length_map, hmF_ren g r]
theorem flat_ren (g : Int → Int) (ws : List (List Int)) : (ws.map fun w => w.map g).flatten = ws.flatten.map g := List.map_flatten.symm
theorem ren_mv {ws : List (List Int)} {g : Int → Int} (hne : ∀ w ∈ ws, w ≠ []) (odd : ∀ x ∈ ws.flatten, g (-x) = -g x) (inj : ∀ x ∈ ws.flatten, ∀ y ∈ ws.flatten, g x = g y → x = y) (rng : ∀ x ∈ ws.flatten, 1 ≤ (g x).natAbs ∧ (g x).natAbs ≤ 26) :
    Mv ws (ws.map fun w => w.map g) (fun i => i) (fun k => k) g false := by
  have fl := flat_ren g ws
  refine ⟨by rw [fl, List.length_map], List.length_map _, ⟨fun i hi => hi, fun i j _ _ q => q⟩, ⟨fun i hi => hi, fun i j _ _ q => q⟩, fun i hi => ?_, fun _ i hi => ?_, (fun z => Bool.noConfusion z), fun i hi => ?_, odd, inj, rng, fun u hu => ?_⟩
  · unfold home
    rw [hmF_ren]
  · unfold nxN
    rw [nxF_ren]
  · rw [fl, List.getD_eq_getElem?_getD, List.getElem?_map, List.getElem?_eq_getElem hi, getD_lt hi]
    rfl
  · obtain ⟨w, hw, rfl⟩ := List.mem_map.mp hu
    exact fun z => hne w hw (List.map_eq_nil_iff.mp z)
theorem Mv.ren {ws us : List (List Int)} {e p : Nat → Nat} {g h : Int → Int} {back : Bool} (M : Mv (ws.map fun w => w.map g) us e p h back) (odd : ∀ x ∈ ws.flatten, g (-x) = -g x) (inj : ∀ x ∈ ws.flatten, ∀ y ∈ ws.flatten, g x = g y → x = y) : Mv ws us e p (fun x => h (g x)) back := by
  have fl := flat_ren g ws
  have ln : (ws.map fun w => w.map g).flatten.length = ws.flatten.length := by rw [fl, List.length_map]
  have mem : ∀ x ∈ ws.flatten, g x ∈ (ws.map fun w => w.map g).flatten := fun x hx => by rw [fl]; exact List.mem_map_of_mem hx
  have hb := M.bij
  rw [ln] at hb
  have pb := M.pb
  rw [List.length_map] at pb
  refine ⟨M.len.trans ln, M.many.trans (List.length_map _), hb, pb, fun i hi => ?_, fun z i hi => ?_, fun z i hi => ?_, fun i hi => ?_, fun x hx => ?_, fun x hx y hy q => ?_, fun x hx => M.rng _ (mem x hx), M.ne⟩
  · rw [M.hm i (by rw [ln]; exact hi)]
    unfold home
    rw [hmF_ren]
  · rw [M.nx0 z i (by rw [ln]; exact hi)]
    unfold nxN
    rw [nxF_ren]
  · have := M.nx1 z i (by rw [ln]; exact hi)
    unfold nxN at this ⊢
    rw [nxF_ren] at this
    exact this
  · rw [M.lts i (by rw [ln]; exact hi), fl, List.getD_eq_getElem?_getD, List.getElem?_map, List.getElem?_eq_getElem (hb.lt i hi), getD_lt (hb.lt i hi)]
    rfl
  · show h (g (-x)) = -h (g x)
    rw [odd x hx, M.odd _ (mem x hx)]
  · exact inj x hx y hy (M.inj _ (mem x hx) _ (mem y hy) q)
end W16
set_option Elab.async false
set_option linter.all false
set_option maxRecDepth 100000
set_option maxHeartbeats 1000000
/-! sorted of a list of lists of ints, of any lengths. -/
namespace SrtL
open PySem PySem.Spec PyProof.Rows L2
def srtLL (ms : List (List Int)) : List (List Int) := ms.mergeSort (fun p q => decide (p ≤ q))
theorem srtLL_perm (ms : List (List Int)) : (srtLL ms).Perm ms := List.mergeSort_perm ms _
theorem srtLL_asc (ms : List (List Int)) : (srtLL ms).Pairwise (· ≤ ·) := by
  have h := List.pairwise_mergeSort (le := fun (a b : List Int) => decide (a ≤ b)) (fun a b c h1 h2 => decide_eq_true (List.le_trans (of_decide_eq_true h1) (of_decide_eq_true h2))) (fun a b => by
    rcases List.le_total a b with h | h
    · simp [h]
    · simp [h]) ms
  exact h.imp fun {a b} h => of_decide_eq_true h
def rSortedLL (K : PySem.W.Frag) : List V → Hp → VK → Prop := fun vs H Q => ∃ (a : Addr) (xs : List V) (ms : List (List Int)), vs = [V.ref a] ∧ SqL K H a xs ∧ Paired (fun x m => ∃ t, x = V.ref t ∧ SqL K H t (m.map V.int)) xs ms ∧ ms.length ≤ 1000 ∧
  ∀ ys p, Paired (fun y m => ∃ t, y = V.ref t ∧ SqL K H t (m.map V.int)) ys (srtLL ms) → H p = none → Q (.ref p) (upd H p (.lst ys))
theorem dp_ints {K : PySem.W.Frag} {H : Hp} : ∀ m : List Int, DpAll K H (m.map V.int) (m.map PyData.int)
  | [] => .nil
  | _ :: m => .cons (.int _) (dp_ints m)
theorem cr_sortedLL {X : Cx} (hu : X.A.units + 64 < cLine) : CallR X (.builtin "sorted") (rSortedLL X.K) := by
  intro pins s σ H vs us Q I r h
  obtain ⟨a, xs, ms, rfl, hs, hx, hm, q⟩ := h
  obtain ⟨its, rv, hl, hz⟩ := I.list hs
  obtain ⟨u, rfl, ru⟩ := vals1 r
  obtain rfl : u = Value.ref a := ru
  have each : PySem.W.EachIs (fun (u : Value) (m : List Int) => (∃ t, u = Value.ref t ∧ SqL X.K H t (m.map V.int))) its ms := by
    have go : ∀ {xs : List V} {its : List Value} {ms : List (List Int)}, Vals xs its → Paired (fun x m => ∃ t, x = V.ref t ∧ SqL X.K H t (m.map V.int)) xs ms → PySem.W.EachIs (fun (u : Value) (m : List Int) => (∃ t, u = Value.ref t ∧ SqL X.K H t (m.map V.int))) its ms := by
      intro xs its ms r1
      induction r1 generalizing ms with
      | nil => intro r2; cases r2; exact .nil
      | cons hv r1 ih =>
        intro r2
        cases r2 with
        | cons hm r2 =>
        obtain ⟨t, rfl, ht⟩ := hm
        exact .cons ⟨t, hv, ht⟩ (ih r2)
    exact go rv hx
  have er : PySem.W.EachIs (fun (u : Value) (m : List Int) => ∃ as, Reads s.heap u (.list (m.map PyData.int)) as) its ms := each.mono fun u m ⟨t, e, ht⟩ => by
    subst e
    exact Dp.reads I _ _ _ (.lst ht (dp_ints m)) rfl
  refine PySem.W.sorted_data (enc := fun (m : List Int) => .list (m.map PyData.int)) hl.isList each er (PySem.W.AllAlike.of fun b b' => ?_) (PySem.W.Sortable.others fun b => ⟨(fun z => nomatch z), fun xs => (fun z => nomatch z)⟩) (by rw [sizeLine_eq]; omega) (fun b hb => ?_) fun out lo ho => ?_
  · exact PySem.W.alike_ints b b'
  · have := PySem.W.depth_ints b
    simp only [PyData.depth, this]
    omega
  · rw [PySem.W.dataLe_rows (fun b : List Int => b)] at ho
    have h3 : ∀ u ∈ out, ∃ a, u = Value.ref a := by
      have go : ∀ {out : List Value} {ms : List (List Int)}, PySem.W.EachIs (fun (u : Value) (m : List Int) => (∃ t, u = Value.ref t ∧ SqL X.K H t (m.map V.int))) out ms → ∀ u ∈ out, ∃ a, u = Value.ref a := by
        intro out ms h
        induction h with
        | nil => intro u hu; cases hu
        | cons h _ ih =>
          intro u hu
          rcases List.mem_cons.mp hu with rfl | hu
          · obtain ⟨t, e, _⟩ := h
            exact ⟨t, e⟩
          · exact ih u hu
      exact go ho
    obtain ⟨n, hn⟩ := sortedAll_at s.heap its out.toArray
    refine ⟨.ref (s.heap.objs.size + 1), upd H (s.heap.objs.size + 1) (.lst (out.map backV)), I.laid (t' := s.toks) (fun b o e => sortedAll_old e) (Nat.le_succ _) ⟨?_, out, n, vals_back h3, hn⟩, rfl, q _ _ ?_ (I.hok.fresh (Nat.le_succ _))⟩
    · rw [List.length_map, lo, sizeLine_eq]
      omega
    · have go : ∀ {out : List Value} {ms : List (List Int)}, PySem.W.EachIs (fun (u : Value) (m : List Int) => (∃ t, u = Value.ref t ∧ SqL X.K H t (m.map V.int))) out ms → Paired (fun y m => ∃ t, y = V.ref t ∧ SqL X.K H t (m.map V.int)) (out.map backV) ms := by
        intro out ms h
        induction h with
        | nil => exact .nil
        | cons h _ ih =>
          obtain ⟨t, rfl, ht⟩ := h
          exact .cons ⟨t, rfl, ht⟩ ih
      exact go ho
end SrtL
set_option Elab.async false
set_option linter.all false
set_option maxRecDepth 100000
set_option maxHeartbeats 1000000
namespace W16
open PySem L2 PySem.Spec PyProof.Rows WR WB WE WS SrtL
/-! ### begins, and the law's own corners as lots -/
def bgsF (ws : List (List Int)) : List Nat := (List.range ws.length).map (bg ws)
abbrev sBeg : Stmt := top 76
abbrev nBeg : List Str := ["_law_words", "_law_found", "_law_begin", "_law_word"]
theorem scBeg : FnScope nBeg ["_law_words"] (defScope sBeg) := ⟨rfl, rfl, rfl, by decide +kernel, rfl, by decide +kernel, by decide +kernel⟩
def spBeg : Sp := fun vs H Q _ => ∃ (p : Addr) (us : List V) (ws : List (List Int)), vs = [.ref p] ∧ H p = some (.lst us) ∧ LLs H us ws ∧ ws.length ≤ 100 ∧ ws.flatten.length ≤ 1000 ∧ ∀ l H', Same H H' → H' l = some (.lst (iv (nats (bgsF ws)))) → Q (.ref l) H'
theorem bg_snoc {ws : List (List Int)} {i : Nat} {w : List Int} (h : ws[i]? = some w) : bg ws (i + 1) = bg ws i + w.length := by
  obtain ⟨hi, e⟩ := List.getElem?_eq_some_iff.mp h
  unfold bg
  rw [List.take_succ_eq_append_getElem hi, List.flatten_append, List.length_append, e]
  simp
section
variable {P : Program} {w : World} {K : PySem.W.Frag} {mg : Str → Option Value} {base : Heap} {C CR CS : Addr}
theorem ok_Beg {f : Addr} {fd : FuncData} (F : Fun K "_law_begins" "_law_begins" sBeg f fd) (N : TN mg)   : FnOk P w K mg base CX0 1 f fd ["_law_words"] (spBeg) := by
  refine F.ok scBeg (fun vs H Q E h => ?_) (fun cdv A outer s H vs Q E hr h => ?_)
  · obtain ⟨p, us, ws, rfl, _⟩ := h
    rfl
  · obtain ⟨p, us, ws, rfl, hp, hu, l100, l1000, k⟩ := h
    refine ⟨_, pss_cons (ps_par (i := 1) (j := 2) (by rfl) scBeg.nd rfl rfl (by decide) rfl rfl (pa_cons (pe_lst pa_nil) (pa_cons pe_int pa_nil)) (by rfl))
      (pss_cons (ps_for PassesOwn.never rfl (pi_list (pv 0)) (pg_name (i := 3) scBeg.nd rfl (Or.inl rfl))
      (pss_cons (ps_expr (pe_bm PySem.F.plainAttrs_list PySem.F.slot_list_append PySem.F.type_list_append mt_append (pv 1) (pa_cons (pv 2) pa_nil)))
      (pss_one (ps_set (i := 2) scBeg.nd rfl (Or.inl rfl) (pe_op op_add (pv 2) (pe_callB call_len_seq (by rfl) N.len PySem.boot_len (pa_cons (pv 3) pa_nil)))))))
      (pss_one (ps_ret (pv 1)))), ?_⟩
    have lu := hu.length
    refine ⟨Nat.zero_le _, fun lf hlf => ?_⟩
    have s1 := same_upd (o := .lst []) hlf
    have gf : L2.upd H lf (.lst []) lf = some (.lst []) := upd_same
    obtain ⟨H1, e1⟩ : ∃ H1, H1 = L2.upd H lf (.lst []) := ⟨_, rfl⟩
    rw [← e1] at s1 gf ⊢
    refine ⟨_, _, rfl, ?_⟩
    try dsimp only
    refine ⟨_, rfl, p, rfl, ⟨_, SqL.of (s1 _ _ hp)⟩, for_list (K := K) (a := p) (xs := us) (fun i σ H' => ∃ v3 : Option V, σ = [some (.ref p), some (.ref lf), some (.int ((bg ws i : Nat) : Int)), v3] ∧ Same H H' ∧ H' lf = some (.lst (iv (nats ((List.range i).map (bg ws))))))
      ⟨none, by rw [bg_zero]; rfl, s1, gf⟩ (fun i σ H' _ hI_ => by obtain ⟨_, _, s, _⟩ := hI_; exact SqL.of (s _ _ hp)) ?_ ?_⟩
    · rintro i x σ H2 hi ⟨v3, rfl, s2, g2⟩
      obtain ⟨wd, hwd, q, rfl, gq⟩ := hu.at hi
      have ib : bg ws i ≤ ws.flatten.length := by
        obtain ⟨li, _⟩ := List.getElem?_eq_some_iff.mp hwd
        have := (List.take_append_drop i ws) ▸ (rfl : ws.flatten.length = ws.flatten.length)
        unfold bg
        conv => rhs; rw [← List.take_append_drop i ws]
        rw [List.flatten_append, List.length_append]
        omega
      refine ⟨_, rfl, .inl ⟨rfl, _, SqL.of g2⟩, _, rfl, lf, _, _, rfl, rfl, g2, Evl.sz_lt (by unfold nats; rw [List.length_map, List.length_map, List.length_map, List.length_range]; have := (List.getElem?_eq_some_iff.mp hwd).1; omega), ?_⟩
      have g3 : L2.upd H2 lf (.lst (iv (nats ((List.range i).map (bg ws))) ++ [.int ((bg ws i : Nat) : Int)])) lf = some (.lst (iv (nats ((List.range (i + 1)).map (bg ws))))) := by
        rw [upd_same, List.range_succ]
        simp [iv, nats]
      have s3 : Same H (L2.upd H2 lf (.lst (iv (nats ((List.range i).map (bg ws))) ++ [.int ((bg ws i : Nat) : Int)]))) := fun b o e => by
        rw [upd_ne (ne_of_none e hlf)]
        exact s2 _ _ e
      generalize L2.upd H2 lf (.lst (iv (nats ((List.range i).map (bg ws))) ++ [.int ((bg ws i : Nat) : Int)])) = H3 at g3 s3 ⊢
      refine ⟨_, rfl, _, rfl, q, _, rfl, .inl (SqL.of (s3 _ _ gq)), _, _, rfl, rfl, ?_⟩
      refine ⟨some (.ref q), ?_, s3, g3⟩
      rw [bg_snoc hwd, Int.natCast_add, List.length_map]
      rfl
    · rintro σ H2 ⟨v3, rfl, s2, g2⟩
      rw [lu] at g2
      exact ⟨_, rfl, k lf H2 s2 g2⟩
/-! the law's own rounds, each ascending, in order -/
def LotAt (H : Hp) (bs : List Addr) (v : V) (c : List Nat) : Prop := ∃ q, v = V.ref q ∧ (∀ b ∈ bs, q ≠ b) ∧ H q = some (.lst (iv (nats (Pt.srt c))))
theorem LotAt.same {H H' : Hp} {bs : List Addr} {v : V} {c : List Nat} (h : LotAt H bs v c) (s : Same H H') : LotAt H' bs v c := by
  obtain ⟨q, e, n, g⟩ := h
  exact ⟨q, e, n, s _ _ g⟩
theorem LotAt.new {H H' : Hp} {a b d : Addr} {v : V} {c : List Nat} (h : LotAt H [a, b] v c) (hd : H d = none) (s : Same H H') : LotAt H' [a, b, d] v c := by
  obtain ⟨q, e, n, g⟩ := h
  refine ⟨q, e, fun x hx => ?_, s _ _ g⟩
  simp only [List.mem_cons, List.mem_nil_iff, or_false] at hx
  rcases hx with rfl | rfl | rfl
  · exact n _ List.mem_cons_self
  · exact n _ (List.mem_cons_of_mem _ List.mem_cons_self)
  · exact ne_of_none g hd
theorem LotAt.less {H : Hp} {a b d : Addr} {v : V} {c : List Nat} (h : LotAt H [a, b, d] v c) : LotAt H [a, b] v c := by
  obtain ⟨q, e, n, g⟩ := h
  refine ⟨q, e, fun x hx => n x ?_, g⟩
  simp only [List.mem_cons, List.mem_nil_iff, or_false] at hx ⊢
  rcases hx with rfl | rfl
  · exact .inl rfl
  · exact .inr (.inl rfl)
theorem LotAt.put {H : Hp} {bs : List Addr} {v : V} {c : List Nat} {l : Addr} {o : HO} (h : LotAt H bs v c) (hl : l ∈ bs) : LotAt (L2.upd H l o) bs v c := by
  obtain ⟨q, e, n, g⟩ := h
  exact ⟨q, e, n, by rw [upd_ne (n l hl)]; exact g⟩
theorem SeenOk.le {n : Nat} : ∀ {s : List Nat}, SeenOk n s → s.length ≤ n
  | [], _ => Nat.zero_le _
  | x :: s, h => by
    have h2 := List.nodup_cons.mp h.1
    have : SeenOk n s := ⟨h2.2, fun y hy => h.2 y (List.mem_cons_of_mem _ hy)⟩
    exact this.lt (h.2 x List.mem_cons_self) h2.1
theorem nats_srt {ns : List Int} {c : List Nat} (h : ns.Perm (nats c)) (asc : ns.Pairwise (· ≤ ·)) : ns = nats (Pt.srt c) := by
  refine Pt.asc_eq (fun a b h1 h2 => Int.le_antisymm h1 h2) asc ?_ (h.trans ((Pt.srt_perm c).symm.map _))
  exact List.pairwise_map.mpr ((Pt.srt_asc c).imp fun h => by omega)
theorem lots_pair {K : PySem.W.Frag} {H : Hp} {bs : List Addr} {vs : List V} {cs : List (List Nat)} (h : All2 (LotAt H bs) vs cs) : Paired (fun x m => ∃ t, x = V.ref t ∧ SqL K H t (iv m)) vs (cs.map fun c => nats (Pt.srt c)) := by
  induction h with
  | nil => exact .nil
  | cons h _ ih =>
    obtain ⟨q, e, _, g⟩ := h
    exact .cons ⟨q, e, SqL.of g⟩ ih
theorem rf_next {tw tl th tn : Addr} {n b : Nat} {sh : Bool} : (rf tw tl n b sh th tn).lookup ("next" : Str) = none := by
  unfold rf
  rw [lk_ne (show ¬ (("next" : Str) = "words") by decide +kernel), lk_ne (show ¬ (("next" : Str) = "letters") by decide +kernel), lk_ne (show ¬ (("next" : Str) = "many") by decide +kernel), lk_ne (show ¬ (("next" : Str) = "bands") by decide +kernel), lk_ne (show ¬ (("next" : Str) = "is_short") by decide +kernel), lk_ne (show ¬ (("next" : Str) = "homes") by decide +kernel), lk_ne (show ¬ (("next" : Str) = "nexts") by decide +kernel)]
  rfl
theorem rf_rimOf {tw tl th tn : Addr} {n b : Nat} {sh : Bool} : (rf tw tl n b sh th tn).lookup ("rim_of" : Str) = none := by
  unfold rf
  rw [lk_ne (show ¬ (("rim_of" : Str) = "words") by decide +kernel), lk_ne (show ¬ (("rim_of" : Str) = "letters") by decide +kernel), lk_ne (show ¬ (("rim_of" : Str) = "many") by decide +kernel), lk_ne (show ¬ (("rim_of" : Str) = "bands") by decide +kernel), lk_ne (show ¬ (("rim_of" : Str) = "is_short") by decide +kernel), lk_ne (show ¬ (("rim_of" : Str) = "homes") by decide +kernel), lk_ne (show ¬ (("rim_of" : Str) = "nexts") by decide +kernel)]
  rfl
theorem rims_no {K : PySem.W.Frag} {C CR : Addr} {H : Hp} {p : Addr} {xs : List Addr} {ws : List (List Int)} (h : RimsAt K C CR H p xs ws) : ∃ dx fs, H p = some (.ins CR dx fs) ∧ fs.lookup ("next" : Str) = none := by
  obtain ⟨d2, tw, tl, th, tn, r1, _⟩ := h
  exact ⟨d2, _, r1, rf_next⟩
abbrev sLots : Stmt := top 81
abbrev nLots : List Str := ["_law_rims_here", "_law_mates_here", "_law_found", "_law_known", "_law_place", "_law_lot", "_law_at"]
theorem scLots : FnScope nLots ["_law_rims_here", "_law_mates_here"] (defScope sLots) := ⟨rfl, rfl, rfl, by decide +kernel, rfl, by decide +kernel, by decide +kernel⟩
def spLots (K : PySem.W.Frag) (C CR : Addr) : Sp := fun vs H Q _ => ∃ (p m : Addr) (xs : List Addr) (ws : List (List Int)) (mt : List Int), vs = [.ref p, .ref m] ∧ RimsAt K C CR H p xs ws ∧ (∀ w ∈ ws, w ≠ []) ∧ ws.flatten.length ≤ 24 ∧ H m = some (.lst (iv mt)) ∧ MatesOk ws.flatten.length mt ∧
  ∀ q H' ys, Same H H' → H' q = some (.lst ys) → Paired (fun y m => ∃ t, y = V.ref t ∧ SqL K H' t (iv m)) ys (srtLL ((cornF ws mt).map fun c => nats (Pt.srt c))) → Q (.ref q) H'
theorem ok_Lots {f : Addr} {fd : FuncData} (F : Fun K "_law_lots" "_law_lots" sLots f fd) (N : TN mg) (TC : TxRC K mg CR) (MN : MethW P w K mg base CR "next" ["self", "place"] (spNextR K C CR (nxF 0)))  : FnOk P w K mg base CX0 7 f fd ["_law_rims_here", "_law_mates_here"] (spLots K C CR) := by
  refine F.ok scLots (fun vs H Q E h => ?_) (fun cdv A outer s H vs Q E hr h => ?_)
  · obtain ⟨p, m, xs, ws, mt, rfl, _⟩ := h
    rfl
  · obtain ⟨p, m, xs, ws, mt, rfl, R1, hne, l60, hM, ⟨lm, hm⟩, k⟩ := h
    refine ⟨_, pss_cons (ps_par (i := 2) (j := 3) (by rfl) scLots.nd rfl rfl (by decide) rfl rfl (pa_cons (pe_lst pa_nil) (pa_cons (pe_lst pa_nil) pa_nil)) (by rfl))
      (pss_cons (ps_for PassesOwn.never rfl (pi_range1 (by rfl) N.range (pa_cons (pe_callB call_len_seq (by rfl) N.len PySem.boot_len (pa_cons (pv 1) pa_nil)) pa_nil)) (pg_name (i := 4) scLots.nd rfl (Or.inl rfl))
      (pss_cons (ps_par (i := 5) (j := 6) (by rfl) scLots.nd rfl rfl (by decide) rfl rfl (pa_cons (pe_lst pa_nil) (pa_cons (pv 4) pa_nil)) (by rfl))
      (pss_cons (ps_while PassesOwn.never (pt_cmpR op_notIn_seq (pv 6) (pv 3) (by rfl))
      (pss_cons (ps_expr (pe_bm PySem.F.plainAttrs_list PySem.F.slot_list_append PySem.F.type_list_append mt_append (pv 3) (pa_cons (pv 6) pa_nil)))
      (pss_cons (ps_expr (pe_bm PySem.F.plainAttrs_list PySem.F.slot_list_append PySem.F.type_list_append mt_append (pv 5) (pa_cons (pv 6) pa_nil)))
      (pss_one (ps_set (i := 6) scLots.nd rfl (Or.inl rfl) (pe_w1 MN TC.cl hr (by decide) (pv 0) (pa_cons (pe_ix ix_list (pv 1) (pv 6) (fun _ _ => rfl)) pa_nil)))))))
      (pss_one (ps_if (pt_cmpR (op_neD hr.units) (pv 5) (pe_lst pa_nil) (nomark _)) (pss_one (ps_expr (pe_bm PySem.F.plainAttrs_list PySem.F.slot_list_append PySem.F.type_list_append mt_append (pv 2) (pa_cons (pe_callB cr_sorted (by rfl) N.sorted (by decide +kernel) (pa_cons (pv 5) pa_nil)) pa_nil)))) pss_nil)))))
      (pss_one (ps_ret (pe_callB (cr_sortedLL hr.units) (by rfl) N.sorted (by decide +kernel) (pa_cons (pv 2) pa_nil))))), ?_⟩
    obtain ⟨n, en⟩ : ∃ n, n = ws.flatten.length := ⟨_, rfl⟩
    unfold cornF at k
    rw [← en] at lm hm k l60
    have hnx : (nxF 0 ws).length = n := by rw [nxF_len, en]
    refine ⟨Nat.zero_le _, fun lf hlf => ?_⟩
    have s2 := same_upd (o := .lst []) hlf
    have gf2 : L2.upd H lf (.lst []) lf = some (.lst []) := upd_same
    obtain ⟨H2, e2⟩ : ∃ H2, H2 = L2.upd H lf (.lst []) := ⟨_, rfl⟩
    rw [← e2] at s2 gf2 ⊢
    refine ⟨Nat.zero_le _, fun lk hlk => ⟨_, _, rfl, ?_⟩⟩
    have s3 := same_upd (o := .lst []) hlk
    have nfk : lf ≠ lk := ne_of_none gf2 hlk
    have f0 : H lf = none := hlf
    have k0 : H lk = none := s2.free hlk
    have s123 := s2.trans s3
    try dsimp only
    refine seqN fun N1 hN1 => ?_
    refine ⟨_, rfl, m, _, rfl, .inl (SqL.of (s123 _ _ hM)), _, rfl, by rw [List.length_map]; omega, by rw [List.length_map]; omega, ?_⟩
    rw [List.length_map, lm]
    refine for_range (lo := 0) (n := ((n : Nat) : Int).toNat) (fun i σ H' => ∃ (v5 v6 v7 : Option V) (vs : List V) (kn : List Nat), σ = [some (.ref p), some (.ref m), some (.ref lf), some (.ref lk), v5, v6, v7] ∧ Same H H' ∧ H' lf = some (.lst vs) ∧ H' lk = some (.lst (iv (nats kn))) ∧
        (∀ x, x ∈ kn ↔ x ∈ (crn (nxF 0 ws) mt n i).1) ∧ kn.length = (crn (nxF 0 ws) mt n i).1.length ∧ SeenOk n (crn (nxF 0 ws) mt n i).1 ∧ vs.length ≤ i ∧ All2 (LotAt H' [lf, lk]) vs (crn (nxF 0 ws) mt n i).2)
      ⟨none, none, none, [], [], rfl, s123, s3 _ _ gf2, upd_same, (fun x => Iff.rfl), rfl, ⟨List.nodup_nil, fun _ h => nomatch h⟩, Nat.le_refl _, .nil⟩ ?_ ?_
    · rintro i σ H3 hi ⟨v5, v6, v7, vs, kn, rfl, sm, gf, gk, hmem, hlen, hso, lvs, hcs⟩
      rw [Int.toNat_natCast] at hi
      refine ⟨Nat.zero_le _, fun lc hlc => ⟨_, rfl, _, _, rfl, ?_⟩⟩
      have s4 := same_upd (o := .lst []) hlc
      have nfc : lf ≠ lc := ne_of_none gf hlc
      have nkc : lk ≠ lc := ne_of_none gk hlc
      have c0 : H lc = none := sm.free hlc
      try dsimp only
      refine seqN fun N2 hN2 => ?_
      refine while_by (fun σ H4 => ∃ (k pl : Nat) (s c kn : List Nat), σ = [some (.ref p), some (.ref m), some (.ref lf), some (.ref lk), some (.int (0 + (i : Nat))), some (.ref lc), some (.int (pl : Int))] ∧ Same H H4 ∧ H4 lf = some (.lst vs) ∧ H4 lk = some (.lst (iv (nats kn))) ∧
          (∀ x, x ∈ kn ↔ x ∈ s) ∧ kn.length = s.length ∧ SeenOk n s ∧ pl < n ∧ H4 lc = some (.lst (iv (nats c))) ∧ c.length ≤ s.length ∧ All2 (LotAt H4 [lf, lk, lc]) vs (crn (nxF 0 ws) mt n i).2 ∧
          orb (nxF 0 ws) mt k s pl c = orb (nxF 0 ws) mt (n + 1) (crn (nxF 0 ws) mt n i).1 i [] ∧ n - s.length < k)
        (fun _ H4 => match H4 lc with | some (.lst xs) => n + 1 - xs.length | _ => 0) ?_ ?_ ?_
      · exact ⟨n + 1, i, (crn (nxF 0 ws) mt n i).1, [], kn, by rw [Int.zero_add]; rfl, sm.trans s4, s4 _ _ gf, s4 _ _ gk, hmem, hlen, hso, hi, upd_same, Nat.zero_le _, hcs.imp fun _ _ h => h.new hlc s4, rfl, by omega⟩
      · rintro σ H4 ⟨kk, pl, s, c, kn, rfl, sm4, gf4, gk4, hme4, hle4, hok, hpl, hL, lcs, hcs4, eo, hkk⟩
        refine ⟨_, rfl, _, rfl, lk, _, rfl, .inl (SqL.of gk4), rfl, flat_nats kn, _, rfl, ?_⟩
        show if (!inV (.int (pl : Int)) (iv (nats kn))) = true then _ else _
        rw [inV_nats]
        by_cases hin : pl ∈ s
        · refine iteF' (by rw [decide_eq_true ((hme4 pl).mpr hin)]; rfl) ?_
          refine hN2 _ _ ?_
          rw [orb_in (by omega) hin] at eo
          have f1 : (crn (nxF 0 ws) mt n (i + 1)).1 = s := by
            show (orb (nxF 0 ws) mt (n + 1) (crn (nxF 0 ws) mt n i).1 i []).1 = s
            rw [← eo]
          have f2 : (crn (nxF 0 ws) mt n (i + 1)).2 = if c = [] then (crn (nxF 0 ws) mt n i).2 else (crn (nxF 0 ws) mt n i).2 ++ [c] := by
            show (if (orb (nxF 0 ws) mt (n + 1) (crn (nxF 0 ws) mt n i).1 i []).2 = [] then _ else _ ++ [(orb (nxF 0 ws) mt (n + 1) (crn (nxF 0 ws) mt n i).1 i []).2]) = _
            rw [← eo]
          have lvn : (nats c).length = c.length := List.length_map ..
          refine ⟨_, rfl, Nat.zero_le _, fun q0 hq0 => ?_⟩
          have s5 := same_upd (o := .lst []) hq0
          refine ⟨.list ((nats c).map PyData.int), .list [], .lst (SqL.of (s5 _ _ hL)) (dpInts (nats c)), .lst (SqL.of upd_same) .nil, PySem.W.ke_shaped_ints (nats c), rfl, _, rfl, ?_⟩
          have gf5 := s5 _ _ gf4
          have gk5 := s5 _ _ gk4
          have hL5 := s5 _ _ hL
          have hcs5 := hcs4.imp fun _ _ h => h.same s5
          have sm5 := sm4.trans s5
          generalize L2.upd H4 q0 (.lst []) = H5 at gf5 gk5 hL5 hcs5 sm5 ⊢
          by_cases hc : c = []
          · subst hc
            refine iteF' rfl ?_
            exact ⟨_, _, _, vs, kn, rfl, sm5, gf5, gk5, (by rw [f1]; exact hme4), (by rw [f1]; exact hle4), (by rw [f1]; exact hok), by omega, by rw [f2, if_pos rfl]; exact hcs5.imp fun _ _ h => h.less⟩
          · refine iteT' (by
              cases c with
              | nil => exact absurd rfl hc
              | cons => rfl) ?_
            refine ⟨_, rfl, .inl ⟨rfl, _, SqL.of gf5⟩, _, rfl, lc, nats c, rfl, SqL.of hL5, by rw [lvn]; have := SeenOk.le hok; omega, fun ns q perm asc hq => ?_⟩
            have s6 := same_upd (o := .lst (iv ns)) hq
            have gf6 := s6 _ _ gf5
            have ens : ns = nats (Pt.srt c) := nats_srt perm asc
            have gq : L2.upd H5 q (.lst (iv ns)) q = some (.lst (iv (nats (Pt.srt c)))) := by rw [upd_same, ens]
            have nqf : q ≠ lf := (ne_of_none gf5 hq).symm
            have nqk : q ≠ lk := (ne_of_none gk5 hq).symm
            refine ⟨lf, vs, _, rfl, rfl, gf6, Evl.sz_lt (by omega), ?_⟩
            refine ⟨_, _, _, vs ++ [.ref q], kn, rfl, fun b o e => ?_, upd_same, ?_, (by rw [f1]; exact hme4), (by rw [f1]; exact hle4), (by rw [f1]; exact hok), by rw [List.length_append]; exact Nat.succ_le_succ lvs, ?_⟩
            · rw [upd_ne (ne_of_none e f0)]
              exact s6 _ _ (sm5 _ _ e)
            · rw [upd_ne nfk.symm]; exact s6 _ _ gk5
            · rw [f2, if_neg hc]
              exact All2.app (hcs5.imp fun _ _ h => ((h.same s6).put List.mem_cons_self).less) (.cons ⟨q, rfl, fun b hb => by
                simp only [List.mem_cons, List.mem_nil_iff, or_false] at hb
                rcases hb with rfl | rfl
                · exact nqf
                · exact nqk, by rw [upd_ne nqf]; exact gq⟩ .nil)
        · have hsl := hok.lt hpl hin
          refine iteT' (by rw [decide_eq_false fun z => hin ((hme4 pl).mp z)]; rfl) ?_
          have lkn : (iv (nats kn)).length = kn.length := by unfold iv nats; rw [List.length_map, List.length_map]
          have lcn : (iv (nats c)).length = c.length := by unfold iv nats; rw [List.length_map, List.length_map]
          refine ⟨_, rfl, .inl ⟨rfl, _, SqL.of gk4⟩, _, rfl, lk, _, _, rfl, rfl, gk4, Evl.sz_lt (by rw [lkn]; omega), ?_⟩
          have gf5 : L2.upd H4 lk (.lst (iv (nats kn) ++ [.int (pl : Int)])) lf = some (.lst vs) := by rw [upd_ne nfk]; exact gf4
          have hL5 : L2.upd H4 lk (.lst (iv (nats kn) ++ [.int (pl : Int)])) lc = some (.lst (iv (nats c))) := by rw [upd_ne nkc.symm]; exact hL
          have gk5 : L2.upd H4 lk (.lst (iv (nats kn) ++ [.int (pl : Int)])) lk = some (.lst (iv (nats (kn ++ [pl])))) := by
            rw [upd_same]
            simp [iv, nats]
          have sm5 : Same H (L2.upd H4 lk (.lst (iv (nats kn) ++ [.int (pl : Int)]))) := fun b o e => by
            rw [upd_ne (ne_of_none e k0)]
            exact sm4 _ _ e
          have hcs5 := hcs4.imp fun _ _ h => h.put (o := .lst (iv (nats kn) ++ [.int (pl : Int)])) (l := lk) (List.mem_cons_of_mem _ List.mem_cons_self)
          generalize L2.upd H4 lk (.lst (iv (nats kn) ++ [.int (pl : Int)])) = H5 at gf5 gk5 hL5 sm5 hcs5 ⊢
          refine ⟨_, rfl, .inl ⟨rfl, _, SqL.of hL5⟩, _, rfl, lc, _, _, rfl, rfl, hL5, Evl.sz_lt (by rw [lcn]; omega), ?_⟩
          have gf6 : L2.upd H5 lc (.lst (iv (nats c) ++ [.int (pl : Int)])) lf = some (.lst vs) := by rw [upd_ne nfc]; exact gf5
          have gk6 : L2.upd H5 lc (.lst (iv (nats c) ++ [.int (pl : Int)])) lk = some (.lst (iv (nats (kn ++ [pl])))) := by rw [upd_ne nkc]; exact gk5
          have hL6 : L2.upd H5 lc (.lst (iv (nats c) ++ [.int (pl : Int)])) lc = some (.lst (iv (nats (c ++ [pl])))) := by
            rw [upd_same]
            simp [iv, nats]
          have sm6 : Same H (L2.upd H5 lc (.lst (iv (nats c) ++ [.int (pl : Int)]))) := fun b o e => by
            rw [upd_ne (ne_of_none e c0)]
            exact sm5 _ _ e
          have hcs6 := hcs5.imp fun _ _ h => h.put (o := .lst (iv (nats c) ++ [.int (pl : Int)])) (l := lc) (List.mem_cons_of_mem _ (List.mem_cons_of_mem _ List.mem_cons_self))
          obtain ⟨H6, e6⟩ : ∃ H6, H6 = L2.upd H5 lc (.lst (iv (nats c) ++ [.int (pl : Int)])) := ⟨_, rfl⟩
          rw [← e6] at gf6 gk6 hL6 sm6 hcs6 ⊢
          have lpm : pl < mt.length := by omega
          obtain ⟨m0, m1⟩ := hm _ (List.getElem_mem lpm)
          have lmn : mt[pl].toNat < (nxF 0 ws).length := by omega
          obtain ⟨x0, x1⟩ := nxF_rng ws 0 hne _ (List.getElem_mem lmn)
          rw [Nat.zero_add, ← en] at x1
          have enx : nxt (nxF 0 ws) mt pl = ((nxF 0 ws)[mt[pl].toNat]).toNat := by
            unfold nxt
            rw [List.getD_eq_getElem?_getD, List.getD_eq_getElem?_getD, List.getElem?_eq_getElem lpm]
            show ((nxF 0 ws)[mt[pl].toNat]?.getD 0).toNat = _
            rw [List.getElem?_eq_getElem lmn]
            rfl
          have em : mt[pl] = ((mt[pl].toNat : Nat) : Int) := by omega
          have R6 := R1.same sm6
          obtain ⟨dx, fs, hx, nlk⟩ := rims_no R6
          refine ⟨_, rfl, p, dx, fs, rfl, hx, nlk, _, rfl, _, rfl, m, _, _, _, rfl, rfl, SqL.of (sm6 _ _ hM), atI_nat (iv_get (List.getElem?_eq_getElem lpm)), p, mt[pl].toNat, xs, ws, by rw [← em]; rfl, R6, by omega, fun z hz => ?_⟩
          obtain rfl : (nxF 0 ws)[mt[pl].toNat] = z := by
            rw [List.getElem?_eq_getElem lmn] at hz
            exact Option.some.inj hz
          refine at_set ?_
          obtain ⟨k', rfl⟩ : ∃ k', kk = k' + 1 := ⟨kk - 1, by omega⟩
          have eo' := (orb_out hin).symm.trans eo
          have ex : ((nxt (nxF 0 ws) mt pl : Nat) : Int) = (nxF 0 ws)[mt[pl].toNat] := by
            rw [enx]
            omega
          refine ⟨⟨k', nxt (nxF 0 ws) mt pl, pl :: s, c ++ [pl], kn ++ [pl], by rw [ex]; rfl, sm6, gf6, gk6, fun x => ?_, ?_, ⟨List.nodup_cons.mpr ⟨hin, hok.1⟩, fun x hx => ?_⟩, by omega, hL6, ?_, hcs6, eo', ?_⟩, ?_⟩
          · rw [List.mem_append, List.mem_singleton, List.mem_cons, hme4]
            exact or_comm
          · rw [List.length_append, List.length_cons, hle4]
            rfl
          · rcases List.mem_cons.mp hx with rfl | hx
            · exact hpl
            · exact hok.2 x hx
          · rw [List.length_append, List.length_cons]
            show c.length + 1 ≤ s.length + 1
            omega
          · rw [List.length_cons]
            omega
          · show (match H6 lc with | some (.lst xs) => n + 1 - xs.length | _ => 0) < (match H4 lc with | some (.lst xs) => n + 1 - xs.length | _ => 0)
            rw [hL6, hL]
            show n + 1 - (iv (nats (c ++ [pl]))).length < n + 1 - (iv (nats c)).length
            unfold iv nats
            simp only [List.length_map, List.length_append, List.length_cons, List.length_nil]
            omega
      · rintro σ H4 Q Q' hh ⟨v, e1, u, e2, p1, xs1, ey, hs, f1, f2, c, ec, q⟩
        exact ⟨v, e1, u, e2, p1, xs1, ey, hs, f1, f2, c, ec, hh c H4 q⟩
    · rintro σ H3 ⟨v5, v6, v7, vs, kn, rfl, sm, gf, gk, hmem, hlen, hso, lvs, hcs⟩
      rw [Int.toNat_natCast] at hcs lvs
      refine hN1 _ _ ?_
      have ln : vs.length ≤ 1000 := by omega
      refine ⟨_, rfl, lf, vs, (crn (nxF 0 ws) mt n n).2.map fun c => nats (Pt.srt c), rfl, SqL.of gf, lots_pair hcs, by rw [List.length_map, ← hcs.length]; exact ln, fun ys q hy hq => ?_⟩
      have sq := same_upd (o := .lst ys) hq
      exact k q _ ys (sm.trans sq) upd_same (hy.mono fun y c ⟨t, e, g⟩ => ⟨t, e, sq.seq g⟩)
end
end W16
set_option Elab.async false
set_option linter.all false
set_option maxRecDepth 100000
set_option maxHeartbeats 1000000
namespace W16
open PySem L2 PySem.Spec PyProof.Rows WR WB WE WS SrtL
/-! ### other letters put for kinds -/
def OffL (H : Hp) (l : Addr) (us : List V) (ws : List (List Int)) : Prop := All2 (fun v w => ∃ q, v = V.ref q ∧ q ≠ l ∧ H q = some (.lst (iv w))) us ws
theorem OffL.lls {H : Hp} {l : Addr} {us : List V} {ws : List (List Int)} (h : OffL H l us ws) : LLs H us ws := h.imp fun _ _ ⟨q, e, _, g⟩ => ⟨q, e, g⟩
theorem OffL.same {H H' : Hp} {l : Addr} {us : List V} {ws : List (List Int)} (h : OffL H l us ws) (s : Same H H') : OffL H' l us ws := h.imp fun _ _ ⟨q, e, n, g⟩ => ⟨q, e, n, s _ _ g⟩
theorem OffL.put {H : Hp} {l : Addr} {us : List V} {ws : List (List Int)} {o : HO} (h : OffL H l us ws) : OffL (L2.upd H l o) l us ws := h.imp fun _ _ ⟨q, e, n, g⟩ => ⟨q, e, n, by rw [upd_ne n]; exact g⟩
/-- a letter put for a letter -/
def lgo (z : Int → Int) (x : Int) : Int := if 0 < x then z x else -z (-x)
def ForAll (kvs : List (Key × V)) (z : Int → Int) (ls : List Int) : Prop := ∀ x ∈ ls, x ≠ 0 ∧ valV kvs (.inl (if x < 0 then -x else x)) = some (.int (z (if x < 0 then -x else x)))
abbrev sRen : Stmt := top 78
abbrev nRen : List Str := ["_law_words", "_law_names_here", "_law_found", "_law_word", "_law_letter"]
theorem scRen : FnScope nRen ["_law_words", "_law_names_here"] (defScope sRen) := ⟨rfl, rfl, rfl, by decide +kernel, rfl, by decide +kernel, by decide +kernel⟩
def spRen : Sp := fun vs H Q _ => ∃ (p d : Addr) (us : List V) (ws : List (List Int)) (kvs : List (Key × V)) (z : Int → Int), vs = [.ref p, .ref d] ∧ H p = some (.lst us) ∧ LLs H us ws ∧ ws.length ≤ 100 ∧ ws.flatten.length ≤ 1000 ∧ H d = some (.dK kvs) ∧ ForAll kvs z ws.flatten ∧
  ∀ l H' us', Same H H' → H' l = some (.lst us') → LLs H' us' (ws.map fun w => w.map (lgo z)) → Q (.ref l) H'
theorem hu_of {A : Around} {k : Nat} (hr : Room k A) : A.units + 1 < cLine := by
  have := hr.units
  omega
section
variable {P : Program} {w : World} {K : PySem.W.Frag} {mg : Str → Option Value} {base : Heap} {C CR CS : Addr}
theorem ok_Ren {f : Addr} {fd : FuncData} (F : Fun K "_law_renamed" "_law_renamed" sRen f fd) (N : TN mg)   : FnOk P w K mg base CX0 1 f fd ["_law_words", "_law_names_here"] (spRen) := by
  refine F.ok scRen (fun vs H Q E h => ?_) (fun cdv A outer s H vs Q E hr h => ?_)
  · obtain ⟨p, d, us, ws, kvs, z, rfl, _⟩ := h
    rfl
  · obtain ⟨p, d, us, ws, kvs, z, rfl, hp, hu, l100, l1000, hd, fa, k⟩ := h
    refine ⟨_, pss_cons (ps_set (i := 2) scRen.nd rfl (Or.inl rfl) (pe_lst pa_nil))
      (pss_cons (ps_for PassesOwn.never rfl (pi_list (pv 0)) (pg_name (i := 3) scRen.nd rfl (Or.inl rfl))
      (pss_one (ps_expr (pe_bm PySem.F.plainAttrs_list PySem.F.slot_list_append PySem.F.type_list_append mt_append (pv 2) (pa_cons (pe_lc (own := [("_law_letter", 4)]) (g := gName 4) (tt := tYes) rfl scRen.nd (pi_list (pv 3)) (blkOk_by (N := nRen) (sc := defScope sRen) (by decide +kernel)) (fun _ _ _ _ _ => (pg_name (i := 4) scRen.nd rfl (Or.inl rfl))) (fun _ _ _ _ _ => pts_nil) (fun _ _ _ _ _ => (pe_ifExp (pt_cmpR op_gt (pv 4) pe_int (nomark _)) (pe_dget (hu_of hr) (pv 1) (pe_callB call_abs (by rfl) N.abs (by decide +kernel) (pa_cons (pv 4) pa_nil)) (fun _ _ => rfl)) (pe_un un_neg (pe_dget (hu_of hr) (pv 1) (pe_callB call_abs (by rfl) N.abs (by decide +kernel) (pa_cons (pv 4) pa_nil)) (fun _ _ => rfl)))))) pa_nil)))))
      (pss_one (ps_ret (pv 2)))), ?_⟩
    have lu := hu.length
    refine ⟨Nat.zero_le _, fun lf hlf => ?_⟩
    have s1 := same_upd (o := .lst []) hlf
    have gf : L2.upd H lf (.lst []) lf = some (.lst []) := upd_same
    obtain ⟨H1, e1⟩ : ∃ H1, H1 = L2.upd H lf (.lst []) := ⟨_, rfl⟩
    rw [← e1] at s1 gf ⊢
    refine at_set ?_
    try dsimp only
    refine ⟨_, rfl, p, rfl, ⟨_, SqL.of (s1 _ _ hp)⟩, for_list (K := K) (a := p) (xs := us) (fun i σ H' => ∃ (v3 : Option V) (us' : List V), σ = [some (.ref p), some (.ref d), some (.ref lf), v3, none] ∧ Same H H' ∧ H' lf = some (.lst us') ∧ us'.length = i ∧ OffL H' lf us' ((ws.take i).map fun w => w.map (lgo z)))
      ⟨none, [], rfl, s1, gf, rfl, .nil⟩ (fun i σ H' _ hI_ => by obtain ⟨_, _, _, s, _⟩ := hI_; exact SqL.of (s _ _ hp)) ?_ ?_⟩
    · rintro i x σ H2 hi ⟨v3, us', rfl, s2, g2, l2, o2⟩
      obtain ⟨wd, hwd, q, rfl, gq⟩ := hu.at hi
      have iw := List.getElem?_eq_some_iff.mp hwd
      have lwd : wd.length ≤ ws.flatten.length := word_le (List.mem_of_getElem? hwd)
      refine STP.expr ?_
      refine ⟨_, rfl, .inl ⟨rfl, _, SqL.of g2⟩, ?_⟩
      refine STP.cons (STP.lc ?_)
      have gq2 := s2 _ _ gq
      refine ⟨_, rfl, q, rfl, ⟨_, SqL.of gq2⟩, ?_⟩
      refine lcM (walk_list (K := K) (a := q) (xs := iv wd)) (wd.map (lgo z)) (fun _ _ v b => v = V.int b) (fun _ _ _ _ _ h _ => h) (fun _ _ _ _ _ _ _ h => h) (by rw [List.length_map]; omega) (by rw [List.length_map, List.length_map]) (fun H s => s.seq (SqL.of gq2)) ?_ (fun _ _ _ _ _ => gName_mono) ?_
      · intro j x b hx hb D H6 hD _ s6 Qy ky
        rw [List.getElem?_map] at hx hb
        cases ex : wd[j]? with
        | none => rw [ex] at hx; cases hx
        | some y =>
          rw [ex] at hx hb
          obtain rfl := Option.some.inj hx
          obtain rfl := Option.some.inj hb
          obtain ⟨ny, vy⟩ := fa y (List.mem_flatten.mpr ⟨wd, List.mem_of_getElem? hwd, List.mem_of_getElem? ex⟩)
          have hd6 := s6 _ _ (s2 _ _ hd)
          refine ⟨rfl, ?_⟩
          refine ⟨_, rfl, _, _, rfl, rfl, _, rfl, ?_⟩
          by_cases py : 0 < y
          · refine iteT' (decide_eq_true py) ?_
            rw [if_neg (by omega)] at vy
            refine ⟨_, rfl, _, rfl, _, rfl, d, .int (z y), rfl, ?_⟩
            rw [if_neg (by omega : ¬ y < 0)]
            exact ⟨vy ▸ DGet.k (k := .inl y) hd6, ky _ _ (Same.refl _) (by rw [show lgo z y = z y from if_pos py])⟩
          · refine iteF' (decide_eq_false py) ?_
            rw [if_pos (by omega)] at vy
            refine ⟨_, rfl, _, rfl, _, rfl, d, .int (z (-y)), rfl, ?_⟩
            rw [if_pos (by omega : y < 0)]
            exact ⟨vy ▸ DGet.k (k := .inl (-y)) hd6, _, rfl, ky _ _ (Same.refl _) (by rw [show lgo z y = -z (-y) from if_neg py])⟩
      intro D H6 us6 hD s6 g6 r6
      have e6 : us6 = iv (wd.map (lgo z)) := all_ints r6
      rw [e6] at g6
      have g26 := s6 _ _ g2
      have nD : D ≠ lf := (ne_of_none g2 hD).symm
      refine ⟨lf, us', _, rfl, rfl, g26, Evl.sz_lt (by have := iw.1; omega), ?_⟩
      refine ⟨_, us' ++ [.ref D], rfl, fun b o e => ?_, upd_same, by rw [List.length_append, l2]; rfl, ?_⟩
      · rw [upd_ne (ne_of_none e hlf)]
        exact s6 _ _ (s2 _ _ e)
      · rw [List.take_succ_eq_append_getElem iw.1, List.map_append, iw.2]
        exact All2.app (o2.same s6).put (.cons ⟨D, rfl, nD, by rw [upd_ne nD]; exact g6⟩ .nil)
    · rintro σ H2 ⟨v3, us', rfl, s2, g2, l2, o2⟩
      rw [lu, List.take_length] at o2
      exact ⟨_, rfl, k lf H2 us' s2 g2 o2.lls⟩
end
end W16
set_option Elab.async false
set_option linter.all false
set_option maxRecDepth 100000
set_option maxHeartbeats 1000000
namespace W16
open PySem L2 PySem.Spec PyProof.Rows WR WB WE WS SrtL
/-! ### drawn names for kinds -/
abbrev sNam : Stmt := top 79
abbrev nNam : List Str := ["_law_pen_here", "_law_words", "_law_kinds", "_law_left", "_law_found", "_law_at", "_law_kind", "_law_letter"]
theorem scNam : FnScope nNam ["_law_pen_here", "_law_words"] (defScope sNam) := ⟨rfl, rfl, rfl, by decide +kernel, rfl, by decide +kernel, by decide +kernel⟩
structure NameOk (kvs : List (Key × V)) (z : Int → Int) (ls : List Int) : Prop where
  all : ForAll kvs z ls
  rng : ∀ x ∈ ls, 1 ≤ (z (if x < 0 then -x else x)).natAbs ∧ (z (if x < 0 then -x else x)).natAbs ≤ 26
  inj : ∀ x ∈ ls, ∀ y ∈ ls, (z (if x < 0 then -x else x)).natAbs = (z (if y < 0 then -y else y)).natAbs → (if x < 0 then -x else x) = (if y < 0 then -y else y)
theorem HandAt.iv_ne' {H : Hp} {a c m : Addr} {n : Nat} {ns : List Int} (h : HandAt H a c n) (hm : H m = some (.lst (iv ns))) : m ≠ a := fun e => by
  obtain ⟨_, i, r, h1, _⟩ := h
  rw [← e, hm] at h1
  cases ns with
  | nil => cases h1
  | cons x t => cases h1
theorem Kept.ofS {a : Addr} {H H' : Hp} (s : Same H H') : Kept a H H' := fun b o _ e => s b o e
def spNam : Sp := fun vs H Q _ => ∃ (a c p : Addr) (n : Nat) (us : List V) (ws : List (List Int)), vs = [.ref a, .ref p] ∧ HandAt H a c n ∧ n ≤ 6000 ∧ p ≠ a ∧ H p = some (.lst us) ∧ LLs H us ws ∧ ws.flatten.length ≤ 24 ∧ Lts ws.flatten ∧
  ∀ d H' kvs z, H d = none → Drew a c (n + 60) H H' → H' d = some (.dK kvs) → NameOk kvs z ws.flatten → Q (.ref d) H'
section
variable {P : Program} {w : World} {K : PySem.W.Frag} {mg : Str → Option Value} {base : Heap} {C CR CS : Addr}
theorem ok_Nam {f : Addr} {fd : FuncData} (F : Fun K "_law_names" "_law_names" sNam f fd) (N : TN mg)  (G_mixed : Cal P w K mg base "_law_mixed" 2 ["_law_pen_here", "_law_some"] (spMixed)) (G_draw : Cal P w K mg base "_law_draw" 1 ["_law_pen_here", "_law_many"] (spTake)) (G_letters : Cal P w K mg base "_law_letters" 1 ["_law_words"] (spLets)) : FnOk P w K mg base CX0 3 f fd ["_law_pen_here", "_law_words"] (spNam) := by
  refine F.ok scNam (fun vs H Q E h => ?_) (fun cdv A outer s H vs Q E hr h => ?_)
  · obtain ⟨a, c, p, n, us, ws, rfl, _⟩ := h
    rfl
  · obtain ⟨a, c, p, n, us, ws, rfl, hH, hn, hpa, hp, hu, l24, lt, k⟩ := h
    refine ⟨_, pss_cons (ps_set (i := 2) scNam.nd rfl (Or.inl rfl) (pe_callB (cr_sortedSet rfl) (by rfl) N.sorted (by decide +kernel) (pa_cons (pe_callTy (call_setLI rfl) (by rfl) N.set (by decide +kernel) (pa_cons (pe_lc (own := [("_law_letter", 7)]) (g := gName 7) (tt := tYes) rfl scNam.nd (pi_list (pe_cal G_letters hr (by decide) (by rfl) (pa_cons (pv 1) pa_nil))) (blkOk_by (N := nNam) (sc := defScope sNam) (by decide +kernel)) (fun _ _ _ _ _ => (pg_name (i := 7) scNam.nd rfl (Or.inl rfl))) (fun _ _ _ _ _ => pts_nil) (fun _ _ _ _ _ => (pe_callB call_abs (by rfl) N.abs (by decide +kernel) (pa_cons (pv 7) pa_nil)))) pa_nil)) pa_nil)))
      (pss_cons (ps_par (i := 3) (j := 4) (by rfl) scNam.nd rfl rfl (by decide) rfl rfl (pa_cons (pe_cal G_mixed hr (by decide) (by rfl) (pa_cons (pv 0) (pa_cons (pe_listRg rfl (by rfl) N.list (prg_2 (by rfl) N.range pe_int pe_int)) pa_nil))) (pa_cons pe_dnewK pa_nil)) (by rfl))
      (pss_cons (ps_for PassesOwn.never rfl (pi_enum (by rfl) N.enumerate (pa_cons (pv 2) pa_nil)) (pg_tup (n := 2) rfl (pgs_cons (pg_name (i := 5) scNam.nd rfl (Or.inl rfl)) (pgs_cons (pg_name (i := 6) scNam.nd rfl (Or.inl rfl)) pgs_nil)))
      (pss_one (ps_dput (hu_of hr) (pv 4) (pv 6) (pe_ifExp (pt_cmpR op_eq (pe_cal G_draw hr (by decide) (by rfl) (pa_cons (pv 0) (pa_cons pe_int pa_nil))) pe_int (nomark _)) (pe_ix ix_list (pv 3) (pv 5) (fun _ _ => rfl)) (pe_un un_neg (pe_ix ix_list (pv 3) (pv 5) (fun _ _ => rfl)))) rfl)))
      (pss_one (ps_ret (pv 4))))), ?_⟩
    refine STP.seq (STP.asg (STP.cb (STP.cons (STP.cb (STP.cons (STP.lc ?_))))))
    refine ⟨_, rfl, p, us, ws, rfl, hp, hu, by omega, fun lq H1 hlq s1 g1 => ?_⟩
    refine ⟨lq, rfl, ⟨_, SqL.of g1⟩, ?_⟩
    obtain ⟨ls, els⟩ : ∃ ls, ls = ws.flatten := ⟨_, rfl⟩
    rw [← els] at g1 l24 lt k
    refine lcp (walk_list (K := K) (a := lq) (xs := iv ls)) (fun _ => true) (fun x => match x with | .int i => V.int (if i < 0 then -i else i) | v => v) (by rw [List.length_map]; omega) (fun H' s => SqL.of (s _ _ g1)) ?_ ?_
    · intro x hx H2 s2 Qy Qn ky kn
      obtain ⟨z, hz, rfl⟩ := List.mem_map.mp hx
      exact ⟨rfl, yes_te ⟨_, rfl, z, rfl, ky rfl H2 (Same.refl _)⟩⟩
    intro D H2 hD s2 hD2
    have eab : ((iv ls).filter (fun _ => true)).map (fun x => match x with | .int i => V.int (if i < 0 then -i else i) | v => v) = iv (ls.map fun i => ((i.natAbs : Nat) : Int)) := by
      rw [List.filter_eq_self.mpr (fun _ _ => rfl)]
      unfold iv
      rw [List.map_map, List.map_map]
      refine List.map_congr_left fun i _ => ?_
      show V.int (if i < 0 then -i else i) = V.int ((i.natAbs : Nat) : Int)
      congr 1
      split <;> omega
    rw [eab] at hD2
    refine ⟨D, _, rfl, SqL.of hD2, by rw [List.length_map]; omega, fun S L hS ndL memL => ?_⟩
    have lL : L.length ≤ 26 := by
      have nd2 : (L.map Int.toNat).Nodup := by
        refine List.pairwise_map.mpr (ndL.imp_of_mem fun {x y} hx hy ne e => ne ?_)
        obtain ⟨z1, _, rfl⟩ := List.mem_map.mp ((memL x).mp hx)
        obtain ⟨z2, _, rfl⟩ := List.mem_map.mp ((memL y).mp hy)
        rw [Int.toNat_natCast, Int.toNat_natCast] at e
        rw [e]
      have := L2.nat_nodup_len (L.map Int.toNat) ((List.range 26).map (· + 1)) nd2 fun x hx => by
        obtain ⟨y, hy, rfl⟩ := List.mem_map.mp hx
        obtain ⟨z, hz, rfl⟩ := List.mem_map.mp ((memL y).mp hy)
        have := lt z hz
        rw [Int.toNat_natCast]
        exact List.mem_map.mpr ⟨z.natAbs - 1, List.mem_range.mpr (by omega), by omega⟩
      rw [List.length_map, List.length_map, List.length_range] at this
      exact this
    have s3 := s2.trans (same_upd (o := SetO w S (fun j => decide (j ∈ ls.map fun i => ((i.natAbs : Nat) : Int))) L.length) hS)
    refine ⟨S, _, L.length, rfl, upd_same, by omega, fun ks p3 hlt hmem hlen hp3 => ?_⟩
    have s4 := s1.trans (s3.trans (same_upd (o := .lst (iv ks)) hp3))
    have hks : ∀ z, z ∈ ks ↔ z ∈ ls.map fun i => ((i.natAbs : Nat) : Int) := fun z => by
      rw [hmem]
      exact decide_eq_true_iff
    have ndk : ks.Nodup := hlt.imp fun h => Int.ne_of_lt h
    have lks : ks.length ≤ 26 := by omega
    have gk3 : L2.upd (L2.upd H2 S (SetO w S (fun j => decide (j ∈ ls.map fun i => ((i.natAbs : Nat) : Int))) L.length)) p3 (.lst (iv ks)) p3 = some (.lst (iv ks)) := upd_same
    refine STP.name ?_
    dsimp only
    refine STP.seq ?_
    have hH3 := hH.same s4
    refine ⟨_, rfl, _, _, rfl, rfl, ⟨by decide, by decide, by decide, by decide, by decide⟩, fun q hq => ?_⟩
    rw [show rgV 1 27 = iv (rgI 1 27) from rgV_I 1 27]
    have D0 := (Drew.refl hH3).new (o := .lst (iv (rgI 1 27))) hq
    refine ⟨a, c, q, _, n, rfl, D0.1, upd_same, by rw [List.length_map, rgI_len]; decide, by omega, fun lk H4 ys hlk D1 g4 pm => ?_⟩
    obtain ⟨nm, pk, rfl⟩ := perm_map pm _ rfl
    have lnm : nm.length = 26 := by rw [pk.length_eq, rgI_len]
    have D1 := (D0.trans D1).mono (n := n + 26) (by rw [List.length_map, rgI_len]; omega)
    have ndn : nm.Nodup := pk.nodup_iff.mpr (by decide +kernel)
    have rgn : ∀ x ∈ nm, 1 ≤ x ∧ x ≤ 26 := fun x hx => (by decide +kernel : ∀ x ∈ rgI 1 27, 1 ≤ x ∧ x ≤ 26) x (pk.mem_iff.mp hx)
    have gk4 := D1.2 _ _ (hH3.iv_ne' gk3) gk3
    refine fun d hd => ⟨_, _, rfl, ?_⟩
    have s5 := same_upd (o := .dK []) hd
    have gd5 : L2.upd H4 d (.dK []) d = some (.dK []) := upd_same
    have hda := D1.1.ne hd
    have hdc := D1.1.neC hd
    have d0 : H d = none := by
      cases e : H d with
      | none => rfl
      | some o => rw [D1.2 _ _ hda (s4 _ _ e)] at hd; cases hd
    have D5 : Drew a c (n + 26) H (L2.upd H4 d (.dK [])) := (⟨(D1.same s5).1, (Kept.ofS s4).trans (D1.same s5).2⟩)
    have gk5 := s5 _ _ gk4
    have gn5 := s5 _ _ g4
    generalize L2.upd H4 d (.dK []) = H5 at gd5 D5 gk5 gn5 ⊢
    try dsimp only
    refine ⟨_, rfl, p3, _, rfl, SqL.of gk5, ?_⟩
    refine for_it (walk_enum (K := K) (a := p3) (xs := iv ks)) (fun i σ H' => ∃ (v5 v6 : Option V) (kvs : List (Key × V)) (z : Int → Int), σ = [some (.ref a), some (.ref p), some (.ref p3), some (.ref lk), some (.ref d), v5, v6, none] ∧ Drew a c (n + 26 + i) H H' ∧ H' p3 = some (.lst (iv ks)) ∧ H' lk = some (.lst (iv nm)) ∧ H' d = some (.dK kvs) ∧ kvs.length ≤ i ∧
        (∀ j, j < i → (z (ks.getD j 0)).natAbs = (nm.getD j 0).natAbs) ∧ ∀ y, valV kvs (.inl y) = if y ∈ ks.take i then some (.int (z y)) else none)
      ⟨none, none, [], fun _ => 0, rfl, D5, gk5, gn5, gd5, Nat.le_refl _, (fun j h => absurd h (Nat.not_lt_zero _)), fun y => by rw [List.take_zero, if_neg (by simp)]; rfl⟩ (fun i σ H' _ hI_ => by obtain ⟨_, _, _, _, _, _, h, _⟩ := hI_; exact SqL.of h) ?_ ?_
    · rintro i x σ H6 H7 hi ⟨v5, v6, kvs, z, rfl, D6, gk6, gn6, gd6, lkv, hz, hv⟩ ⟨T0, xi, yi, rfl, hT0, rfl, hx, hy⟩
      have hin : i < ks.length := by rw [List.length_map] at hi; exact hi
      obtain rfl := Option.some.inj hx
      have ey : yi = V.int ks[i] := by
        have hy : (iv ks)[i]? = some yi := hy
        rw [List.getElem?_map, List.getElem?_eq_getElem hin] at hy
        exact (Option.some.inj hy).symm
      subst ey
      have sT := same_upd (o := .tup [.int (i : Int), V.int ks[i]]) hT0
      have D7 := D6.same sT
      have gk7 := sT _ _ gk6
      have gn7 := sT _ _ gn6
      have gd7 := sT _ _ gd6
      have hnm : i < nm.length := by omega
      refine ⟨T0, _, rfl, SqT.of upd_same, rfl, _, _, rfl, _, _, rfl, rfl, ?_⟩
      generalize L2.upd H6 T0 (.tup [.int (i : Int), V.int ks[i]]) = H7 at D7 gk7 gn7 gd7 ⊢
      refine ⟨_, rfl, a, c, 2, _, rfl, D7.1, by omega, by decide, by decide, fun H8 q8 q80 q81 hH8 hK8 => ⟨rfl, _, rfl, ?_⟩⟩
      have gk8 := hK8 _ _ (D7.1.iv_ne' gk7) gk7
      have gn8 := hK8 _ _ (D7.1.iv_ne' gn7) gn7
      have gd8 := hK8 _ _ hda gd7
      have D8 : Drew a c (n + 26 + i + 1) H H8 := ⟨hH8, D7.2.trans hK8⟩
      have inm : (iv nm)[i]? = some (.int nm[i]) := by rw [List.getElem?_map, List.getElem?_eq_getElem hnm]; rfl
      have fin : ∀ v : Int, v.natAbs = (nm[i]).natAbs → ∃ (v5 v6 : Option V) (kvs' : List (Key × V)) (z' : Int → Int), [some (.ref a), some (.ref p), some (.ref p3), some (.ref lk), some (.ref d), some (.int (i : Int)), some (.int ks[i]), none] = [some (.ref a), some (.ref p), some (.ref p3), some (.ref lk), some (.ref d), v5, v6, none] ∧ Drew a c (n + 26 + (i + 1)) H (L2.upd H8 d (.dK (putK kvs (.inl ks[i]) (.int v)))) ∧ (L2.upd H8 d (.dK (putK kvs (.inl ks[i]) (.int v)))) p3 = some (.lst (iv ks)) ∧ (L2.upd H8 d (.dK (putK kvs (.inl ks[i]) (.int v)))) lk = some (.lst (iv nm)) ∧ (L2.upd H8 d (.dK (putK kvs (.inl ks[i]) (.int v)))) d = some (.dK kvs') ∧ kvs'.length ≤ i + 1 ∧
        (∀ j, j < i + 1 → (z' (ks.getD j 0)).natAbs = (nm.getD j 0).natAbs) ∧ ∀ y, valV kvs' (.inl y) = if y ∈ ks.take (i + 1) then some (.int (z' y)) else none := fun v hv2 => by
        have ek : ks.take (i + 1) = ks.take i ++ [ks[i]] := List.take_succ_eq_append_getElem hin
        have nin : ks[i] ∉ ks.take i := fun m => by
          obtain ⟨j, hj, e⟩ := List.getElem_of_mem m
          rw [List.getElem_take] at e
          rw [List.length_take] at hj
          have := nodup_inj ndk (by omega) hin e
          omega
        refine ⟨_, _, _, fun y => if y = ks[i] then v else z y, rfl, ⟨(D8.put d0 hda hdc).1.mono (by omega), (D8.put d0 hda hdc).2⟩, ?_, ?_, upd_same, ?_, fun j hj => ?_, fun y => ?_⟩
        · rw [upd_ne (fun e => by rw [e, gd8] at gk8; cases gk8)]
          exact gk8
        · rw [upd_ne (fun e => by rw [e, gd8] at gn8; cases gn8)]
          exact gn8
        · have := length_putK kvs (.inl ks[i]) (.int v)
          omega
        · by_cases e : j = i
          · subst e
            have g1 : ks.getD j 0 = ks[j] := getD_lt hin
            have g2 : nm.getD j 0 = nm[j] := getD_lt hnm
            rw [g1, g2]
            show (if ks[j] = ks[j] then v else z ks[j]).natAbs = _
            rw [if_pos rfl]
            exact hv2
          · have hj2 : j < i := by omega
            have g1 : ks.getD j 0 = ks[j] := getD_lt (by omega)
            show (if ks.getD j 0 = ks[i] then v else z (ks.getD j 0)).natAbs = _
            rw [if_neg (by rw [g1]; exact fun q => e (nodup_inj ndk (by omega) hin q))]
            exact hz j hj2
        · rw [valV_put, ek]
          by_cases e : y = ks[i]
          · subst e
            rw [if_pos rfl, if_pos (List.mem_append_right _ List.mem_cons_self)]
            show _ = some (V.int (if ks[i] = ks[i] then v else z ks[i]))
            rw [if_pos rfl]
          · rw [if_neg (fun q => e (by injection q)), hv y]
            by_cases m : y ∈ ks.take i
            · rw [if_pos m, if_pos (List.mem_append_left _ m)]
              show _ = some (V.int (if y = ks[i] then v else z y))
              rw [if_neg e]
            · rw [if_neg m, if_neg fun q => (List.mem_append.mp q).elim m fun q => e (List.mem_singleton.mp q)]
      have lkv2 : kvs.length < sizeLine := Nat.lt_of_le_of_lt (Nat.le_trans lkv (by omega : i ≤ 30)) (by decide)
      by_cases q0 : q8 = 0
      · refine iteT' (decide_eq_true (by rw [q0])) ?_
        refine ⟨_, rfl, _, rfl, lk, iv nm, _, .int nm[i], rfl, rfl, SqL.of gn8, atI_nat inm, _, rfl, _, rfl, d, _, rfl, DPut.k (k := .inl ks[i]) gd8 lkv2, ?_⟩
        exact fin _ rfl
      · refine iteF' (decide_eq_false fun e => q0 (by injection e)) ?_
        refine ⟨_, rfl, _, rfl, lk, iv nm, _, .int nm[i], rfl, rfl, SqL.of gn8, atI_nat inm, _, rfl, _, rfl, _, rfl, d, _, rfl, DPut.k (k := .inl ks[i]) gd8 lkv2, ?_⟩
        exact fin _ (by omega)
    · rintro σ H6 ⟨v5, v6, kvs, z, rfl, D6, gk6, gn6, gd6, lkv, hz, hv⟩
      rw [List.length_map] at lkv hz hv D6
      rw [List.take_length] at hv
      have mem : ∀ x ∈ ls, (if x < 0 then -x else x) ∈ ks := fun x hx => (hks _).mpr (List.mem_map.mpr ⟨x, hx, by split <;> omega⟩)
      have at_ : ∀ x ∈ ls, ∃ j, j < ks.length ∧ ks.getD j 0 = (if x < 0 then -x else x) := fun x hx => by
        obtain ⟨j, hj, e⟩ := List.getElem_of_mem (mem x hx)
        exact ⟨j, hj, by rw [getD_lt hj, e]⟩
      have nmd : ∀ j, j < ks.length → nm.getD j 0 = nm.getD j 0 ∧ 1 ≤ nm.getD j 0 ∧ nm.getD j 0 ≤ 26 := fun j hj => by
        have l : j < nm.length := by omega
        have := rgn _ (getD_mem l)
        exact ⟨rfl, this.1, this.2⟩
      refine ⟨_, rfl, k d H6 kvs z d0 ⟨D6.1.mono (by omega), D6.2⟩ gd6 ⟨fun x hx => ⟨by have := lt x hx; omega, ?_⟩, fun x hx => ?_, fun x hx y hy q => ?_⟩⟩
      · rw [hv, if_pos (mem x hx)]
      · obtain ⟨j, hj, e⟩ := at_ x hx
        have q := hz j hj
        rw [e] at q
        have := nmd j hj
        omega
      · obtain ⟨j, hj, e⟩ := at_ x hx
        obtain ⟨j2, hj2, e2⟩ := at_ y hy
        have q1 := hz j hj
        have q2 := hz j2 hj2
        rw [e] at q1
        rw [e2] at q2
        have a1 := nmd j hj
        have a2 := nmd j2 hj2
        have l1 : j < nm.length := by omega
        have l2 : j2 < nm.length := by omega
        have e3 : nm[j] = nm[j2] := by
          rw [← getD_lt l1, ← getD_lt l2]
          omega
        rw [← e, ← e2, nodup_inj ndn l1 l2 e3]
end
end W16
set_option Elab.async false
set_option linter.all false
set_option maxRecDepth 100000
set_option maxHeartbeats 1000000
namespace W16
open PySem L2 PySem.Spec PyProof.Rows WR WB WE WS SrtL
/-! ### words in another order, turned, read from behind -/
abbrev sMov : Stmt := top 77
abbrev nMov : List Str := ["_law_words", "_law_order", "_law_turns", "_law_is_back", "_law_begins_here", "_law_found", "_law_places", "_law_number", "_law_size", "_law_mine", "_law_at", "_law_spot", "_law_letters_here", "_law_place", "_law_letter"]
theorem scMov : FnScope nMov ["_law_words", "_law_order", "_law_turns", "_law_is_back"] (defScope sMov) := ⟨rfl, rfl, rfl, by decide +kernel, rfl, by decide +kernel, by decide +kernel⟩
theorem if_val {b : Bool} {ta tb : TE} {σ : L2.St} {H : Hp} {Q : VK} {v : V} (ha : b = true → ∀ Q' : VK, Q' v H → ta σ H Q') (hb : b = false → ∀ Q' : VK, Q' v H → tb σ H Q') (q : Q v H) : if b = true then ta σ H Q else tb σ H Q := by
  cases b with
  | true => exact ha rfl Q q
  | false => exact hb rfl Q q
theorem if_valH {b : Bool} {ta tb : TE} {σ : L2.St} {H : Hp} {Q : VK} (R : V → Hp → Prop) (ha : b = true → ∀ Q' : VK, (∀ v H', R v H' → Q' v H') → ta σ H Q') (hb : b = false → ∀ Q' : VK, (∀ v H', R v H' → Q' v H') → tb σ H Q') (q : ∀ v H', R v H' → Q v H') : if b = true then ta σ H Q else tb σ H Q := by
  cases b with
  | true => exact ha rfl Q q
  | false => exact hb rfl Q q
theorem sum_le {m : Nat} : ∀ {l : List Nat}, (∀ x ∈ l, x ≤ m) → l.sum ≤ l.length * m
  | [], _ => Nat.zero_le _
  | x :: l, h => by
    have := sum_le fun y hy => h y (List.mem_cons_of_mem _ hy)
    have := h x List.mem_cons_self
    rw [List.sum_cons, List.length_cons, Nat.succ_mul]
    omega
def spMov (K : PySem.W.Frag) : Sp := fun vs H Q _ => ∃ (p o tt : Addr) (back : Bool) (us : List V) (ws : List (List Int)) (ord ts : List Nat), vs = [.ref p, .ref o, .ref tt, .bl back] ∧ H p = some (.lst us) ∧ LLs H us ws ∧ (∀ w ∈ ws, w ≠ []) ∧ ws.length ≤ 4 ∧ ws.flatten.length ≤ 24 ∧ H o = some (.lst (iv (nats ord))) ∧ (∀ k ∈ ord, k < ws.length) ∧ ord.length ≤ 4 ∧ H tt = some (.lst (iv (nats ts))) ∧ ts.length = ws.length ∧
  ∀ t l q H' us', Same H H' → SqT K H' t [.ref l, .ref q] → H' l = some (.lst us') → LLs H' us' (usF ws ord ts back) → H' q = some (.lst (iv (nats (plcF ws ord ts back)))) → Q (.ref t) H'
section
variable {P : Program} {w : World} {K : PySem.W.Frag} {mg : Str → Option Value} {base : Heap} {C CR CS : Addr}
theorem ok_Mov {f : Addr} {fd : FuncData} (F : Fun K "_law_moved" "_law_moved" sMov f fd) (N : TN mg)  (G_begins : Cal P w K mg base "_law_begins" 1 ["_law_words"] (spBeg)) : FnOk P w K mg base CX0 2 f fd ["_law_words", "_law_order", "_law_turns", "_law_is_back"] (spMov K) := by
  refine F.ok scMov (fun vs H Q E h => ?_) (fun cdv A outer s H vs Q E hr h => ?_)
  · obtain ⟨p, o, tt, back, us, ws, ord, ts, rfl, _⟩ := h
    rfl
  · obtain ⟨p, o, tt, back, us, ws, ord, ts, rfl, hp, hu, hne, l4, l24, ho, ob, lo4, ht, lts, k⟩ := h
    refine ⟨_, pss_cons (ps_asg (pe_tup (pa_cons (pe_cal G_begins hr (by decide) (by rfl) (pa_cons (pv 0) pa_nil)) (pa_cons (pe_lst pa_nil) (pa_cons (pe_lst pa_nil) pa_nil)))) (pg_tup (n := 3) rfl (pgs_cons (pg_name (i := 4) scMov.nd rfl (Or.inr rfl)) (pgs_cons (pg_name (i := 5) scMov.nd rfl (Or.inl rfl)) (pgs_cons (pg_name (i := 6) scMov.nd rfl (Or.inl rfl)) pgs_nil)))))
      (pss_cons (ps_for PassesOwn.never rfl (pi_list (pv 1)) (pg_name (i := 7) scMov.nd rfl (Or.inr rfl))
      (pss_cons (ps_par (i := 8) (j := 9) (by rfl) scMov.nd rfl rfl (by decide) rfl rfl (pa_cons (pe_callB call_len_seq (by rfl) N.len PySem.boot_len (pa_cons (pe_ix ix_list (pv 0) (pv 7) (fun _ _ => rfl)) pa_nil)) (pa_cons (pe_lst pa_nil) pa_nil)) (by rfl))
      (pss_cons (ps_for PassesOwn.never rfl (pi_range1 (by rfl) N.range (pa_cons (pv 8) pa_nil)) (pg_name (i := 10) scMov.nd rfl (Or.inl rfl))
      (pss_cons (ps_set (i := 11) scMov.nd rfl (Or.inl rfl) (pe_op op_modN (pe_callTy call_int1 (by rfl) N.int (by decide +kernel) (pa_cons (pe_op op_add (pe_ix ix_list (pv 2) (pv 7) (fun _ _ => rfl)) (pe_ifExp (pt_val (pv 3)) (pe_op op_sub (pe_op op_sub (pv 8) pe_int) (pv 10)) (pv 10))) pa_nil)) (pv 8)))
      (pss_one (ps_expr (pe_bm PySem.F.plainAttrs_list PySem.F.slot_list_append PySem.F.type_list_append mt_append (pv 9) (pa_cons (pe_op op_add (pe_ix ix_list (pv 4) (pv 7) (fun _ _ => rfl)) (pv 11)) pa_nil))))))
      (pss_cons (ps_setLc (i := 12) (own := [("_law_place", 13)]) (g := gName 13) (tt := tYes) rfl scMov.nd rfl rfl (sw_true rfl rfl rfl (by decide +kernel)) (pi_list (pv 9)) (blkOk_by (N := nMov) (sc := defScope sMov) (by decide +kernel)) (fun _ _ _ _ _ => (pg_name (i := 13) scMov.nd rfl (Or.inl rfl))) (fun _ _ _ _ _ => pts_nil) (fun _ _ _ _ _ => (pe_ix (ixl (K := K) rfl) (pe_ix (ixl (K := K) rfl) (pv 0) (pv 7) (fun _ _ => rfl)) (pe_op op_sub (pv 13) (pe_ix (ixl (K := K) rfl) (pv 4) (pv 7) (fun _ _ => rfl))) (fun _ _ => rfl))))
      (pss_cons (ps_expr (pe_bm PySem.F.plainAttrs_list PySem.F.slot_list_append PySem.F.type_list_append mt_append (pv 5) (pa_cons (pe_ifExp (pt_val (pv 3)) (pe_lc (own := [("_law_letter", 14)]) (g := gName 14) (tt := tYes) rfl scMov.nd (pi_list (pv 12)) (blkOk_by (N := nMov) (sc := defScope sMov) (by decide +kernel)) (fun _ _ _ _ _ => (pg_name (i := 14) scMov.nd rfl (Or.inl rfl))) (fun _ _ _ _ _ => pts_nil) (fun _ _ _ _ _ => (pe_un un_neg (pv 14)))) (pv 12)) pa_nil)))
      (pss_one (ps_set (i := 6) scMov.nd rfl (Or.inl rfl) (pe_op op_cat (pv 6) (pv 9)))))))))
      (pss_one (ps_ret (pe_tupB (pa_cons (pv 5) (pa_cons (pv 6) pa_nil)))))), ?_⟩
    have lu := hu.length
    refine seqN fun N1 hN1 => STP.asg ?_
    refine ⟨_, rfl, p, us, ws, rfl, hp, hu, by omega, by omega, fun bA H1 s1 gb1 => ?_⟩
    refine ⟨Nat.zero_le _, fun lf hlf => ?_⟩
    have s2 := same_upd (o := .lst []) hlf
    have gf2 : L2.upd H1 lf (.lst []) lf = some (.lst []) := upd_same
    refine ⟨Nat.zero_le _, fun lp hlp => ?_⟩
    have s3 := same_upd (o := .lst []) hlp
    refine ⟨by show 3 ≤ sizeLine; decide, fun t0 ht0 => ?_⟩
    have s4 := same_upd (o := .tup [.ref bA, .ref lf, .ref lp]) ht0
    refine ⟨t0, _, rfl, SqT.of upd_same, rfl, _, _, rfl, _, _, rfl, _, _, rfl, rfl, ?_⟩
    refine hN1 _ _ ?_
    have lf0 : H lf = none := s1.free hlf
    have nlp : lp ≠ lf := (ne_of_none gf2 hlp).symm
    have sA := (s1.trans s2).trans (s3.trans s4)
    have gb4 := s4 _ _ (s3 _ _ (s2 _ _ gb1))
    have gf4 := s4 _ _ (s3 _ _ gf2)
    have gp4 := s4 _ _ (show L2.upd (L2.upd H1 lf (.lst [])) lp (.lst []) lp = some (.lst []) from upd_same)
    generalize L2.upd (L2.upd (L2.upd H1 lf (.lst [])) lp (.lst [])) t0 (.tup [.ref bA, .ref lf, .ref lp]) = H4 at sA gb4 gf4 gp4 ⊢
    have s1f : ∀ b, b = lf → H1 b = none := fun b e => e ▸ hlf
    clear s2 s3 s4 gf2 ht0 hlp hlf
    refine seqN fun N2 hN2 => ?_
    refine ⟨_, rfl, o, rfl, ⟨_, SqL.of (sA _ _ ho)⟩, for_list (K := K) (a := o) (xs := iv (nats ord)) (fun i σ H' => ∃ (lp : Addr) (v7 v8 v9 v10 v11 v12 : Option V) (us' : List V), σ = [some (.ref p), some (.ref o), some (.ref tt), some (.bl back), some (.ref bA), some (.ref lf), some (.ref lp), v7, v8, v9, v10, v11, v12, none, none] ∧ Same H H' ∧ H' bA = some (.lst (iv (nats (bgsF ws)))) ∧ lp ≠ lf ∧ H' lf = some (.lst us') ∧ us'.length = i ∧ OffL H' lf us' (usF ws (ord.take i) ts back) ∧ H' lp = some (.lst (iv (nats (plcF ws (ord.take i) ts back)))))
      ⟨lp, none, none, none, none, none, none, [], rfl, sA, gb4, nlp, gf4, rfl, .nil, gp4⟩ (fun i σ H' _ hI_ => by obtain ⟨_, _, _, _, _, _, _, _, _, s, _⟩ := hI_; exact SqL.of (s _ _ ho)) ?_ ?_⟩
    · rintro i x σ H5 hi ⟨lp, v7, v8, v9, v10, v11, v12, us', rfl, s5, gb5, nlp, gf5, lus, o5, gp5⟩
      obtain ⟨Kn, hKn, rfl⟩ : ∃ Kn, ord[i]? = some Kn ∧ x = V.int ((Kn : Nat) : Int) := by
        unfold nats at hi
        rw [List.getElem?_map, List.getElem?_map] at hi
        cases e : ord[i]? with
        | none => rw [e] at hi; cases hi
        | some z => rw [e] at hi; exact ⟨z, rfl, (Option.some.inj hi).symm⟩
      have iord := List.getElem?_eq_some_iff.mp hKn
      have hK := ob Kn (List.mem_of_getElem? hKn)
      have hKu : Kn < us.length := by omega
      obtain ⟨c, hc, q, eq, gq⟩ := hu.at (List.getElem?_eq_getElem hKu)
      have huK : us[Kn]? = some (.ref q) := by rw [List.getElem?_eq_getElem hKu, eq]
      have cne : 0 < c.length := List.length_pos_iff.mpr (hne c (List.mem_of_getElem? hc))
      have lc24 : c.length ≤ 24 := Nat.le_trans (word_le (List.mem_of_getElem? hc)) l24
      have gdK : ws.getD Kn [] = c := by rw [List.getD_eq_getElem?_getD, hc]; rfl
      have row_at : ∀ a, a < c.length → (rowF ws ts back Kn)[a]? = some (bg ws Kn + (ts.getD Kn 0 + if back = true then c.length - 1 - a else a) % c.length) := fun a ha => by
        unfold rowF
        rw [gdK, List.getElem?_map, List.getElem?_range ha]
        rfl
      have lrow : (rowF ws ts back Kn).length = c.length := by unfold rowF; rw [gdK, List.length_map, List.length_range]
      have bgat : (iv (nats (bgsF ws)))[Kn]? = some (.int ((bg ws Kn : Nat) : Int)) := by
        unfold bgsF nats
        rw [List.getElem?_map, List.getElem?_map, List.getElem?_map, List.getElem?_range hK]
        rfl
      have tat : (iv (nats ts))[Kn]? = some (.int ((ts.getD Kn 0 : Nat) : Int)) := by
        have l : Kn < ts.length := by omega
        unfold nats
        rw [List.getElem?_map, List.getElem?_map, List.getElem?_eq_getElem l, List.getD_eq_getElem?_getD, List.getElem?_eq_getElem l]
        rfl
      refine seqN fun N3 hN3 => ?_
      refine ⟨_, rfl, _, rfl, p, us, _, .ref q, rfl, rfl, SqL.of (s5 _ _ hp), atI_nat huK, q, iv c, rfl, .inl (SqL.of (s5 _ _ gq)), Nat.zero_le _, fun mn hmn => ⟨_, _, rfl, ?_⟩⟩
      have s6 := same_upd (o := .lst []) hmn
      have gm6 : L2.upd H5 mn (.lst []) mn = some (.lst []) := upd_same
      obtain ⟨H6, e6⟩ : ∃ H6, H6 = L2.upd H5 mn (.lst []) := ⟨_, rfl⟩
      rw [← e6] at s6 gm6 ⊢
      clear e6
      refine hN3 _ _ ?_
      try dsimp only
      rw [show (iv c).length = c.length from List.length_map ..]
      refine seqN fun N4 hN4 => ?_
      refine ⟨_, rfl, (c.length : Int), rfl, by omega, by omega, ?_⟩
      rw [Int.toNat_natCast]
      refine for_range (lo := 0) (n := c.length) (fun a σ H' => (∃ v10 v11 : Option V, σ = [some (.ref p), some (.ref o), some (.ref tt), some (.bl back), some (.ref bA), some (.ref lf), some (.ref lp), some (.int ((Kn : Nat) : Int)), some (.int ((c.length : Nat) : Int)), some (.ref mn), v10, v11, v12, none, none]) ∧ Same H5 H' ∧ H' mn = some (.lst (iv (nats ((rowF ws ts back Kn).take a))))) ⟨⟨v10, v11, rfl⟩, s6, gm6⟩ ?_ ?_
      · rintro a σ H7 ha ⟨⟨v10, v11, rfl⟩, s7, gm7⟩
        have s57 := s5.trans s7
        refine seqN fun N5 hN5 => STP.asg (STP.op (STP.cb (STP.cons (STP.op ?_))))
        refine ⟨_, rfl, _, rfl, tt, _, _, _, rfl, rfl, SqL.of (s57 _ _ ht), atI_nat tat, ?_⟩
        refine STP.tif ?_
        refine ⟨_, rfl, back, rfl, if_val (v := .int (if back = true then (c.length : Int) - 1 - (0 + (a : Int)) else 0 + (a : Int))) (fun hb Q' q => ⟨_, rfl, _, _, rfl, rfl, _, rfl, _, _, rfl, rfl, by rw [if_pos hb] at q; exact q⟩) (fun hb Q' q => ⟨_, rfl, by rw [if_neg (by rw [hb]; exact Bool.false_ne_true)] at q; exact q⟩) ?_⟩
        refine ⟨_, _, rfl, rfl, .inl ⟨_, rfl, _, rfl, _, _, rfl, rfl, by omega, ?_⟩⟩
        refine at_set (hN5 _ _ ?_)
        try dsimp only
        have espot : (((ts.getD Kn 0 : Nat) : Int) + (if back = true then (c.length : Int) - 1 - (0 + (a : Int)) else 0 + (a : Int))).fmod (c.length : Int) = (((ts.getD Kn 0 + if back = true then c.length - 1 - a else a) % c.length : Nat) : Int) := by
          have e : ((ts.getD Kn 0 : Nat) : Int) + (if back = true then (c.length : Int) - 1 - (0 + (a : Int)) else 0 + (a : Int)) = ((ts.getD Kn 0 + if back = true then c.length - 1 - a else a : Nat) : Int) := by
            split <;> omega
          rw [e, Int.fmod_eq_emod_of_nonneg _ (by omega)]
          exact (Int.natCast_emod _ _).symm
        rw [espot]
        refine ⟨_, rfl, .inl ⟨rfl, _, SqL.of gm7⟩, _, rfl, _, rfl, bA, _, _, _, rfl, rfl, SqL.of (s7 _ _ gb5), atI_nat bgat, _, rfl, _, _, rfl, rfl, mn, _, _, rfl, rfl, gm7, Evl.sz_lt (by unfold nats; rw [List.length_map, List.length_map, List.length_take]; omega), ?_⟩
        refine ⟨⟨some (.int (0 + (a : Int))), some (.int (((ts.getD Kn 0 + if back = true then c.length - 1 - a else a) % c.length : Nat) : Int)), rfl⟩, fun b o e => ?_, ?_⟩
        · rw [upd_ne (ne_of_none e hmn)]
          exact s7 _ _ e
        · rw [upd_same]
          have la : a < (rowF ws ts back Kn).length := by omega
          have ra := row_at a ha
          rw [List.getElem?_eq_getElem la] at ra
          rw [List.take_succ_eq_append_getElem la, Option.some.inj ra]
          simp [iv, nats]
      · rintro σ H7 ⟨⟨v10, v11, rfl⟩, s7, gm7⟩
        rw [show (rowF ws ts back Kn).take c.length = rowF ws ts back Kn by rw [← lrow]; exact List.take_length] at gm7
        have s57 := s5.trans s7
        have gb7 := s7 _ _ gb5
        have gf7 := s7 _ _ gf5
        have gp7 := s7 _ _ gp5
        have o7 := o5.same s7
        have nmf : mn ≠ lf := (ne_of_none gf5 hmn).symm
        refine hN4 _ _ ?_
        try dsimp only
        refine seqN fun N6 hN6 => STP.asg (STP.lc ?_)
        refine ⟨_, rfl, mn, rfl, ⟨_, SqL.of gm7⟩, ?_⟩
        have lrn : (iv (nats (rowF ws ts back Kn))).length = c.length := by unfold nats; rw [List.length_map, List.length_map, lrow]
        refine lcM (walk_list (K := K) (a := mn) (xs := iv (nats (rowF ws ts back Kn)))) ((rowF ws ts back Kn).map fun q => ws.flatten.getD q 0) (fun _ _ v b => v = V.int b) (fun _ _ _ _ _ h _ => h) (fun _ _ _ _ _ _ _ h => h) (by omega) (by rw [lrn, List.length_map, lrow]) (fun H s => s.seq (SqL.of gm7)) ?_ (fun _ _ _ _ _ => gName_mono) ?_
        · intro j x b hx hb D H8 hD _ s8 Qy ky
          have hj : j < c.length := by
            have := (List.getElem?_eq_some_iff.mp hx).1
            omega
          have ra := row_at j hj
          unfold nats at hx
          rw [List.getElem?_map, List.getElem?_map, ra] at hx
          rw [List.getElem?_map, ra] at hb
          obtain rfl := Option.some.inj hx
          obtain rfl := Option.some.inj hb
          have s58 := s57.trans s8
          have hj2 : (ts.getD Kn 0 + if back = true then c.length - 1 - j else j) % c.length < c.length := Nat.mod_lt _ cne
          have ev : ws.flatten.getD (bg ws Kn + (ts.getD Kn 0 + if back = true then c.length - 1 - j else j) % c.length) 0 = c[(ts.getD Kn 0 + if back = true then c.length - 1 - j else j) % c.length] := getD_at (by rw [flat_at hc hj2, List.getElem?_eq_getElem hj2])
          refine ⟨rfl, ?_⟩
          refine ⟨_, rfl, _, rfl, p, us, _, .ref q, rfl, rfl, SqL.of (s58 _ _ hp), atI_nat huK, _, rfl, _, rfl, _, rfl, bA, _, _, _, rfl, rfl, SqL.of (s8 _ _ gb7), atI_nat bgat, _, _, rfl, rfl, ?_⟩
          refine ⟨q, iv c, _, .int c[(ts.getD Kn 0 + if back = true then c.length - 1 - j else j) % c.length], rfl, rfl, SqL.of (s58 _ _ gq), ?_, ky _ _ (Same.refl _) (congrArg V.int ev.symm)⟩
          rw [show (((bg ws Kn + (ts.getD Kn 0 + if back = true then c.length - 1 - j else j) % c.length : Nat) : Int) - ((bg ws Kn : Nat) : Int)) = (((ts.getD Kn 0 + if back = true then c.length - 1 - j else j) % c.length : Nat) : Int) by omega]
          exact atI_nat (iv_get (List.getElem?_eq_getElem hj2))
        intro D H8 us8 hD s8 g8 r8
        have e8 : us8 = iv ((rowF ws ts back Kn).map fun q => ws.flatten.getD q 0) := all_ints r8
        rw [e8] at g8
        have nDf : D ≠ lf := (ne_of_none gf7 hD).symm
        refine STP.name (hN6 _ _ ?_)
        try dsimp only
        refine seqN fun N7 hN7 => STP.expr (STP.bm ?_)
        refine ⟨_, rfl, .inl ⟨rfl, _, SqL.of (s8 _ _ gf7)⟩, ?_⟩
        refine STP.cons (STP.tif ?_)
        refine ⟨_, rfl, back, rfl, if_valH (fun v H' => ∃ D', v = V.ref D' ∧ Same H8 H' ∧ D' ≠ lf ∧ H' D' = some (.lst (iv ((rowF ws ts back Kn).map fun q => sg back (ws.flatten.getD q 0))))) (fun hb Q' q => STP.lc ⟨_, rfl, D, rfl, ⟨_, SqL.of g8⟩, ?_⟩) (fun hb Q' q => ⟨_, rfl, q _ _ ⟨D, rfl, Same.refl _, nDf, by
          rw [g8, hb]
          rfl⟩⟩) ?_⟩
        · refine lcM (walk_list (K := K) (a := D) (xs := iv ((rowF ws ts back Kn).map fun q => ws.flatten.getD q 0))) ((rowF ws ts back Kn).map fun q => sg back (ws.flatten.getD q 0)) (fun _ _ v b => v = V.int b) (fun _ _ _ _ _ h _ => h) (fun _ _ _ _ _ _ _ h => h) (by rw [List.length_map, List.length_map, lrow]; omega) (by rw [List.length_map, List.length_map, List.length_map]) (fun H s => s.seq (SqL.of g8)) ?_ (fun _ _ _ _ _ => gName_mono) ?_
          · intro j x b hx hb2 D2 H9 hD2 _ s9 Qy ky
            rw [List.getElem?_map, List.getElem?_map] at hx
            rw [List.getElem?_map] at hb2
            cases ej : (rowF ws ts back Kn)[j]? with
            | none => rw [ej] at hx; cases hx
            | some y =>
              rw [ej] at hx hb2
              obtain rfl := Option.some.inj hx
              obtain rfl := Option.some.inj hb2
              exact ⟨rfl, _, rfl, _, rfl, ky _ _ (Same.refl _) (by rw [hb]; rfl)⟩
          intro D2 H9 us9 hD2 s9 g9 r9
          have e9 : us9 = iv ((rowF ws ts back Kn).map fun q => sg back (ws.flatten.getD q 0)) := all_ints r9
          rw [e9] at g9
          exact q _ _ ⟨D2, rfl, s9, (ne_of_none (s8 _ _ gf7) hD2).symm, g9⟩
        rintro v H9 ⟨D', rfl, s9, nD', g9⟩
        have s79 := s8.trans s9
        have gf9 := s79 _ _ gf7
        have gp9 := s79 _ _ gp7
        have gm9 := s79 _ _ gm7
        have gb9 := s79 _ _ gb7
        have sH9 := s57.trans s79
        have o9 := o7.same s79
        refine ⟨lf, us', _, rfl, rfl, gf9, Evl.sz_lt (by have q1 := iord.1; rw [lus]; omega), ?_⟩
        have gfA : L2.upd H9 lf (.lst (us' ++ [.ref D'])) lf = some (.lst (us' ++ [.ref D'])) := upd_same
        have gpA : L2.upd H9 lf (.lst (us' ++ [.ref D'])) lp = some (.lst (iv (nats (plcF ws (ord.take i) ts back)))) := by rw [upd_ne nlp]; exact gp9
        have gmA : L2.upd H9 lf (.lst (us' ++ [.ref D'])) mn = some (.lst (iv (nats (rowF ws ts back Kn)))) := by rw [upd_ne nmf]; exact gm9
        have gbA : L2.upd H9 lf (.lst (us' ++ [.ref D'])) bA = some (.lst (iv (nats (bgsF ws)))) := by rw [upd_ne (ne_of_none gb1 (s1f lf rfl))]; exact gb9
        have oA : OffL (L2.upd H9 lf (.lst (us' ++ [.ref D']))) lf (us' ++ [.ref D']) (usF ws (ord.take (i + 1)) ts back) := by
          unfold usF
          rw [List.take_succ_eq_append_getElem iord.1, List.map_append, iord.2]
          exact All2.app o9.put (.cons ⟨D', rfl, nD', by rw [upd_ne nD']; exact g9⟩ .nil)
        have sHA : Same H (L2.upd H9 lf (.lst (us' ++ [.ref D']))) := fun b o e => by
          rw [upd_ne (ne_of_none e lf0)]
          exact sH9 _ _ e
        generalize L2.upd H9 lf (.lst (us' ++ [.ref D'])) = HA at gfA gpA gmA gbA oA sHA ⊢
        refine hN7 _ _ ?_
        try dsimp only
        refine STP.asg ?_
        have lpl : (plcF ws (ord.take i) ts back).length ≤ 96 := by
          unfold plcF
          rw [List.length_flatten, List.map_map]
          refine Nat.le_trans (sum_le (m := 24) fun x hx => ?_) ?_
          · obtain ⟨y, hy, rfl⟩ := List.mem_map.mp hx
            show (rowF ws ts back y).length ≤ 24
            unfold rowF
            rw [List.length_map, List.length_range, List.getD_eq_getElem?_getD]
            cases ey : ws[y]? with
            | none => exact Nat.zero_le _
            | some d => exact Nat.le_trans (word_le (List.mem_of_getElem? ey)) l24
          · rw [List.length_map, List.length_take]
            omega
        refine ⟨_, rfl, _, rfl, lp, mn, _, _, rfl, rfl, gpA, gmA, Evl.sz_of (by rw [lrn]; unfold nats; rw [List.length_map, List.length_map]; omega), fun p9 hp9 => ?_⟩
        have sp := same_upd (o := .lst (iv (nats (plcF ws (ord.take i) ts back)) ++ iv (nats (rowF ws ts back Kn)))) hp9
        refine at_set ?_
        refine ⟨p9, _, _, _, _, _, _, _, rfl, sHA.trans sp, sp _ _ gbA, (ne_of_none gfA hp9).symm, sp _ _ gfA, by rw [List.length_append, lus]; rfl, oA.same sp, ?_⟩
        rw [upd_same]
        unfold plcF
        rw [List.take_succ_eq_append_getElem iord.1, List.map_append, List.flatten_append, iord.2]
        simp [iv, nats]
    · rintro σ H5 ⟨lp, v7, v8, v9, v10, v11, v12, us', rfl, s5, gb5, nlp, gf5, lus, o5, gp5⟩
      rw [show ord.take (iv (nats ord)).length = ord by unfold nats; rw [List.length_map, List.length_map]; exact List.take_length] at o5 gp5
      refine hN2 _ _ ?_
      refine ⟨_, rfl, _, rfl, by show 2 ≤ sizeLine; decide, fun t5 H6 s6 B6 => ?_⟩
      exact k t5 lf lp H6 us' (s5.trans s6) B6.sq (s6 _ _ gf5) (o5.same s6).lls (s6 _ _ gp5)
end
end W16
set_option Elab.async false
set_option linter.all false
set_option maxRecDepth 100000
set_option maxHeartbeats 1000000
/-! sorted of a tuple of ints. -/
namespace SrtU
open PySem PySem.Spec PyProof.Rows L2
section
variable {prog : Program} {w : World} {A : Around} {E : Value → Shared → Prop} {s : Shared}
/-- a tuple's items in a new list -/
theorem tup_collected {t : Addr} {o : Obj} {vs : List Value} {n : Nat} {Q : List Value → Shared → Prop} (at_ : s.heap.get? t = some o) (cl : o.cls = .type "tuple") (da : o.data = .seq vs.toArray n) (fits : vs.toArray.size ≤ sizeLine)
    (q : Q vs { s with heap := (s.heap.push (seqObj "list" #[] 0)).update s.heap.objs.size (Obj.mapSeq fun a => a ++ vs.toArray) }) : wpAny (model prog w) A (collect (.ref t)) Q E s := by
  unfold collect
  apply wpAny_bind
  apply wpAny_runValue
  apply codeAny_builtin entry_proto_collect'
  show wpAny _ _ (do again (.builtin "list.__iadd__" ⟨[← newList [], .ref t], []⟩)) _ _ s
  apply wpAny_bind
  refine wpAny_newList ?_ (Nat.zero_le _)
  apply wpAny_pure
  refine ⟨Code.quiet_builtin _ (by decide +kernel), codeAny_builtin entry_list_iadd' ?_⟩
  show wpAny _ _ (Builtin.List.listExtendWith (.ref s.heap.objs.size) (.ref t) (.ref s.heap.objs.size)) _ _ { s with heap := s.heap.push (seqObj "list" #[] 0) }
  unfold Builtin.List.listExtendWith
  have old : (s.heap.push (seqObj "list" #[] 0)).get? t = some o := Heap.get?_push_of_some _ at_
  have new : (s.heap.push (seqObj "list" #[] 0)).get? s.heap.objs.size = some (seqObj "list" #[] 0) := Heap.get?_push_size _ rfl
  apply wpAny_bind
  refine wpAny_typeOf (T := "tuple") ⟨o, old, cl⟩ ?_
  rw [if_pos (by simp)]
  apply wpAny_bind
  refine listItems_at old da ?_
  apply wpAny_bind
  refine listItems_at new rfl ?_
  rw [if_neg (by simp)]
  apply wpAny_bind
  refine listUpdate_at new rfl ?_ (Nat.zero_le _) (by show (#[] ++ vs.toArray).size ≤ sizeLine + 1; rw [Array.size_append, Array.size_empty, Nat.zero_add]; exact Nat.le_succ_of_le fits)
  apply wpAny_pure
  show wpAny (model prog w) A (load s.heap.objs.size >>= fun o => match o.data with
      | .seq xs _ => pure xs.toList
      | _ => unsupported "internal:collect") Q E _
  apply wpAny_bind
  refine wpAny_load (get?_update_seq new _) ?_
  show wpAny _ _ (pure ((#[] : Array Value) ++ vs.toArray).toList) Q E _
  apply wpAny_pure
  rw [Array.empty_append, List.toList_toArray]
  exact q
theorem tup_sorted {t : Addr} {o : Obj} {vs : List Value} {ns : List Int} {n : Nat} {Q : Value → Shared → Prop} (at_ : s.heap.get? t = some o) (cl : o.cls = .type "tuple") (da : o.data = .seq vs.toArray n) (is_ : IntsAre vs ns) (few : vs.length < 64)
    (told : ∀ (g : Heap) (d : Addr) (out : Array Value) (ms : List Int) (e : Nat), IntsAre out.toList ms → ms.Perm ns → ms.Pairwise (· ≤ ·) → (∀ b x, s.heap.get? b = some x → g.get? b = some x) → s.heap.objs.size ≤ d → g.get? d = some (seqObj "list" out e) → Q (.ref d) { s with heap := g }) :
    wpAny (model prog w) A (call (.builtin "sorted") [.ref t]) Q E s := by
  have fits : vs.toArray.size ≤ sizeLine := by rw [List.size_toArray, sizeLine_eq]; omega
  apply Calls.call_function_entry kind_sorted plain_sorted entry_sorted (args_sorted1 _)
  unfold Builtin.«sorted»
  apply wpAny_bind (m := checkCount "sorted" 1 1 _)
  apply wpAny_pure
  apply wpAny_bind
  refine tup_collected at_ cl da fits ?_
  obtain ⟨g, eg⟩ : ∃ g, g = (s.heap.push (seqObj "list" #[] 0)).update s.heap.objs.size (Obj.mapSeq fun a => a ++ vs.toArray) := ⟨_, rfl⟩
  have sz : g.objs.size = s.heap.objs.size + 1 := by rw [eg, Heap.size_update, size_push']
  have keep : ∀ b x, s.heap.get? b = some x → g.get? b = some x := fun b x q => by
    have l := Heap.lt_size q
    rw [eg, Heap.get?_update_ne _ _ _ _ (Nat.ne_of_lt l), Heap.get?_push_ne _ _ _ (Nat.ne_of_lt l)]
    exact q
  have lt : ∀ b x, s.heap.get? b = some x → b < g.objs.size := fun b x q => Heap.lt_size (keep b x q)
  have grown : s.heap.objs.size ≤ g.objs.size := by omega
  rw [← eg]
  clear eg
  apply wpAny_bind
  refine wpAny_newList ?_ (by rw [← List.size_toArray]; exact fits)
  have at2 : (g.push (seqObj "list" vs.toArray 0)).get? g.objs.size = some (seqObj "list" vs.toArray 0) := Heap.get?_push_size _ rfl
  apply wpAny_bind
  apply wpAny_holding
  refine wpAny_call_entry slot_list_sort ⟨_, at2, rfl⟩ entry_list_sort ?_ (args_list_sort _)
  refine list_sort_tree (s := { s with heap := g.push (seqObj "list" vs.toArray 0) }) at2 is_ few fun out ms a1 a2 a3 => ⟨_, rfl, ?_⟩
  obtain ⟨e, he⟩ := sortedHeap_at (out := out) at2
  refine wpAny_pure ⟨_, rfl, told _ g.objs.size out ms e a1 a2 a3 (fun b x q => ?_) grown he⟩
  have l := lt b x q
  show (sortedHeap (g.push (seqObj "list" vs.toArray 0)) g.objs.size vs out).get? b = some x
  rw [sortedHeap_old (Nat.ne_of_lt l) (by rw [size_push']; exact Nat.lt_succ_of_lt l), Heap.get?_push_ne _ _ _ (Nat.ne_of_lt l)]
  exact keep b x q
end
def rSortedU (K : PySem.W.Frag) : List V → Hp → VK → Prop := fun vs H Q => ∃ (a : Addr) (ns : List Int), vs = [V.ref a] ∧ SqT K H a (ns.map V.int) ∧ ns.length < 64 ∧
  ∀ (ms : List Int) (p : Addr), ms.Perm ns → ms.Pairwise (· ≤ ·) → H p = none → Q (.ref p) (upd H p (.lst (ms.map V.int)))
theorem cr_sortedU {X : Cx} : CallR X (.builtin "sorted") (rSortedU X.K) := by
  intro pins s σ H vs us Q I r h
  obtain ⟨a, ns, rfl, ht, few, q⟩ := h
  obtain ⟨its, rv, ⟨o, ho, hc, hd⟩, _⟩ := I.tuple ht
  obtain ⟨n, hd⟩ : ∃ n, o.data = .seq its.toArray n := hd
  obtain ⟨u, rfl, ru⟩ := vals1 r
  obtain rfl : u = Value.ref a := ru
  have is_ := rv.ints
  refine tup_sorted ho hc hd is_ (by rw [is_.length]; exact few) fun g d out ms e a1 a2 a3 kp hd2 hn => ?_
  have small : (ms.map V.int).length ≤ sizeLine := by rw [List.length_map, a2.length_eq, sizeLine_eq]; omega
  exact ⟨.ref d, upd H d (.lst (ms.map V.int)), I.laid (t' := s.toks) kp hd2 ⟨small, out.toList, e, vals_of_ints a1, hn⟩, rfl, q ms d a2 a3 (I.hok.fresh hd2)⟩
theorem cr_sortedUK {X : Cx} {K : PySem.W.Frag} (h : X.K = K) : CallR X (.builtin "sorted") (rSortedU K) := h ▸ cr_sortedU
end SrtU
set_option Elab.async false
set_option linter.all false
set_option maxRecDepth 100000
set_option maxHeartbeats 1000000
namespace W16
open PySem L2 PySem.Spec PyProof.Rows WR WB WE WS SrtL SrtU
/-! ### a sewing carried along -/
section
variable {X : Cx} {C : Addr} {o e : Expr} {es : List Expr} {ta : TE} {t : TA} {m : Str} {ps : List Str} {sp : Sp} {apos pos : Pos} {j : Nat}
theorem pe_w1K {K : PySem.W.Frag} {pl : Sem Bool} (hK : X.K = K) (M : MethW X.prog X.w K X.mg X.base C m ps sp) (c : Cls K C) (hr : Room j X.A) (hj : 6 ≤ j) (he : PE X o ta) (ha : PA X (e :: es) t)
    (hst : starEach (e :: es) X.env = (false, eval e X.env) :: starEach es X.env := by rfl) (hpl : (backTo pos (starEach es X.env)).any (·.1) = false := by rfl)
    (ht : eval (.Call (.Attribute o m apos) (e :: es) [] pos) X.env = (do
      let ov ← eval o X.env
      standAt apos.atName
      let (f, first) ← holding [ov] (getMethod ov m pl)
      callWith pos f first (backTo pos (starEach (e :: es) X.env)) (backToKw pos (keywordEach [] X.env))) := by rfl) :
    PE X (.Call (.Attribute o m apos) (e :: es) [] pos) (tMeth C m sp [] E0 ta t) := by
  subst hK
  exact pe_w1 M c hr hj he ha hst hpl ht
end
theorem mt_indexK {X : Cx} {K : PySem.W.Frag} (h : X.K = K) : MtR X "list.index" (rIndex K) := h ▸ mt_index
noncomputable def tmF (n : Nat) (e : Nat → Nat) (mt : List Int) : List Nat := (List.range n).map fun i => invB n e (mtn mt (e i))
theorem tmF_len (n : Nat) (e : Nat → Nat) (mt : List Int) : (nats (tmF n e mt)).length = n := by unfold nats tmF; rw [List.length_map, List.length_map, List.length_range]
theorem tmF_ok {n : Nat} {e : Nat → Nat} (he : Cy.Bij n e) {mt : List Int} (h : MatesOk n mt) : TM n e mt (nats (tmF n e mt)) := by
  refine ⟨tmF_len n e mt, fun i hi => ?_⟩
  obtain ⟨a1, a2⟩ := invB_ok he (mtn_at h (he.lt i hi)).1
  refine ⟨_, a1, ?_, a2⟩
  rw [nats_at]
  unfold tmF
  rw [List.getElem?_map, List.getElem?_range hi]
  rfl
theorem eqV_int (x y : Int) : eqV (.int x) (.int y) = (x == y) := rfl
def lld (ws : List (List Int)) : PyData := .list (ws.map fun w => .list (w.map .int))
theorem lay_ints' : ∀ w : List Int, PyData.canLayAll0 (w.map .int) = true ∧ PyData.depthAll (w.map .int) = 0
  | [] => ⟨rfl, rfl⟩
  | x :: w => by
    obtain ⟨h1, h2⟩ := lay_ints' w
    simp [PyData.canLayAll0, PyData.canLay0, PyData.depthAll, PyData.depth, h1, h2]
theorem lay_lld : ∀ ws : List (List Int), PyData.canLayAll0 (ws.map fun w => .list (w.map .int)) = true ∧ PyData.depthAll (ws.map fun w => .list (w.map .int)) ≤ 1
  | [] => ⟨rfl, by simp [PyData.depthAll]⟩
  | w :: r => by
    obtain ⟨h1, h2⟩ := lay_lld r
    obtain ⟨i1, i2⟩ := lay_ints' w
    simp [PyData.canLayAll0, PyData.canLay0, PyData.depthAll, PyData.depth, h1, i1, i2] at h2 ⊢
    omega
theorem lld_shaped (ws : List (List Int)) : SeqAt.shaped (lld ws) = true := by
  obtain ⟨h1, h2⟩ := lay_lld ws
  simp [lld, SeqAt.shaped, PyData.canLay0, PyData.depth, h1]
  omega
theorem lld_eqv (ws : List (List Int)) : PyData.eqv (lld ws) (lld ws) = true := by
  obtain ⟨h1, _⟩ := lay_lld ws
  exact SeqAt.eqv_refl _ (by simpa only [lld, PyData.canLay0] using h1)
theorem dp_lld {K : PySem.W.Frag} {H : Hp} {q : Addr} {ys : List V} {ms : List (List Int)} (g : H q = some (.lst ys)) (h : Paired (fun y m => ∃ t, y = V.ref t ∧ SqL K H t (iv m)) ys ms) : Dp K H (.ref q) (lld ms) := by
  refine .lst (SqL.of g) ?_
  clear g
  induction h with
  | nil => exact .nil
  | cons h _ ih =>
    obtain ⟨t, rfl, ht⟩ := h
    exact .cons (.lst ht (dp_ints _)) ih
theorem ints_eqv (ns : List Int) : PyData.eqv (.list (ns.map PyData.int)) (.list (ns.map PyData.int)) = true := SeqAt.eqv_refl _ (by
  have := (lay_ints' ns).1
  simpa only [PyData.canLay0] using this)
theorem asc_int {l m : List Int} (h1 : l.Pairwise (· ≤ ·)) (h2 : m.Pairwise (· ≤ ·)) (p : l.Perm m) : l = m := Pt.asc_eq (fun a b h1 h2 => Int.le_antisymm h1 h2) h1 h2 p
theorem srt_lots {P : List (List Nat)} {L : List (List Nat)} (p : L.Perm P) (asc : P.Pairwise fun c d => nats c ≤ nats d) : srtLL (L.map nats) = P.map nats :=
  Pt.asc_eq (fun a b h1 h2 => List.le_antisymm h1 h2) (srtLL_asc _) (List.pairwise_map.mpr asc) ((srtLL_perm _).trans (p.map _))
theorem sum_ge : ∀ {P : List (List Nat)}, (∀ c ∈ P, c ≠ []) → P.length ≤ P.flatten.length
  | [], _ => Nat.zero_le _
  | c :: P, h => by
    have := sum_ge fun d hd => h d (List.mem_cons_of_mem _ hd)
    have := List.length_pos_iff.mpr (h c List.mem_cons_self)
    rw [List.flatten_cons, List.length_append, List.length_cons]
    omega
theorem part_le {c : List Nat} : ∀ {P : List (List Nat)}, c ∈ P → c.length ≤ P.flatten.length
  | [], h => nomatch h
  | d :: P, h => by
    rw [List.flatten_cons, List.length_append]
    rcases List.mem_cons.mp h with rfl | h
    · omega
    · have := part_le h
      omega
theorem part_len {n : Nat} {R : Nat → Nat → Prop} {P : List (List Nat)} (h : Pt.Part n R P) : P.length ≤ n ∧ ∀ c ∈ P, c.length ≤ n := by
  have e : P.flatten.length = n := by
    rw [(Pt.perm_of h.nd List.nodup_range fun a => by rw [h.cov, List.mem_range]).length_eq, List.length_range]
  exact ⟨by rw [← e]; exact sum_ge h.ne, fun c hc => by rw [← e]; exact part_le hc⟩
theorem rims_no2 {K : PySem.W.Frag} {C CR : Addr} {H : Hp} {p : Addr} {xs : List Addr} {ws : List (List Int)} (h : RimsAt K C CR H p xs ws) : ∃ dx fs, H p = some (.ins CR dx fs) ∧ fs.lookup ("rim_of" : Str) = none := by
  obtain ⟨d2, tw, tl, th, tn, r1, _⟩ := h
  exact ⟨d2, _, r1, rf_rimOf⟩
/-- lists, each at an address of its own -/
def OwnL (H : Hp) (l : Addr) (us : List V) (ms : List (List Nat)) : Prop := All2 (fun v m => ∃ q, v = V.ref q ∧ q ≠ l ∧ H q = some (.lst (iv (nats m)))) us ms
theorem OwnL.same {H H' : Hp} {l : Addr} {us : List V} {ms : List (List Nat)} (h : OwnL H l us ms) (s : Same H H') : OwnL H' l us ms := h.imp fun _ _ ⟨q, e, n, g⟩ => ⟨q, e, n, s _ _ g⟩
theorem OwnL.put {H : Hp} {l : Addr} {us : List V} {ms : List (List Nat)} {o : HO} (h : OwnL H l us ms) : OwnL (L2.upd H l o) l us ms := h.imp fun _ _ ⟨q, e, n, g⟩ => ⟨q, e, n, by rw [upd_ne n]; exact g⟩
theorem OwnL.pair {K : PySem.W.Frag} {H : Hp} {l : Addr} {us : List V} {ms : List (List Nat)} (h : OwnL H l us ms) : Paired (fun y m => ∃ t, y = V.ref t ∧ SqL K H t (iv m)) us (ms.map nats) := by
  induction h with
  | nil => exact .nil
  | cons h _ ih =>
    obtain ⟨t, e, _, g⟩ := h
    exact .cons ⟨t, e, SqL.of g⟩ ih
abbrev sCar : Stmt := top 80
abbrev nCar : List Str := ["_law_pen_here", "_law_words", "_law_later", "_law_places", "_law_mates_here", "_law_one", "_law_told", "_law_other", "_law_lots_here", "_law_piece", "_law_place", "_law_corner", "_law_number"]
theorem scCar : FnScope nCar ["_law_pen_here", "_law_words", "_law_later", "_law_places"] (defScope sCar) := ⟨rfl, rfl, rfl, by decide +kernel, rfl, by decide +kernel, by decide +kernel⟩
def spCar : Sp := fun vs H Q _ => ∃ (a c p l q : Addr) (n : Nat) (us us2 : List V) (ws wl : List (List Int)) (pl : List Nat) (pf : Nat → Nat) (g : Int → Int) (back : Bool), vs = [.ref a, .ref p, .ref l, .ref q] ∧ HandAt H a c n ∧ n ≤ 5000 ∧ p ≠ a ∧ l ≠ a ∧ H p = some (.lst us) ∧ LLs H us ws ∧ H l = some (.lst us2) ∧ LLs H us2 wl ∧ H q = some (.lst (iv (nats pl))) ∧ pl.length = ws.flatten.length ∧
  RimOk ws ∧ (∀ z, ws.flatten.count z = ws.flatten.count (-z)) ∧ Mv ws wl (fun i => pl.getD i 0) pf g back ∧ ∀ H', Drew a c (n + 100) H H' → Q (.bl true) H'
theorem LLs.drew {H H' : Hp} {a c : Addr} {n m : Nat} {us : List V} {ws : List (List Int)} (h : LLs H us ws) (hH : HandAt H a c n) (d : Drew a c m H H') : LLs H' us ws := h.imp fun _ _ ⟨q, e, g⟩ => ⟨q, e, d.2 _ _ (hH.iv_ne' g) g⟩
section
variable {P : Program} {w : World} {K : PySem.W.Frag} {mg : Str → Option Value} {base : Heap} {C CR CS : Addr}
theorem ok_Car {f : Addr} {fd : FuncData} (F : Fun K "_law_carried_right" "_law_carried_right" sCar f fd) (N : TN mg) (T : TxW K mg C) (TC : TxRC K mg CR) (TS : TxSC K mg CS) (MS : MkS P w K mg base C CR CS) (MRi : MethW P w K mg base CR "rim_of" ["self", "place"] (spNextR K C CR (hmF 0))) (G_mates : Cal P w K mg base "_law_mates" 3 ["_law_pen_here", "_law_letters_here"] (spMates)) (G_letters : Cal P w K mg base "_law_letters" 1 ["_law_words"] (spLets)) (G_rims : Cal P w K mg base "_law_rims" 6 ["_law_words"] (spLRims K C CR)) (G_lots : Cal P w K mg base "_law_lots" 7 ["_law_rims_here", "_law_mates_here"] (spLots K C CR)) (G_begins : Cal P w K mg base "_law_begins" 1 ["_law_words"] (spBeg)) : FnOk P w K mg base CX0 8 f fd ["_law_pen_here", "_law_words", "_law_later", "_law_places"] (spCar) := by
  refine F.ok scCar (fun vs H Q E h => ?_) (fun cdv A outer s H vs Q E hr h => ?_)
  · obtain ⟨a, c, p, l, q, n, us, us2, ws, wl, pl, pf, g, back, rfl, _⟩ := h
    rfl
  · obtain ⟨a, c, p, l, q, n, us, us2, ws, wl, pl, pf, g, back, rfl, hH, hn, hpa, hla, hp, hu, hl, hu2, hq, lpl, rok, bal, M, k⟩ := h
    refine ⟨_, pss_cons (ps_set (i := 4) scCar.nd rfl (Or.inr rfl) (pe_cal G_mates hr (by decide) (by rfl) (pa_cons (pv 0) (pa_cons (pe_cal G_letters hr (by decide) (by rfl) (pa_cons (pv 1) pa_nil)) pa_nil))))
      (pss_cons (ps_asg (pe_tup (pa_cons (pe_sewK rfl MS TS hr (by decide) (by rfl) (pa_cons (pe_cal G_rims hr (by decide) (by rfl) (pa_cons (pv 1) pa_nil)) (pa_cons (pv 4) pa_nil))) (pa_cons (pe_lc (own := [("_law_place", 10)]) (g := gName 10) (tt := tYes) rfl scCar.nd (pi_list (pv 3)) (blkOk_by (N := nCar) (sc := defScope sCar) (by decide +kernel)) (fun _ _ _ _ _ => (pg_name (i := 10) scCar.nd rfl (Or.inl rfl))) (fun _ _ _ _ _ => pts_nil) (fun _ _ _ _ _ => (pe_bmK (K := K) rfl PySem.F.plainAttrs_list PySem.F.slot_list_index PySem.F.type_list_index (mt_indexK (K := K) rfl) (pv 3) (pa_cons (pe_ix (ixl (K := K) rfl) (pv 4) (pv 10) (fun _ _ => rfl)) pa_nil)))) pa_nil))) (pg_tup (n := 2) rfl (pgs_cons (pg_name (i := 5) scCar.nd rfl (Or.inr rfl)) (pgs_cons (pg_name (i := 6) scCar.nd rfl (Or.inl rfl)) pgs_nil))))
      (pss_cons (ps_set (i := 7) scCar.nd rfl (Or.inl rfl) (pe_sewK rfl MS TS hr (by decide) (by rfl) (pa_cons (pe_cal G_rims hr (by decide) (by rfl) (pa_cons (pv 2) pa_nil)) (pa_cons (pv 6) pa_nil))))
      (pss_cons (ps_if (PW.pt (pw_or (pt_cmpR op_ne (pe_fld (pv 7) rfl) (pe_fld (pv 5) rfl) (nomark _)) (pw_or (pt_cmpR op_ne (pe_fld (pv 7) rfl) (pe_fld (pv 5) rfl) (nomark _)) (pw_or1 (pt_cmpR op_ne (pe_callB call_len_seq (by rfl) N.len PySem.boot_len (pa_cons (pe_fld (pv 7) rfl) pa_nil)) (pe_callB call_len_seq (by rfl) N.len PySem.boot_len (pa_cons (pe_fld (pv 5) rfl) pa_nil)) (nomark _)))))) (pss_one (ps_ret pe_bl)) pss_nil)
      (pss_cons (ps_if (pt_cmpR (op_neD hr.units) (pe_callB cr_sorted (by rfl) N.sorted (by decide +kernel) (pa_cons (pe_lc (own := [("_law_corner", 11)]) (g := gName 11) (tt := tYes) rfl scCar.nd (pi_tup (pe_fld (pv 7) rfl)) (blkOk_by (N := nCar) (sc := defScope sCar) (by decide +kernel)) (fun _ _ _ _ _ => (pg_name (i := 11) scCar.nd rfl (Or.inl rfl))) (fun _ _ _ _ _ => pts_nil) (fun _ _ _ _ _ => (pe_callB (call_lenK (K := K) rfl) (by rfl) N.len PySem.boot_len (pa_cons (pv 11) pa_nil)))) pa_nil)) (pe_callB cr_sorted (by rfl) N.sorted (by decide +kernel) (pa_cons (pe_lc (own := [("_law_corner", 11)]) (g := gName 11) (tt := tYes) rfl scCar.nd (pi_tup (pe_fld (pv 5) rfl)) (blkOk_by (N := nCar) (sc := defScope sCar) (by decide +kernel)) (fun _ _ _ _ _ => (pg_name (i := 11) scCar.nd rfl (Or.inl rfl))) (fun _ _ _ _ _ => pts_nil) (fun _ _ _ _ _ => (pe_callB (call_lenK (K := K) rfl) (by rfl) N.len PySem.boot_len (pa_cons (pv 11) pa_nil)))) pa_nil)) (nomark _)) (pss_one (ps_ret pe_bl)) pss_nil)
      (pss_cons (ps_set (i := 8) scCar.nd rfl (Or.inl rfl) (pe_lst pa_nil))
      (pss_cons (ps_for PassesOwn.never rfl (pi_tup (pe_fld (pv 7) rfl)) (pg_name (i := 9) scCar.nd rfl (Or.inl rfl))
      (pss_one (ps_expr (pe_bm PySem.F.plainAttrs_list PySem.F.slot_list_append PySem.F.type_list_append mt_append (pv 8) (pa_cons (pe_callB cr_sorted (by rfl) N.sorted (by decide +kernel) (pa_cons (pe_lc (own := [("_law_number", 12)]) (g := gName 12) (tt := tYes) rfl scCar.nd (pi_tup (pv 9)) (blkOk_by (N := nCar) (sc := defScope sCar) (by decide +kernel)) (fun _ _ _ _ _ => (pg_name (i := 12) scCar.nd rfl (Or.inl rfl))) (fun _ _ _ _ _ => pts_nil) (fun _ _ _ _ _ => (pe_w1K (K := K) rfl MRi TC.cl hr (by decide) (pe_fldK (K := K) rfl (pv 5) rfl) (pa_cons (pe_ix (ixl (K := K) rfl) (pv 3) (pe_ix (ixl (K := K) rfl) (pe_cal G_begins hr (by decide) (by rfl) (pa_cons (pv 2) pa_nil)) (pv 12) (fun _ _ => rfl)) (fun _ _ => rfl)) pa_nil)))) pa_nil)) pa_nil)))))
      (pss_one (ps_ret (pe_and (pe_cmpR (op_eqD hr.units) (pe_callB (cr_sortedLL hr.units) (by rfl) N.sorted (by decide +kernel) (pa_cons (pv 8) pa_nil)) (pe_lc (own := [("_law_piece", 9)]) (g := gName 9) (tt := tYes) rfl scCar.nd (pi_tup (pe_fld (pv 5) rfl)) (blkOk_by (N := nCar) (sc := defScope sCar) (by decide +kernel)) (fun _ _ _ _ _ => (pg_name (i := 9) scCar.nd rfl (Or.inl rfl))) (fun _ _ _ _ _ => pts_nil) (fun _ _ _ _ _ => (pe_callTy (call_listK (K := K) rfl) (by rfl) N.list (by decide +kernel) (pa_cons (pv 9) pa_nil)))) (nomark _)) (pe_one (pe_cmpR (op_eqD hr.units) (pe_callB (cr_sortedLL hr.units) (by rfl) N.sorted (by decide +kernel) (pa_cons (pe_lc (own := [("_law_corner", 11)]) (g := gName 11) (tt := tYes) rfl scCar.nd (pi_tup (pe_fld (pv 5) rfl)) (blkOk_by (N := nCar) (sc := defScope sCar) (by decide +kernel)) (fun _ _ _ _ _ => (pg_name (i := 11) scCar.nd rfl (Or.inl rfl))) (fun _ _ _ _ _ => pts_nil) (fun _ _ _ _ _ => (pe_callB (cr_sortedUK (K := K) rfl) (by rfl) N.sorted (by decide +kernel) (pa_cons (pv 11) pa_nil)))) pa_nil)) (pe_cal G_lots hr (by decide) (by rfl) (pa_cons (pe_fld (pv 5) rfl) (pa_cons (pv 4) pa_nil))) (nomark _)))))))))))), ?_⟩
    obtain ⟨o1, o2, o3, o4, o5, o6⟩ := id rok
    refine ⟨_, rfl, _, rfl, p, us, ws, rfl, hp, hu, by omega, fun lq H1 hlq s1 g1 => ?_⟩
    have hH1 := hH.same s1
    refine ⟨a, c, lq, ws.flatten, n, rfl, hH1, hH1.iv_ne' g1, g1, by omega, o5, fun z => by rw [bal z], by omega, fun m H2 mt hm0 d2 gm2 mok => ?_⟩
    refine at_set ?_
    try dsimp only
    have D2 : Drew a c (n + 100) H H2 := ⟨d2.1, (Kept.ofS s1).trans d2.2⟩
    have gp2 := D2.2 _ _ hpa hp
    have gl2 := D2.2 _ _ hla hl
    have gq2 := D2.2 _ _ (hH.iv_ne' hq) hq
    have L2_ := hu.drew hH D2
    have L22 := hu2.drew hH D2
    refine seqN fun N1 hN1 => STP.asg ?_
    refine ⟨_, rfl, p, us, ws, rfl, gp2, L2_, rok, fun rp H3 xs s3 R3 => ⟨_, rfl, ?_⟩⟩
    intro sw dq nq ndq _
    refine sew_at nq ndq R3 rok (.inl (SqL.of (s3 _ _ gm2))) mok fun H4 s4 S4 => ?_
    have s24 := s3.trans s4
    have gm4 := s24 _ _ gm2
    have gq4 := s24 _ _ gq2
    refine STP.cons (STP.lc ?_)
    refine ⟨_, rfl, q, rfl, ⟨_, SqL.of gq4⟩, ?_⟩
    obtain ⟨N_, eN⟩ : ∃ N_, N_ = ws.flatten.length := ⟨_, rfl⟩
    have he := M.bij
    rw [← eN] at lpl he
    have mok1 := mok.1.1
    rw [← eN] at mok1
    have lq0 : (iv (nats pl)).length = N_ := by unfold nats; rw [List.length_map, List.length_map, lpl]
    have pl_at : ∀ i, i < N_ → (iv (nats pl))[i]? = some (.int ((pl.getD i 0 : Nat) : Int)) := fun i hi => by
      have l : i < pl.length := by omega
      unfold nats
      rw [List.getElem?_map, List.getElem?_map, List.getElem?_eq_getElem l, List.getD_eq_getElem?_getD, List.getElem?_eq_getElem l]
      rfl
    refine lcM (walk_list (K := K) (a := q) (xs := iv (nats pl))) (nats (tmF N_ (fun i => pl.getD i 0) mt)) (fun _ _ v b => v = V.int b) (fun _ _ _ _ _ h _ => h) (fun _ _ _ _ _ _ _ h => h) (by omega) (by rw [lq0, tmF_len]) (fun H s => s.seq (SqL.of gq4)) ?_ (fun _ _ _ _ _ => gName_mono) ?_
    · intro i x b hx hb D H5 hD _ s5 Qy ky
      have hi : i < N_ := by
        have := (List.getElem?_eq_some_iff.mp hx).1
        omega
      rw [pl_at i hi] at hx
      obtain rfl := Option.some.inj hx
      have le := he.lt i hi
      obtain ⟨a1, a2, a3⟩ := mtn_at mok1 le
      obtain ⟨b1, b2⟩ := invB_ok he a1
      unfold tmF at hb
      rw [nats_at, List.getElem?_map, List.getElem?_range hi] at hb
      obtain rfl := Option.some.inj hb
      refine ⟨rfl, _, rfl, .inl ⟨rfl, _, SqL.of (s5 _ _ gq4)⟩, _, rfl, _, rfl, m, iv mt, _, .int ((mtn mt (pl.getD i 0) : Nat) : Int), rfl, rfl, SqL.of (s5 _ _ gm4), atI_nat (iv_get a2), ?_⟩
      refine ⟨q, iv (nats pl), _, invB N_ (fun i => pl.getD i 0) (mtn mt (pl.getD i 0)), _, rfl, rfl, SqL.of (s5 _ _ gq4), rfl, flat_nats pl, pl_at _ b1, ?_, fun m' z' hm' hz' => ?_, ky _ _ (Same.refl _) rfl⟩
      · rw [eqV_int, beq_iff_eq]
        exact congrArg _ b2
      · have lm' : m' < N_ := by omega
        rw [pl_at m' lm'] at hz'
        obtain rfl := Option.some.inj hz'
        rw [eqV_int, beq_eq_false_iff_ne]
        intro e
        have e2 : pl.getD m' 0 = mtn mt (pl.getD i 0) := by omega
        have := he.inj m' _ lm' b1 (e2.trans b2.symm)
        omega
    intro D5 H5 us5 hD5 s5 g5 r5
    have e5 : us5 = iv (nats (tmF N_ (fun i => pl.getD i 0) mt)) := all_ints r5
    rw [e5] at g5
    obtain ⟨mt2, emt2⟩ : ∃ mt2, mt2 = nats (tmF N_ (fun i => pl.getD i 0) mt) := ⟨_, rfl⟩
    have tm : TM ws.flatten.length (fun i => pl.getD i 0) mt mt2 := by rw [emt2, ← eN]; exact tmF_ok he mok1
    rw [← emt2] at g5
    clear e5 r5 emt2
    have mok2 := M.mates mok (fun x hx => neg_mem bal hx) tm
    refine ⟨by show 2 ≤ sizeLine; decide, fun t ht => ?_⟩
    have sT := same_upd (o := .tup [.ref sw, .ref D5]) ht
    refine ⟨t, _, rfl, SqT.of upd_same, rfl, _, _, rfl, _, _, rfl, rfl, ?_⟩
    refine hN1 _ _ ?_
    have s4T := s5.trans sT
    have s2T := s24.trans s4T
    have S6 := S4.same s4T
    have g6 := sT _ _ g5
    have gl6 := s2T _ _ gl2
    have L26 := L22.same s2T
    generalize L2.upd H5 t (.tup [.ref sw, .ref D5]) = H6 at s4T s2T S6 g6 gl6 L26 ⊢
    try dsimp only
    refine seqN fun N2 hN2 => STP.asg ?_
    have rok2 := M.rim rok bal
    refine ⟨_, rfl, l, us2, wl, rfl, gl6, L26, rok2, fun rp2 H7 xs2 s7 R7 => ⟨_, rfl, ?_⟩⟩
    intro sw2 dq2 nq2 ndq2 _
    refine sew_at nq2 ndq2 R7 rok2 (.inl (SqL.of (s7 _ _ g6))) mok2 fun H8 s8 S8 => ?_
    refine at_set ?_
    refine hN2 _ _ (seqN fun N3 hN3 => ?_)
    try dsimp only
    have s68 := s7.trans s8
    have S68 := S6.same s68
    have gm8 := s68 _ _ (s4T _ _ gm4)
    have gq8 := s68 _ _ (s4T _ _ gq4)
    have gl8 := s68 _ _ gl6
    have L28 := L26.same s68
    have D8 : Drew a c (n + 100) H H8 := D2.same (s2T.trans s68)
    have ecost := M.cost o3 mok.1 mok2.1 tm
    obtain ⟨ehand, epcs⟩ := M.hand o3 mok.1 mok2.1 tm
    have esz := M.sizes o3 mok.1 mok2.1 tm
    have epc := M.pieces mok.1.1 mok2.1.1 tm
    obtain ⟨dx, tmA, tcA, tpA, h1, RA, hmA, hcA, hpA⟩ := id S68
    obtain ⟨dx2, tmB, tcB, tpB, j1, RB, jmB, jcB, jpB⟩ := id S8
    obtain ⟨vcA, bcA, acA⟩ := hcA
    obtain ⟨vpA, bpA, apA⟩ := hpA
    obtain ⟨vcB, bcB, acB⟩ := jcB
    obtain ⟨vpB, bpB, apB⟩ := jpB
    have lpA := apA.length
    have lpB := apB.length
    refine ⟨_, rfl, sw2, CS, dx2, _, _, rfl, j1, TS.cl, TS.n4, sf_cost, _, rfl, sw, CS, dx, _, _, rfl, h1, TS.cl, TS.n4, sf_cost, rfl, _, rfl, iteF' (by rw [ecost]; simp) ?_⟩
    refine ⟨_, rfl, sw2, CS, dx2, _, _, rfl, j1, TS.cl, TS.n6, sf_handles, _, rfl, sw, CS, dx, _, _, rfl, h1, TS.cl, TS.n6, sf_handles, rfl, _, rfl, iteF' (by rw [ehand]; simp) ?_⟩
    refine ⟨_, rfl, sw2, CS, dx2, _, _, rfl, j1, TS.cl, TS.n5, sf_pieces, tpB, vpB, rfl, .inr bpB.sq, _, rfl, sw, CS, dx, _, _, rfl, h1, TS.cl, TS.n5, sf_pieces, tpA, vpA, rfl, .inr bpA.sq, rfl, _, rfl, iteF' (by rw [lpA, lpB, epcs]; simp) ?_⟩
    -- how long the corners are
    have cl1 : (cornF ws mt).length ≤ 24 := Nat.le_trans (crn_len _ _ _ _) o4
    have wl24 : wl.flatten.length ≤ 24 := rok2.2.2.2.1
    have cl2 : (cornF wl mt2).length ≤ 24 := Nat.le_trans (crn_len _ _ _ _) wl24
    refine STP.nx (hN3 _ _ (seqN fun N4 hN4 => STP.ifS (STP.test (STP.op (STP.cb (STP.cons (STP.lc ?_)))))))
    refine ⟨_, rfl, sw2, CS, dx2, _, _, rfl, j1, TS.cl, TS.n3, sf_corners, tcB, rfl, ⟨_, bcB.sq⟩, ?_⟩
    have lcB := acB.length
    have lcA := acA.length
    refine lcM (walk_tup (K := K) (a := tcB) (xs := vcB)) (nats ((cornF wl mt2).map List.length)) (fun _ _ v b => v = V.int b) (fun _ _ _ _ _ h _ => h) (fun _ _ _ _ _ _ _ h => h) (by omega) (by unfold nats; rw [List.length_map, List.length_map, lcB]) (fun H s => (SqB.same s bcB).sq) ?_ (fun _ _ _ _ _ => gName_mono) ?_
    · intro i x b hx hb D H9 hD _ s9 Qy ky
      obtain ⟨cc, hcc, qc, rfl, gqc⟩ := acB.at hx
      unfold nats at hb
      rw [List.getElem?_map, List.getElem?_map, hcc] at hb
      obtain rfl := Option.some.inj hb
      exact ⟨rfl, _, rfl, qc, _, rfl, .inr (SqB.same s9 gqc).sq, ky _ _ (Same.refl _) (by unfold nats; rw [List.length_map, List.length_map])⟩
    intro DB HB usB hDB sB gB rB
    rw [all_ints rB] at gB
    refine ⟨DB, _, rfl, SqL.of gB, by unfold nats; rw [List.length_map, List.length_map]; omega, fun n1 q1 p1 a1 hq1 => ?_⟩
    have sC := same_upd (o := .lst (iv n1)) hq1
    have gq1 : L2.upd HB q1 (.lst (iv n1)) q1 = some (.lst (iv n1)) := upd_same
    have s8C := sB.trans sC
    generalize L2.upd HB q1 (.lst (iv n1)) = HC at s8C gq1 ⊢
    clear sC
    refine STP.cb (STP.cons (STP.lc ?_))
    refine ⟨_, rfl, sw, CS, dx, _, _, rfl, s8C _ _ h1, TS.cl, TS.n3, sf_corners, tcA, rfl, ⟨_, (SqB.same s8C bcA).sq⟩, ?_⟩
    refine lcM (walk_tup (K := K) (a := tcA) (xs := vcA)) (nats ((cornF ws mt).map List.length)) (fun _ _ v b => v = V.int b) (fun _ _ _ _ _ h _ => h) (fun _ _ _ _ _ _ _ h => h) (by omega) (by unfold nats; rw [List.length_map, List.length_map, lcA]) (fun H s => (SqB.same (s8C.trans s) bcA).sq) ?_ (fun _ _ _ _ _ => gName_mono) ?_
    · intro i x b hx hb D H9 hD _ s9 Qy ky
      obtain ⟨cc, hcc, qc, rfl, gqc⟩ := acA.at hx
      unfold nats at hb
      rw [List.getElem?_map, List.getElem?_map, hcc] at hb
      obtain rfl := Option.some.inj hb
      exact ⟨rfl, _, rfl, qc, _, rfl, .inr (SqB.same (s8C.trans s9) gqc).sq, ky _ _ (Same.refl _) (by unfold nats; rw [List.length_map, List.length_map])⟩
    intro DD HD usD hDD sD gD rD
    rw [all_ints rD] at gD
    refine ⟨DD, _, rfl, SqL.of gD, by unfold nats; rw [List.length_map, List.length_map]; omega, fun n2 q2 p2 a2 hq2 => ?_⟩
    have sE := same_upd (o := .lst (iv n2)) hq2
    have gq2' : L2.upd HD q2 (.lst (iv n2)) q2 = some (.lst (iv n2)) := upd_same
    have en : n1 = n2 := asc_int a1 a2 (p1.trans ((esz.map _).trans p2.symm))
    have gq1' := sE _ _ (sD _ _ gq1)
    refine ⟨.list (n1.map PyData.int), .list (n2.map PyData.int), .lst (SqL.of gq1') (dp_ints n1), .lst (SqL.of gq2') (dp_ints n2), PySem.W.ke_shaped_ints n1, PySem.W.ke_shaped_ints n2, _, rfl, iteF' (by rw [en, ints_eqv]; rfl) ?_⟩
    have s8E := s8C.trans (sD.trans sE)
    generalize L2.upd HD q2 (.lst (iv n2)) = H9 at s8E ⊢
    clear sE gq2' gq1' gD rD sD hq2 gq1 s8C gB rB sB hq1 hDD hDB
    -- the pieces
    refine STP.nx (hN4 _ _ (seqN fun N5 hN5 => STP.asg ?_))
    refine ⟨Nat.zero_le _, fun lo hlo => ?_⟩
    refine STP.name ?_
    refine hN5 _ _ ?_
    try dsimp only
    have s9 := same_upd (o := .lst []) hlo
    have glo : L2.upd H9 lo (.lst []) lo = some (.lst []) := upd_same
    have lo0 : H8 lo = none := s8E.free hlo
    have s8A := s8E.trans s9
    generalize L2.upd H9 lo (.lst []) = HA at glo s8A ⊢
    clear s9 hlo s8E
    obtain ⟨Pw, ascw, lexw⟩ := pc_all mok.1.1
    obtain ⟨Pl, _, _⟩ := pc_all mok2.1.1
    obtain ⟨lpc2, lpe2⟩ := part_len Pl
    rw [M.many] at lpc2 lpe2
    obtain ⟨lpc1, lpe1⟩ := part_len Pw
    obtain ⟨_, lce1⟩ := part_len (corn_part o3 mok.1)
    refine seqN fun N6 hN6 => ?_
    refine ⟨_, rfl, sw2, CS, dx2, _, _, rfl, s8A _ _ j1, TS.cl, TS.n5, sf_pieces, tpB, rfl, ⟨_, (SqB.same s8A bpB).sq⟩, for_tup (K := K) (a := tpB) (xs := vpB) (fun i σ H' => ∃ (v9 : Option V) (us' : List V), σ = [some (.ref a), some (.ref p), some (.ref l), some (.ref q), some (.ref m), some (.ref sw), some (.ref D5), some (.ref sw2), some (.ref lo), v9, none, none, none] ∧ Same H8 H' ∧ H' lo = some (.lst us') ∧ us'.length = i ∧ OwnL H' lo us' (((pcF wl mt2).take i).map fun c => Pt.srt (c.map pf)))
      ⟨none, [], rfl, s8A, glo, rfl, .nil⟩ (fun i σ H' _ hI_ => by obtain ⟨_, _, _, s, _⟩ := hI_; exact (SqB.same s bpB).sq) ?_ ?_⟩
    · rintro i x σ HB hi ⟨v9, us', rfl, sB, gB, lus, oB⟩
      obtain ⟨cc, hcc, qp, rfl, gqp⟩ := apB.at hi
      have ccm := List.mem_of_getElem? hcc
      have lcc := lpe2 cc ccm
      have icc := List.getElem?_eq_some_iff.mp hcc
      refine STP.name ?_
      refine STP.expr (STP.bm ?_)
      refine ⟨_, rfl, .inl ⟨rfl, _, SqL.of gB⟩, ?_⟩
      refine STP.cons (STP.cb (STP.cons (STP.lc ?_)))
      have gqB := SqB.same sB gqp
      refine ⟨_, rfl, qp, rfl, ⟨_, gqB.sq⟩, ?_⟩
      have lnc : (iv (nats cc)).length = cc.length := by unfold nats; rw [List.length_map, List.length_map]
      refine lcM (walk_tup (K := K) (a := qp) (xs := iv (nats cc))) (nats (cc.map pf)) (fun _ _ v b => v = V.int b) (fun _ _ _ _ _ h _ => h) (fun _ _ _ _ _ _ _ h => h) (by omega) (by rw [lnc]; unfold nats; rw [List.length_map, List.length_map]) (fun H s => (SqB.same s gqB).sq) ?_ (fun _ _ _ _ _ => gName_mono) ?_
      · intro j x b hx hb D HC hD _ sC Qy ky
        unfold nats at hx hb
        rw [List.getElem?_map, List.getElem?_map] at hx
        rw [List.getElem?_map, List.getElem?_map] at hb
        cases ej : cc[j]? with
        | none => rw [ej] at hx; cases hx
        | some y =>
          rw [ej] at hx hb
          obtain rfl := Option.some.inj hx
          obtain rfl := Option.some.inj hb
          have ym := List.mem_of_getElem? ej
          have ly : y < wl.length := Pl.lt ccm ym
          obtain ⟨wy, hwy⟩ : ∃ wy, wl[y]? = some wy := ⟨_, List.getElem?_eq_getElem ly⟩
          have wyp : 0 < wy.length := List.length_pos_iff.mpr (M.ne wy (List.mem_of_getElem? hwy))
          have lb : bg wl y < N_ := by
            have := bg_lt hwy wyp
            rw [M.len, ← eN] at this
            omega
          have s8C := sB.trans sC
          have RC := RA.same s8C
          obtain ⟨dxr, fsr, hxr, nlk⟩ := rims_no2 RC
          have lbw : (iv (nats (bgsF wl)))[y]? = some (.int ((bg wl y : Nat) : Int)) := by
            unfold bgsF nats
            rw [List.getElem?_map, List.getElem?_map, List.getElem?_map, List.getElem?_range ly]
            rfl
          refine ⟨rfl, _, rfl, sw, CS, dx, _, _, rfl, s8C _ _ h1, TS.cl, TS.n1, sf_rims, rp, dxr, fsr, rfl, hxr, nlk, _, rfl, _, rfl, l, us2, wl, rfl, s8C _ _ gl8, L28.same s8C, by have := rok2.2.1; omega, by omega, fun bA HD sD gb => ?_⟩
          refine ⟨_, rfl, bA, iv (nats (bgsF wl)), _, _, rfl, rfl, SqL.of gb, atI_nat lbw, q, iv (nats pl), _, _, rfl, rfl, SqL.of (sD _ _ (s8C _ _ gq8)), atI_nat (pl_at _ lb), rp, pl.getD (bg wl y) 0, xs, ws, rfl, RC.same sD, by rw [← eN]; exact he.lt _ lb, fun z hz => ?_⟩
          have lle : pl.getD (bg wl y) 0 < ws.flatten.length := by rw [← eN]; exact he.lt _ lb
          rw [(home_at lle).1] at hz
          obtain rfl := Option.some.inj hz
          have e2 : home ws (pl.getD (bg wl y) 0) = pf y := by
            have h1 := M.hm (bg wl y) (by rw [← eN]; exact lb)
            have h2 := home_bg hwy wyp
            rw [Nat.add_zero] at h2
            rw [h2] at h1
            exact h1.symm
          exact ky _ _ sD (by rw [e2])
      intro DC HC usC hDC sC gC rC
      rw [all_ints rC] at gC
      refine ⟨DC, _, rfl, SqL.of gC, by unfold nats; rw [List.length_map, List.length_map]; omega, fun n1 q1 p1 a1 hq1 => ?_⟩
      have e1 : n1 = nats (Pt.srt (cc.map pf)) := nats_srt p1 a1
      have gB2 := sC _ _ gB
      have sE := same_upd (o := .lst (iv n1)) hq1
      have nq : q1 ≠ lo := (ne_of_none gB2 hq1).symm
      have gq1 : L2.upd HC q1 (.lst (iv n1)) q1 = some (.lst (iv (nats (Pt.srt (cc.map pf))))) := by rw [upd_same, e1]
      have oE := (oB.same sC).same sE
      have gBE := sE _ _ gB2
      have s8E := (sB.trans sC).trans sE
      generalize L2.upd HC q1 (.lst (iv n1)) = HE at gq1 oE gBE s8E ⊢
      refine ⟨lo, us', _, rfl, rfl, gBE, Evl.sz_lt (by have := icc.1; omega), ?_⟩
      refine ⟨_, us' ++ [.ref q1], rfl, fun b o e => ?_, upd_same, by rw [List.length_append, lus]; rfl, ?_⟩
      · rw [upd_ne (ne_of_none e lo0)]
        exact s8E _ _ e
      · rw [List.take_succ_eq_append_getElem icc.1, List.map_append, icc.2]
        exact All2.app oE.put (.cons ⟨q1, rfl, nq, by rw [upd_ne nq]; exact gq1⟩ .nil)
    · rintro σ HB ⟨v9, us', rfl, sB, gB, lus, oB⟩
      rw [lpB, List.take_length] at oB
      rw [lpB] at lus
      refine hN6 _ _ ?_
      try dsimp only
      refine STP.ret (STP.andV (STP.op (STP.cb ?_)))
      have lms : ((((pcF wl mt2).map fun c => Pt.srt (c.map pf)).map nats)).length ≤ 1000 := by rw [List.length_map, List.length_map]; omega
      refine ⟨_, rfl, lo, us', _, rfl, SqL.of gB, oB.pair, lms, fun ys qy hy hqy => ?_⟩
      have sC := same_upd (o := .lst ys) hqy
      have gyC : L2.upd HB qy (.lst ys) qy = some (.lst ys) := upd_same
      have hyC := hy.mono fun y c ⟨t, e, g⟩ => (⟨t, e, sC.seq g⟩ : ∃ t, y = V.ref t ∧ SqL K (L2.upd HB qy (.lst ys)) t (iv c))
      have s8C := sB.trans sC
      generalize L2.upd HB qy (.lst ys) = HC at gyC hyC s8C ⊢
      clear hqy sC hy
      refine STP.lc ?_
      refine ⟨_, rfl, sw, CS, dx, _, _, rfl, s8C _ _ h1, TS.cl, TS.n5, sf_pieces, tpA, rfl, ⟨_, (SqB.same s8C bpA).sq⟩, ?_⟩
      refine lcM (walk_tup (K := K) (a := tpA) (xs := vpA)) (pcF ws mt) (fun D H v c => ∃ q, v = V.ref q ∧ q ≠ D ∧ H q = some (.lst (iv (nats c)))) (fun _ _ _ _ _ ⟨q, e, n, g⟩ s => ⟨q, e, n, s _ _ g⟩) (fun _ _ _ _ _ _ _ hI_ => by obtain ⟨q, e, n, g⟩ := hI_; exact ⟨q, e, n, by rw [upd_ne n]; exact g⟩) (by omega) lpA (fun H s => (SqB.same (s8C.trans s) bpA).sq) ?_ (fun _ _ _ _ _ => gName_mono) ?_
      · intro i x b hx hb D HD hD ⟨zs, hzs⟩ sD Qy ky
        obtain ⟨cc, hcc, qc, rfl, gqc⟩ := apA.at hx
        obtain rfl := Option.some.inj (hcc.symm.trans hb)
        exact ⟨rfl, _, rfl, qc, _, rfl, .inr (SqB.same (s8C.trans sD) gqc).sq, fun l2 hl2 => ky _ _ (same_upd hl2) ⟨l2, rfl, (ne_of_none hzs hl2).symm, upd_same⟩⟩
      intro DD HD usD hDD sD gD rD
      have oD : OwnL HD DD usD (pcF ws mt) := rD
      have gyD := sD _ _ gyC
      have hyD := hyC.mono fun y c ⟨t, e, g⟩ => (⟨t, e, sD.seq g⟩ : ∃ t, y = V.ref t ∧ SqL K HD t (iv c))
      have el : srtLL (((pcF wl mt2).map fun c => Pt.srt (c.map pf)).map nats) = (pcF ws mt).map nats := srt_lots epc lexw
      refine ⟨lld _, lld _, dp_lld gyD hyD, dp_lld gD oD.pair, lld_shaped _, lld_shaped _, _, rfl, iteT' (by rw [el]; exact lld_eqv _) ?_⟩
      have s8D := s8C.trans sD
      -- the corners by the law's own rounds
      refine STP.op (STP.cb (STP.cons (STP.lc ?_)))
      refine ⟨_, rfl, sw, CS, dx, _, _, rfl, s8D _ _ h1, TS.cl, TS.n3, sf_corners, tcA, rfl, ⟨_, (SqB.same s8D bcA).sq⟩, ?_⟩
      refine lcM (walk_tup (K := K) (a := tcA) (xs := vcA)) ((cornF ws mt).map Pt.srt) (fun D H v c => ∃ q, v = V.ref q ∧ q ≠ D ∧ H q = some (.lst (iv (nats c)))) (fun _ _ _ _ _ ⟨q, e, n, g⟩ s => ⟨q, e, n, s _ _ g⟩) (fun _ _ _ _ _ _ _ hI_ => by obtain ⟨q, e, n, g⟩ := hI_; exact ⟨q, e, n, by rw [upd_ne n]; exact g⟩) (by omega) (by rw [List.length_map]; exact lcA) (fun H s => (SqB.same (s8D.trans s) bcA).sq) ?_ (fun _ _ _ _ _ => gName_mono) ?_
      · intro i x b hx hb D HE hD ⟨zs, hzs⟩ sE Qy ky
        obtain ⟨cc, hcc, qc, rfl, gqc⟩ := acA.at hx
        rw [List.getElem?_map, hcc] at hb
        obtain rfl := Option.some.inj hb
        have lcc := lce1 cc (List.mem_of_getElem? hcc)
        refine ⟨rfl, _, rfl, qc, nats cc, rfl, (SqB.same (s8D.trans sE) gqc).sq, by unfold nats; rw [List.length_map]; omega, fun n1 q1 p1 a1 hq1 => ?_⟩
        have e1 : n1 = nats (Pt.srt cc) := nats_srt p1 a1
        exact ky _ _ (same_upd hq1) ⟨q1, rfl, (ne_of_none hzs hq1).symm, by rw [upd_same, e1]⟩
      intro DE HE usE hDE sE gE rE
      have oE : OwnL HE DE usE ((cornF ws mt).map Pt.srt) := rE
      refine ⟨DE, usE, _, rfl, SqL.of gE, oE.pair, by rw [List.length_map, List.length_map]; omega, fun ys2 qz hz hqz => ?_⟩
      have sF := same_upd (o := .lst ys2) hqz
      have gzF : L2.upd HE qz (.lst ys2) qz = some (.lst ys2) := upd_same
      have hzF := hz.mono fun y c ⟨t, e, g⟩ => (⟨t, e, sF.seq g⟩ : ∃ t, y = V.ref t ∧ SqL K (L2.upd HE qz (.lst ys2)) t (iv c))
      have s8F := s8D.trans (sE.trans sF)
      generalize L2.upd HE qz (.lst ys2) = HF at gzF hzF s8F ⊢
      refine ⟨_, rfl, sw, CS, dx, _, _, rfl, s8F _ _ h1, TS.cl, TS.n1, sf_rims, _, rfl, rp, m, xs, ws, mt, rfl, RA.same s8F, o3, o4, s8F _ _ gm8, mok.1.1, fun qw HG ys3 sG gw hw => ?_⟩
      have hzG := hzF.mono fun y c ⟨t, e, g⟩ => (⟨t, e, sG.seq g⟩ : ∃ t, y = V.ref t ∧ SqL K HG t (iv c))
      refine ⟨lld _, lld _, dp_lld (sG _ _ gzF) hzG, dp_lld gw hw, lld_shaped _, lld_shaped _, ?_⟩
      have ee : ((cornF ws mt).map Pt.srt).map nats = (cornF ws mt).map fun c => nats (Pt.srt c) := List.map_map
      rw [ee, lld_eqv]
      exact k _ (D8.same (s8F.trans sG))
end
end W16
set_option Elab.async false
set_option linter.all false
set_option maxRecDepth 100000
set_option maxHeartbeats 1000000
namespace W16
open PySem L2 PySem.Spec PyProof.Rows WR WB WE SrtT
/-! ### how many mates there are -/
theorem cnt_one (P : Nat → Bool) {p : Nat} : ∀ {n : Nat}, p < n → (List.range n).countP P = (List.range n).countP (fun i => P i && decide (i ≠ p)) + (if P p = true then 1 else 0)
  | 0, h => absurd h (Nat.not_lt_zero _)
  | n + 1, h => by
    rw [List.range_succ, List.countP_append, List.countP_append, List.countP_singleton, List.countP_singleton]
    by_cases e : p = n
    · subst e
      have c : (List.range p).countP P = (List.range p).countP (fun i => P i && decide (i ≠ p)) := by
        refine List.countP_congr fun i hi => ?_
        have := List.mem_range.mp hi
        rw [decide_eq_true (show i ≠ p by omega), Bool.and_true]
      rw [c, decide_eq_false (show ¬ p ≠ p from fun z => z rfl), Bool.and_false]
      rfl
    · have ih := cnt_one P (p := p) (n := n) (by omega)
      rw [ih, decide_eq_true (show n ≠ p from fun z => e z.symm), Bool.and_true]
      exact Nat.add_right_comm _ _ _
def rem (ls : List Int) (m : List (Option Nat)) (l : Int) : Nat := (List.range ls.length).countP fun i => decide (m[i]? = some none) && decide (ls.getD i 0 = l)
theorem rem_step {ls : List Int} {m : List (Option Nat)} {p q : Nat} (hl : m.length = ls.length) (hp : m[p]? = some none) (hq : m[q]? = some none) (n : q ≠ p) (l : Int) :
    rem ls m l = rem ls ((m.set p (some q)).set q (some p)) l + (if ls.getD q 0 = l then 1 else 0) + (if ls.getD p 0 = l then 1 else 0) := by
  have lp := (List.getElem?_eq_some_iff.mp hp).1
  have lq := (List.getElem?_eq_some_iff.mp hq).1
  unfold rem
  rw [cnt_one (fun i => decide (m[i]? = some none) && decide (ls.getD i 0 = l)) (p := p) (by rw [← hl]; exact lp),
    cnt_one (fun i => (decide (m[i]? = some none) && decide (ls.getD i 0 = l)) && decide (i ≠ p)) (p := q) (by rw [← hl]; exact lq)]
  have e1 : (if (decide (m[p]? = some none) && decide (ls.getD p 0 = l)) = true then 1 else 0) = if ls.getD p 0 = l then 1 else 0 := by
    rw [decide_eq_true hp, Bool.true_and]
    by_cases c : ls.getD p 0 = l
    · rw [if_pos c, if_pos (decide_eq_true c)]
    · rw [if_neg c, if_neg (by rw [decide_eq_false c]; decide)]
  have e2 : (if ((decide (m[q]? = some none) && decide (ls.getD q 0 = l)) && decide (q ≠ p)) = true then 1 else 0) = if ls.getD q 0 = l then 1 else 0 := by
    rw [decide_eq_true hq, Bool.true_and, decide_eq_true n, Bool.and_true]
    by_cases c : ls.getD q 0 = l
    · rw [if_pos c, if_pos (decide_eq_true c)]
    · rw [if_neg c, if_neg (by rw [decide_eq_false c]; decide)]
  rw [e1, e2]
  congr 2
  refine List.countP_congr fun i hi => ?_
  rw [set2_at lp lq n]
  by_cases c1 : i = q
  · rw [if_pos c1, decide_eq_false (show ¬ i ≠ q from fun z => z c1), Bool.and_false, decide_eq_false (fun z => by injection z with z; cases z), Bool.false_and]
  · rw [if_neg c1, decide_eq_true c1, Bool.and_true]
    by_cases c2 : i = p
    · rw [if_pos c2, decide_eq_false (show ¬ i ≠ p from fun z => z c2), Bool.and_false, decide_eq_false (fun z => by injection z with z; cases z), Bool.false_and]
    · rw [if_neg c2, decide_eq_true c2, Bool.and_true]
theorem rem_start (ls : List Int) (l : Int) : rem ls (List.replicate (prtF ls).length none) l = ls.count l := by
  unfold rem
  have e : ∀ i ∈ List.range ls.length, (decide ((List.replicate (prtF ls).length (none : Option Nat))[i]? = some none) && decide (ls.getD i 0 = l)) = true ↔ decide (ls.getD i 0 = l) = true := fun i hi => by
    rw [List.getElem?_replicate, prt_len, if_pos (List.mem_range.mp hi), decide_eq_true rfl, Bool.true_and]
  rw [List.countP_congr e]
  have : ls = (List.range ls.length).map fun i => ls.getD i 0 := by
    refine List.ext_getElem (by simp) fun i h1 h2 => ?_
    rw [List.getElem_map, List.getElem_range, List.getD_eq_getElem?_getD, List.getElem?_eq_getElem h1]
    rfl
  conv => rhs; rw [this]
  rw [List.count_eq_countP, List.countP_map]
  refine List.countP_congr fun i hi => ?_
  show decide _ = true ↔ (ls.getD i 0 == l) = true
  rw [decide_eq_true_iff, beq_iff_eq]
theorem rem_done {ls : List Int} {m : List (Option Nat)} (no : m.any Option.isNone = false) (l : Int) : rem ls m l = 0 := by
  unfold rem
  rw [List.countP_eq_zero]
  intro i _ h
  rw [Bool.and_eq_true, decide_eq_true_iff] at h
  have := List.getElem?_eq_some_iff.mp h.1
  rw [List.any_eq_false] at no
  exact no none (by rw [← this.2]; exact List.getElem_mem this.1) rfl
theorem foldl_mul : ∀ (l : List Nat) (a : Nat), l.foldl (· * ·) a = a * l.foldl (· * ·) 1
  | [], a => (Nat.mul_one a).symm
  | x :: r, a => by
    rw [List.foldl_cons, List.foldl_cons, foldl_mul r (a * x), foldl_mul r (1 * x), Nat.one_mul, Nat.mul_assoc]
def prd (ks : List Int) (f : Int → Nat) : Nat := (ks.map f).foldl (· * ·) 1
theorem prd_cons {k : Int} {ks : List Int} {f : Int → Nat} : prd (k :: ks) f = f k * prd ks f := by
  unfold prd
  rw [List.map_cons, List.foldl_cons, Nat.one_mul, foldl_mul]
theorem prd_one {f : Int → Nat} : ∀ {ks : List Int}, (∀ k ∈ ks, f k = 1) → prd ks f = 1
  | [], _ => rfl
  | k :: ks, h => by rw [prd_cons, h k List.mem_cons_self, prd_one fun j hj => h j (List.mem_cons_of_mem _ hj)]
theorem prd_congr {f g : Int → Nat} : ∀ {ks : List Int}, (∀ k ∈ ks, f k = g k) → prd ks f = prd ks g
  | [], _ => rfl
  | k :: ks, h => by rw [prd_cons, prd_cons, h k List.mem_cons_self, prd_congr fun j hj => h j (List.mem_cons_of_mem _ hj)]
theorem prd_put {f g : Int → Nat} {k0 : Int} {r : Nat} : ∀ {ks : List Int}, ks.Nodup → k0 ∈ ks → (∀ k ∈ ks, k ≠ k0 → f k = g k) → f k0 = r * g k0 → prd ks f = r * prd ks g
  | [], _, h, _, _ => by cases h
  | k :: ks, nd, h, he, h0 => by
    rw [List.nodup_cons] at nd
    rw [prd_cons, prd_cons]
    by_cases e : k = k0
    · subst e
      rw [h0, prd_congr (g := g) fun j hj => he j (List.mem_cons_of_mem _ hj) (fun z => nd.1 (by rw [← z]; exact hj)), Nat.mul_assoc]
    · have hm : k0 ∈ ks := (List.mem_cons.mp h).resolve_left fun z => e z.symm
      rw [he k List.mem_cons_self e, prd_put nd.2 hm (fun j hj => he j (List.mem_cons_of_mem _ hj)) h0]
      rw [Nat.mul_left_comm]
theorem fct_succ : ∀ n, n < 25 → fct (n + 1) = (n + 1) * fct n := by decide +kernel
theorem kinds_nodup (ls : List Int) : (kindsF ls).Nodup := by
  unfold kindsF
  refine List.Pairwise.filter _ ?_
  exact List.pairwise_map.mpr (List.Pairwise.imp (fun {a b} h => by omega) List.pairwise_lt_range)
theorem kinds_mem {ls : List Int} (hl : Lts ls) {l : Int} (h : l ∈ ls) : ((l.natAbs : Nat) : Int) ∈ kindsF ls := by
  obtain ⟨a, b⟩ := hl l h
  unfold kindsF
  rw [List.mem_filter, decide_eq_true_iff, List.mem_map]
  refine ⟨⟨l.natAbs - 1, List.mem_range.mpr (by omega), by omega⟩, ?_⟩
  rcases Int.natAbs_eq l with z | z
  · exact .inl (by rw [← z]; exact h)
  · exact .inr (by rw [← z]; exact h)
theorem kinds_pos {ls : List Int} {k : Int} (h : k ∈ kindsF ls) : 1 ≤ k := by
  unfold kindsF at h
  obtain ⟨i, _, e⟩ := List.mem_map.mp (List.mem_filter.mp h).1
  omega
theorem flat_len {α β : Type} {g : α → List β} {f : α → Bool} {c : Nat} : ∀ {row : List α}, (∀ q ∈ row, (g q).length = if f q = true then c else 0) → (row.map g).flatten.length = row.countP f * c
  | [], _ => by simp
  | q :: row, h => by
    rw [List.map_cons, List.flatten_cons, List.length_append, h q List.mem_cons_self, flat_len fun x hx => h x (List.mem_cons_of_mem _ hx), List.countP_cons]
    split
    · rw [Nat.add_mul, Nat.one_mul, Nat.add_comm]
    · rw [Nat.add_zero, Nat.zero_add]
theorem rem_le (ls : List Int) (m : List (Option Nat)) (l : Int) : rem ls m l ≤ ls.length := by
  have := List.countP_le_length (p := fun i => decide (m[i]? = some none) && decide (ls.getD i 0 = l)) (l := List.range ls.length)
  rw [List.length_range] at this
  exact this
theorem fill_len {ls : List Int} (hl : Lts ls) (h24 : ls.length ≤ 24) : ∀ (d : Nat) (m : List (Option Nat)), MtOk ls m → (∀ l, rem ls m l = rem ls m (-l)) → cN m < d → (fillF (prtF ls) d m).length = prd (kindsF ls) fun k => fct (rem ls m k)
  | 0, m, _, _, hd => absurd hd (Nat.not_lt_zero _)
  | d + 1, m, h, bal, hd => by
    by_cases no : m.any Option.isNone = true
    · have lp := fN_lt no
      have hp := fN_at no
      have lpl : fN m < ls.length := by rw [← h.1]; exact lp
      obtain ⟨l0, e0⟩ : ∃ l0, l0 = ls.getD (fN m) 0 := ⟨_, rfl⟩
      have m0 : l0 ∈ ls := by
        rw [e0, List.getD_eq_getElem?_getD, List.getElem?_eq_getElem lpl]
        exact List.getElem_mem lpl
      obtain ⟨k0, ek⟩ : ∃ k0 : Int, k0 = ((l0.natAbs : Nat) : Int) := ⟨_, rfl⟩
      have hk0 : k0 ∈ kindsF ls := by rw [ek]; exact kinds_mem hl m0
      have nz : l0 ≠ 0 := by rw [e0]; exact getD_ne hl lpl
      have r0 : rem ls m k0 = rem ls m (-l0) := by
        rcases Int.natAbs_eq l0 with z | z
        · rw [ek, ← z, bal l0]
        · rw [ek, show ((l0.natAbs : Nat) : Int) = -l0 by omega]
      have pos : 1 ≤ rem ls m k0 := by
        have : 0 < rem ls m l0 := by
          unfold rem
          rw [List.countP_pos_iff]
          exact ⟨fN m, List.mem_range.mpr lpl, by rw [decide_eq_true hp, ← e0, decide_eq_true rfl]; rfl⟩
        rw [r0, ← bal]
        exact this
      have each : ∀ q ∈ (prtF ls).getD (fN m) [], (fillG (prtF ls) d m q).length = if (decide (m[q]? = some none)) = true then prd (kindsF ls) (fun k => fct (if k = k0 then rem ls m k0 - 1 else rem ls m k)) else 0 := by
        intro q hq
        unfold fillG
        split
        · rename_i hn
          have hq2 := getD_none hn
          rw [if_pos (decide_eq_true hq2)]
          obtain ⟨a, b⟩ := prt_at lpl hq
          have nqp : q ≠ fN m := fun z => by
            rw [z, ← e0] at b
            omega
          have st := rem_step h.1 hp hq2 nqp
          rw [b, ← e0] at st
          have c2 := set2_cN hp hq2 nqp
          rw [fill_len hl h24 d _ (h.step hl hp hq2 b) (fun l => ?_) (by omega)]
          · clear hd h24 lp lpl pos r0 a b bal c2
            refine prd_congr fun k hk => ?_
            have kp := kinds_pos hk
            have s := st k
            clear st hk
            by_cases e : k = k0
            · subst e
              rw [if_pos rfl]
              congr 1
              rcases Int.natAbs_eq l0 with z | z
              · rw [if_neg (by omega), if_pos (by omega)] at s
                omega
              · rw [if_pos (by omega), if_neg (by omega)] at s
                omega
            · rw [if_neg e]
              congr 1
              rw [if_neg (by omega), if_neg (by omega)] at s
              omega
          · have s1 := st l
            have s2 := st (-l)
            have b1 := bal l
            clear hd h24 lp lpl pos r0 a b bal c2 st hk0 ek
            by_cases c1 : l0 = l
            · rw [if_pos c1] at s1
              rw [if_pos (show -l0 = -l by omega)] at s2
              rw [if_neg (show ¬ -l0 = l by omega)] at s1
              rw [if_neg (show ¬ l0 = -l by omega)] at s2
              omega
            · by_cases c2 : l0 = -l
              · rw [if_neg c1, if_pos (show -l0 = l by omega)] at s1
                rw [if_pos c2, if_neg (show ¬ -l0 = -l by omega)] at s2
                omega
              · rw [if_neg c1, if_neg (show ¬ -l0 = l by omega)] at s1
                rw [if_neg c2, if_neg (show ¬ -l0 = -l by omega)] at s2
                omega
        · rename_i hn
          rw [if_neg]
          · rfl
          · intro z
            rw [decide_eq_true_iff] at z
            exact hn (by rw [List.getD_eq_getElem?_getD, z]; rfl)
      rw [fill_yes no, flat_len each]
      have row : ((prtF ls).getD (fN m) []).countP (fun q => decide (m[q]? = some none)) = rem ls m k0 := by
        rw [r0]
        unfold prtF rem
        rw [List.getD_eq_getElem?_getD, List.getElem?_map, List.getElem?_eq_getElem lpl]
        show ((List.range ls.length).filter fun j => decide (ls.getD j 0 = -ls[fN m])).countP _ = _
        rw [List.countP_filter]
        have el : ls[fN m] = l0 := by
          rw [e0, List.getD_eq_getElem?_getD, List.getElem?_eq_getElem lpl]
          rfl
        rw [el]
      rw [row]
      symm
      refine prd_put (kinds_nodup ls) hk0 (fun k _ ne => by rw [if_neg ne]) ?_
      rw [if_pos rfl]
      have lt : rem ls m k0 - 1 < 25 := by
        have := rem_le ls m k0
        omega
      have := fct_succ _ lt
      rw [show rem ls m k0 - 1 + 1 = rem ls m k0 by omega] at this
      exact this
    · rw [fill_no (any_false no), prd_one fun k _ => by rw [rem_done (any_false no)]; decide +kernel]
      rfl
theorem mates_len {ls : List Int} (hl : Lts ls) (h24 : ls.length ≤ 24) (bal : ∀ l, ls.count l = ls.count (-l)) : (matesF (prtF ls)).length = manyF ls := by
  unfold matesF
  rw [fill_len hl h24 25 _ (start_ok ls) (fun l => by rw [rem_start, rem_start, bal]) ?_]
  · show prd _ _ = prd _ _
    refine prd_congr fun k _ => ?_
    rw [rem_start]
  · have := List.countP_le_length (p := Option.isNone) (l := List.replicate (prtF ls).length (none : Option Nat))
    rw [List.length_replicate, prt_len] at this
    unfold cN
    rw [prt_len]
    omega
end W16
set_option Elab.async false
set_option linter.all false
set_option maxRecDepth 100000
set_option maxHeartbeats 1000000
namespace W16
open PySem L2 PySem.Spec PyProof.Rows WR WB WE WS
/-! ### how many sewings plain words have -/
def dueN (cs : List Nat) : Nat := cs.foldr (fun c r => fct c * r) 1
abbrev U26 : List Int := (List.range 26).map fun (i : Nat) => (i : Int) + 1
theorem u26_nd : U26.Nodup := by decide +kernel
theorem u26_mem {k : Int} (h : 1 ≤ k ∧ k ≤ 26) : k ∈ U26 := List.mem_map.mpr ⟨(k - 1).toNat, List.mem_range.mpr (by omega), by omega⟩
theorem prd_filter {p : Int → Bool} {f : Int → Nat} : ∀ {ks : List Int}, (∀ k ∈ ks, p k = false → f k = 1) → prd (ks.filter p) f = prd ks f
  | [], _ => rfl
  | k :: r, h => by
    have ih := prd_filter (p := p) (f := f) (ks := r) fun x hx => h x (List.mem_cons_of_mem _ hx)
    cases e : p k with
    | true => rw [List.filter_cons_of_pos e, prd_cons, prd_cons, ih]
    | false => rw [List.filter_cons_of_neg (by rw [e]; exact Bool.false_ne_true), prd_cons, ih, h k List.mem_cons_self e, Nat.one_mul]
theorem rep_cntP {k z : Int} (hk : 1 ≤ k) (hz : 1 ≤ z) : ∀ c : Nat, (List.replicate c [k, -k]).flatten.count z = if z = k then c else 0
  | 0 => by
    show 0 = _
    split <;> rfl
  | c + 1 => by
    rw [List.replicate_succ, List.flatten_cons, List.count_append, rep_cntP hk hz c]
    show List.count z [k, -k] + _ = _
    rw [List.count_cons, List.count_cons, List.count_nil]
    have n1 : ((-k : Int) == z) = false := beq_eq_false_iff_ne.mpr (by omega)
    rw [n1]
    by_cases e : z = k
    · subst e
      simp
      omega
    · have n2 : (k == z) = false := beq_eq_false_iff_ne.mpr fun q => e q.symm
      rw [n2, if_neg e, if_neg e]
      rfl
theorem plF_none {z : Int} (hz : 1 ≤ z) {zs : List (Int × Nat)} (h : ∀ p ∈ zs, 1 ≤ p.1 ∧ p.1 ≠ z) : (plF zs).count z = 0 := by
  refine List.count_eq_zero.mpr fun m => ?_
  obtain ⟨p, hp, e⟩ := plF_mem m
  have := h p hp
  omega
theorem prd_plain : ∀ {zs : List (Int × Nat)}, (zs.map (·.1)).Nodup → (∀ p ∈ zs, 1 ≤ p.1 ∧ p.1 ≤ 26) → prd U26 (fun k => fct ((plF zs).count k)) = dueN (zs.map (·.2))
  | [], _, _ => prd_one fun _ _ => rfl
  | (k, c) :: r, nd, rg => by
    rw [List.map_cons, List.nodup_cons] at nd
    obtain ⟨hk1, hk2⟩ := rg (k, c) List.mem_cons_self
    have hr : ∀ p ∈ r, 1 ≤ p.1 ∧ p.1 ≤ 26 := fun p hp => rg p (List.mem_cons_of_mem _ hp)
    have ih := prd_plain nd.2 hr
    show _ = fct c * dueN (r.map (·.2))
    rw [← ih]
    have cnt : ∀ z : Int, 1 ≤ z → (plF ((k, c) :: r)).count z = (if z = k then c else 0) + (plF r).count z := fun z hz => by
      show ((List.replicate c [k, -k]).flatten ++ plF r).count z = _
      rw [List.count_append, rep_cntP hk1 hz]
    refine prd_put (k0 := k) u26_nd (u26_mem ⟨hk1, hk2⟩) (fun z hz ne => ?_) ?_
    · obtain ⟨i, _, rfl⟩ := List.mem_map.mp hz
      show fct _ = fct _
      rw [cnt _ (by omega), if_neg ne, Nat.zero_add]
    · show fct _ = fct c * fct _
      rw [cnt k hk1, if_pos rfl, plF_none hk1 fun p hp => ⟨(hr p hp).1, fun q => nd.1 (List.mem_map.mpr ⟨p, hp, q⟩)⟩, Nat.add_zero]
      show fct c = fct c * 1
      rw [Nat.mul_one]
theorem zip_sub : ∀ (ks : List Int) (cs : List Nat), ((ks.zip cs).map (·.1)).Sublist ks
  | [], _ => List.Sublist.slnil
  | k :: ks, [] => List.nil_sublist _
  | k :: ks, c :: cs => (zip_sub ks cs).cons_cons k
theorem many_plain {cs : List Nat} {ws : List (List Int)} {ks : List Int} (h : PlainOk cs ws ks) (hc : cs.length ≤ 26) : manyF ws.flatten = dueN cs := by
  show prd (U26.filter fun k => decide (k ∈ ws.flatten ∨ -k ∈ ws.flatten)) (fun k => fct (ws.flatten.count k)) = _
  rw [prd_filter fun k _ e => by
    have n : k ∉ ws.flatten := fun m => of_decide_eq_false e (.inl m)
    rw [List.count_eq_zero.mpr n]
    rfl]
  have e : (fun k => fct (ws.flatten.count k)) = fun k => fct ((plF (ks.zip cs)).count k) := funext fun k => by rw [h.pm.count_eq]
  have z1 : (ks.zip cs).map (·.2) = cs := List.map_snd_zip (by rw [h.len]; exact hc)
  have nd : ((ks.zip cs).map (·.1)).Nodup := by
    exact List.Sublist.nodup (zip_sub ks cs) h.nd
  rw [e, prd_plain nd fun p hp => h.rg _ (List.of_mem_zip hp).1, z1]
end W16
set_option Elab.async false
set_option linter.all false
set_option maxRecDepth 100000
set_option maxHeartbeats 1000000
namespace W16
open PySem L2 PySem.Spec PyProof.Rows WR WB WE WS SrtL SrtU
/-! ### the law -/
abbrev sLaw : Stmt := top 82
abbrev nLaw : List Str := ["_law_script", "_law_pen_here", "_law_turn", "_law_words", "_law_due", "_law_rims_here", "_law_still", "_law_order", "_law_turns", "_law_ways", "_law_some", "_law_by", "_law_is_back", "_law_later", "_law_places", "_law_named", "_law_last", "_law_word"]
theorem scLaw : FnScope nLaw ["_law_script"] (defScope sLaw) := ⟨rfl, rfl, rfl, by decide +kernel, rfl, by decide +kernel, by decide +kernel⟩
abbrev prD (p : Int × Int) : PyData := .tuple [.int p.1, .int p.2]
abbrev cenD (ps : List (Int × Int)) : PyData := .tuple (ps.map prD)
theorem prd_dp {K : PySem.W.Frag} {H : Hp} {vs : List V} {ps : List (Int × Int)} (h : All2 (PrT K H) vs ps) : DpAll K H vs (ps.map prD) := by
  induction h with
  | nil => exact .nil
  | cons e _ ih =>
    obtain ⟨q, rfl, hq⟩ := e
    exact .cons (.tup hq (.cons (.int _) (.cons (.int _) .nil))) ih
theorem dp_cen {K : PySem.W.Frag} {H : Hp} {q : Addr} {ps : List (Int × Int)} (h : CensAt K H q ps) : Dp K H (.ref q) (cenD ps) := by
  obtain ⟨vs, hB, h2⟩ := h
  exact .tup hB.sq (prd_dp h2)
theorem lay_cen : ∀ ps : List (Int × Int), PyData.canLayAll0 (ps.map prD) = true ∧ PyData.depthAll (ps.map prD) ≤ 1
  | [] => ⟨rfl, by simp [PyData.depthAll]⟩
  | p :: r => by
    obtain ⟨h1, h2⟩ := lay_cen r
    simp only [List.map_cons, PyData.canLayAll0, PyData.canLay0, PyData.depthAll, PyData.depth, h1, Bool.and_self, true_and] at h2 ⊢
    omega
theorem shaped_cen (ps : List (Int × Int)) : SeqAt.shaped (cenD ps) = true := by
  obtain ⟨h1, h2⟩ := lay_cen ps
  simp [SeqAt.shaped, PyData.canLay0, PyData.depth, h1]
  omega
theorem eqv_cen (ps : List (Int × Int)) : PyData.eqv (cenD ps) (cenD ps) = true := by
  obtain ⟨h1, _⟩ := lay_cen ps
  exact SeqAt.eqv_refl _ (by simpa only [PyData.canLay0] using h1)
theorem CensAt.drew {K : PySem.W.Frag} {H H' : Hp} {a c q : Addr} {n m : Nat} {ps : List (Int × Int)} (h : CensAt K H q ps) (hH : HandAt H a c n) (d : Drew a c m H H') : CensAt K H' q ps := by
  obtain ⟨vs, h1, h2⟩ := h
  obtain ⟨ns, i, r, ha, _⟩ := hH
  exact ⟨vs, SqB.keptL ha d.2 h1, h2.imp fun _ _ ⟨q, e, g⟩ => ⟨q, e, SqT.keptL ha d.2 g⟩⟩
theorem RimsAt.drew {K : PySem.W.Frag} {C CR : Addr} {H H' : Hp} {a c p : Addr} {n m : Nat} {xs : List Addr} {ws : List (List Int)} (h : RimsAt K C CR H p xs ws) (hH : HandAt H a c n) (d : Drew a c m H H') : RimsAt K C CR H' p xs ws := by
  obtain ⟨ns, i, r, hD, _⟩ := hH
  have kB : ∀ {b ys}, SqB K H b ys → SqB K H' b ys := fun h => SqB.keptL hD d.2 h
  have kI : ∀ {b C dx fs}, H b = some (.ins C dx fs) → H' b = some (.ins C dx fs) := fun {b C dx fs} e => d.2 _ _ (fun z => by rw [z, hD] at e; cases e) e
  obtain ⟨d2, tw, tl, th, tn, r1, r2, r3, r4, r5, r6⟩ := h
  refine ⟨d2, tw, tl, th, tn, kI r1, kB r2, r3.imp fun a ns wa => ?_, kB r4, kB r5, kB r6⟩
  obtain ⟨dx, tl, tk, ks, w1, w2, w3, w4⟩ := wa
  exact ⟨dx, tl, tk, ks, kI w1, kB w2, SqT.keptL hD d.2 w3, w4⟩
theorem lld_dec (A B : List (List Int)) : PyData.eqv (lld A) (lld B) = decide (A = B) := by
  show PyData.eqvAll (A.map fun w => .list (w.map .int)) (B.map fun w => .list (w.map .int)) = _
  induction A generalizing B with
  | nil =>
    cases B with
    | nil => rfl
    | cons b B => rfl
  | cons a A ih =>
    cases B with
    | nil => rfl
    | cons b B =>
      show (PyData.eqvAll (a.map .int) (b.map .int) && PyData.eqvAll (A.map fun w => .list (w.map .int)) (B.map fun w => .list (w.map .int))) = _
      rw [eqvAll_ints, ih B]
      by_cases e : a = b
      · by_cases e2 : A = B
        · simp [e, e2]
        · simp [e, e2]
      · simp [e]
theorem dp_lls {K : PySem.W.Frag} {H : Hp} {q : Addr} {us : List V} {ws : List (List Int)} (g : H q = some (.lst us)) (h : LLs H us ws) : Dp K H (.ref q) (lld ws) := by
  refine .lst (SqL.of g) ?_
  clear g
  induction h with
  | nil => exact .nil
  | cons h _ ih =>
    obtain ⟨t, rfl, ht⟩ := h
    exact .cons (.lst (SqL.of ht) (dp_ints _)) ih
theorem bal_of {cs : List Nat} {ws : List (List Int)} {ks : List Int} (h : PlainOk cs ws ks) (l : Int) : ws.flatten.count l = ws.flatten.count (-l) := by
  rw [h.pm.count_eq, h.pm.count_eq]
  have := plF_cnt0 l (ks.zip cs)
  omega
def LitI (ta : TA) (ns : List Int) : Prop := ∀ (σ : L2.St) (H : Hp) (Q : List V → Hp → Prop), Q (iv ns) H → ta σ H Q
def Lits (ta : TA) (cs : List (List Int)) : Prop := ∀ (σ : L2.St) (H : Hp) (Q : List V → Hp → Prop), (∀ us H', Same H H' → LLs H' us cs → Q us H') → ta σ H Q
theorem liti_nil : LitI tNil [] := fun _ _ _ q => q
theorem liti_cons {i : Int} {ns : List Int} {tr : TA} (h : LitI tr ns) : LitI (tCons (tC (.int i)) tr) (i :: ns) := fun σ H Q q => h σ H _ q
theorem lits_nil : Lits tNil [] := fun _ H _ q => q [] H (Same.refl _) .nil
theorem lits_cons {ta tr : TA} {ns : List Int} {cs : List (List Int)} (h1 : LitI ta ns) (hz : ns.length ≤ 1000) (h2 : Lits tr cs) : Lits (tCons (tLst ta) tr) (ns :: cs) := fun σ H Q q => by
  refine h1 σ H _ ⟨by rw [List.length_map]; exact Nat.le_trans hz (by decide), fun l hl => ?_⟩
  have s1 := same_upd (o := .lst (iv ns)) hl
  refine h2 σ _ _ fun us H' s2 hu => q _ _ (s1.trans s2) (.cons ⟨l, rfl, s2 _ _ upd_same⟩ hu)
theorem lst_lits {ta : TA} {cs : List (List Int)} {σ : L2.St} {H : Hp} {Q : VK} (hL : Lits ta cs) (h : ∀ us H', Same H H' → LLs H' us cs → us.length ≤ sizeLine ∧ ∀ l, H' l = none → Q (.ref l) (L2.upd H' l (.lst us))) : tLst ta σ H Q := hL σ H _ h
theorem lls_mem {H : Hp} {us : List V} {ws : List (List Int)} (h : LLs H us ws) {v : V} (hv : v ∈ us) : ∃ q, ∃ w ∈ ws, v = .ref q ∧ H q = some (.lst (iv w)) := by
  obtain ⟨i, hi, e⟩ := List.getElem_of_mem hv
  obtain ⟨w, hw, q, e2, g⟩ := h.at (List.getElem?_eq_getElem hi)
  exact ⟨q, w, List.mem_of_getElem? hw, by rw [← e, e2], g⟩
theorem ar1 {t : TE} {σ : L2.St} {H : Hp} {Q : List V → Hp → Prop} (h : t σ H fun x H2 => Q [x] H2) : tCons t tNil σ H Q := h
def CKs : List (List Int) := [[2, 1], [2, 2], [3], [3, 1], [2, 2, 1], [4], [2, 2, 2], [3, 2], [1, 1, 1], [3, 3], [4, 2]]
theorem CKs_ok : ∀ w ∈ CKs, w = nats (w.map Int.toNat) ∧ (w.map Int.toNat).length ≤ 4 ∧ 1 ≤ (w.map Int.toNat).sum ∧ (w.map Int.toNat).sum ≤ 12 ∧ dueN (w.map Int.toNat) ≤ 720 := by decide +kernel
def CenOk (ws : List (List Int)) : Prop := manyF ws.flatten ≤ 720 ∧ (sewF ws).length ≤ 1000
theorem Mv.cen {ws us : List (List Int)} {e p : Nat → Nat} {g : Int → Int} {back : Bool} (M : Mv ws us e p g back) (ok : RimOk ws) (bal : ∀ z, ws.flatten.count z = ws.flatten.count (-z)) (h : CenOk ws) : CenOk us := by
  obtain ⟨a1, a2, a3, a4, a5, a6⟩ := M.rim ok bal
  obtain ⟨b1, b2, b3, b4, b5, b6⟩ := ok
  have e1 : (sewF us).length = manyF us.flatten := mates_len a5 a4 (M.bal bal)
  have e2 : (sewF ws).length = manyF ws.flatten := mates_len b5 b4 bal
  have e3 := M.sewlen ⟨b1, b2, b3, b4, b5, b6⟩ bal
  obtain ⟨h1, h2⟩ := h
  exact ⟨by omega, by omega⟩
theorem HandAt.ne_lls {H : Hp} {a c l : Addr} {n : Nat} {us : List V} {ws : List (List Int)} (h : HandAt H a c n) (g : H l = some (.lst us)) (L : LLs H us ws) : l ≠ a := fun e => by
  obtain ⟨ns, i, r, ha, _⟩ := h
  rw [e, ha] at g
  injection g with g
  injection g with g
  subst g
  obtain ⟨w, _, q, e2, _⟩ := L.at (show ([V.ref c, V.int i, V.int r] : List V)[1]? = some (V.int i) from rfl)
  cases e2
theorem nxN_lt {ws : List (List Int)} (hne : ∀ w ∈ ws, w ≠ []) {i : Nat} (hi : i < ws.flatten.length) : nxN ws i < ws.flatten.length := by
  have hl : i < (nxF 0 ws).length := by rw [nxF_len]; exact hi
  have := nxF_rng ws 0 hne _ (List.getElem_mem hl)
  unfold nxN
  rw [getD_lt hl]
  omega
theorem lgo_no {a b w : Int} (h1 : a = w) (h2 : b = -w) (e : a = b) (r : 1 ≤ w.natAbs) : False := by omega
theorem lgo_neg {x y : Int} (h1 : x < 0) (h2 : y < 0) (e : -x = -y) : x = y := by omega
theorem lgo_facts {kvs : List (Key × V)} {z : Int → Int} {ls : List Int} (nok : NameOk kvs z ls) (hl : Lts ls) : (∀ x ∈ ls, lgo z (-x) = -lgo z x) ∧ (∀ x ∈ ls, ∀ y ∈ ls, lgo z x = lgo z y → x = y) ∧ ∀ x ∈ ls, 1 ≤ (lgo z x).natAbs ∧ (lgo z x).natAbs ≤ 26 := by
  have ab : ∀ x ∈ ls, (lgo z x).natAbs = (z (if x < 0 then -x else x)).natAbs ∧ (0 < x → lgo z x = z (if x < 0 then -x else x)) ∧ (x < 0 → lgo z x = -z (if x < 0 then -x else x)) := fun x hx => by
    have := hl x hx
    unfold lgo
    by_cases p : 0 < x
    · rw [if_pos p, if_neg (by omega : ¬ x < 0)]
      exact ⟨rfl, fun _ => rfl, fun q => by omega⟩
    · rw [if_neg p, if_pos (by omega : x < 0)]
      exact ⟨by omega, fun q => by omega, fun _ => rfl⟩
  refine ⟨fun x hx => ?_, fun x hx y hy q => ?_, fun x hx => ?_⟩
  · have := hl x hx
    unfold lgo
    by_cases p : 0 < x
    · rw [if_pos p, if_neg (by omega : ¬ 0 < -x), Int.neg_neg]
    · rw [if_neg p, if_pos (by omega : 0 < -x), Int.neg_neg]
  · have e := nok.inj x hx y hy (by rw [← (ab x hx).1, ← (ab y hy).1, q])
    have hx2 := hl x hx
    have hy2 := hl y hy
    have r := nok.rng x hx
    obtain ⟨_, px, nx⟩ := ab x hx
    obtain ⟨_, py, ny⟩ := ab y hy
    rw [← e] at py ny
    by_cases p : 0 < x
    · by_cases p2 : 0 < y
      · have x0 : ¬ x < 0 := by clear e r px nx py ny q; omega
        have y0 : ¬ y < 0 := by clear e r px nx py ny q; omega
        rw [if_neg x0, if_neg y0] at e
        exact e
      · have y0 : y < 0 := by clear e r px nx py ny q; omega
        exact (lgo_no (px p) (ny y0) q r.1).elim
    · have x0 : x < 0 := by clear e r px nx py ny q; omega
      by_cases p2 : 0 < y
      · exact (lgo_no (py p2) (nx x0) q.symm r.1).elim
      · have y0 : y < 0 := by clear e r px nx py ny q; omega
        rw [if_pos x0, if_pos y0] at e
        exact lgo_neg x0 y0 e
  · rw [(ab x hx).1]
    exact nok.rng x hx
/-- an order, turns and whether from behind -/
def WayAt (K : PySem.W.Frag) (H : Hp) (v : V) (w : List Nat × List Nat × Bool) : Prop := ∃ t o b, v = V.ref t ∧ SqT K H t [.ref o, .ref b, .bl w.2.2] ∧ H o = some (.lst (iv (nats w.1))) ∧ H b = some (.lst (iv (nats w.2.1)))
theorem WayAt.drew {K : PySem.W.Frag} {H H' : Hp} {a c : Addr} {n m : Nat} {v : V} {w : List Nat × List Nat × Bool} (h : WayAt K H v w) (hH : HandAt H a c n) (d : Drew a c m H H') : WayAt K H' v w := by
  obtain ⟨t, o, b, e, h1, h2, h3⟩ := h
  have n1 := hH.iv_ne' h2
  have n2 := hH.iv_ne' h3
  obtain ⟨ns, i, r, ha, _⟩ := hH
  exact ⟨t, o, b, e, SqT.keptL ha d.2 h1, d.2 _ _ n1 h2, d.2 _ _ n2 h3⟩
def spLaw (K : PySem.W.Frag) : Sp := fun vs H Q _ => ∃ (a : Addr) (ns : List Int), vs = [.ref a] ∧ SqL K H a (ns.map V.int) ∧ ns.length ≤ 63 ∧ ∀ H', Q (.bl true) H'
section
variable {P : Program} {w : World} {K : PySem.W.Frag} {mg : Str → Option Value} {base : Heap} {C CR CS : Addr}
theorem ok_Law {f : Addr} {fd : FuncData} (F : Fun K "law" "law" sLaw f fd) (N : TN mg) (ER : EqR P w K mg base C CR) (TC : TxRC K mg CR) (G_pen : Cal P w K mg base "_law_pen" 1 ["_law_script"] (spHand K)) (G_plain : Cal P w K mg base "_law_plain" 4 ["_law_pen_here", "_law_counts"] (spPlain)) (G_renamed : Cal P w K mg base "_law_renamed" 1 ["_law_words", "_law_names_here"] (spRen)) (G_moved : Cal P w K mg base "_law_moved" 2 ["_law_words", "_law_order", "_law_turns", "_law_is_back"] (spMov K)) (G_pick : Cal P w K mg base "_law_pick" 2 ["_law_pen_here", "_law_some"] (spPick)) (GC : Cal P w K mg base "census" 28 ["rims"] (spCens K C CR)) (G_rims : Cal P w K mg base "_law_rims" 6 ["_law_words"] (spLRims K C CR)) (G_mixed : Cal P w K mg base "_law_mixed" 2 ["_law_pen_here", "_law_some"] (spMixed)) (G_names : Cal P w K mg base "_law_names" 3 ["_law_pen_here", "_law_words"] (spNam)) (G_draw : Cal P w K mg base "_law_draw" 1 ["_law_pen_here", "_law_many"] (spTake)) (G_car : Cal P w K mg base "_law_carried_right" 8 ["_law_pen_here", "_law_words", "_law_later", "_law_places"] (spCar)) : FnOk P w K mg base CX0 29 f fd ["_law_script"] (spLaw K) := by
  refine F.ok scLaw (fun vs H Q E h => ?_) (fun cdv A outer s H vs Q E hr h => ?_)
  · obtain ⟨a, ns, rfl, _⟩ := h
    rfl
  · obtain ⟨a, ns, rfl, hS, hlen, k⟩ := h
    refine ⟨_, pss_cons (ps_set (i := 1) scLaw.nd rfl (Or.inr rfl) (pe_cal G_pen hr (by decide) (by rfl) (pa_cons (pv 0) pa_nil)))
      (pss_cons (ps_for PassesOwn.never rfl (pi_range1 (by rfl) N.range (pa_cons pe_int pa_nil)) (pg_name (i := 2) scLaw.nd rfl (Or.inl rfl))
      (pss_cons (ps_set (i := 3) scLaw.nd rfl (Or.inl rfl) (pe_cal G_plain hr (by decide) (by rfl) (pa_cons (pv 1) (pa_cons (pe_cal G_pick hr (by decide) (by rfl) (pa_cons (pv 1) (pa_cons (pe_lst (pa_cons (pe_lst (pa_cons pe_int (pa_cons pe_int pa_nil))) (pa_cons (pe_lst (pa_cons pe_int (pa_cons pe_int pa_nil))) (pa_cons (pe_lst (pa_cons pe_int pa_nil)) (pa_cons (pe_lst (pa_cons pe_int (pa_cons pe_int pa_nil))) (pa_cons (pe_lst (pa_cons pe_int (pa_cons pe_int (pa_cons pe_int pa_nil)))) (pa_cons (pe_lst (pa_cons pe_int pa_nil)) (pa_cons (pe_lst (pa_cons pe_int (pa_cons pe_int (pa_cons pe_int pa_nil)))) (pa_cons (pe_lst (pa_cons pe_int (pa_cons pe_int pa_nil))) (pa_cons (pe_lst (pa_cons pe_int (pa_cons pe_int (pa_cons pe_int pa_nil)))) (pa_cons (pe_lst (pa_cons pe_int (pa_cons pe_int pa_nil))) (pa_cons (pe_lst (pa_cons pe_int (pa_cons pe_int pa_nil))) pa_nil)))))))))))) pa_nil))) pa_nil))))
      (pss_cons (ps_par (i := 4) (j := 5) (by rfl) scLaw.nd rfl rfl (by decide) rfl rfl (pa_cons (pe_cal GC hr (by decide) (by rfl) (pa_cons (pe_cal G_rims hr (by decide) (by rfl) (pa_cons (pv 3) pa_nil)) pa_nil)) (pa_cons (pe_cal G_rims hr (by decide) (by rfl) (pa_cons (pv 3) pa_nil)) pa_nil)) (by rfl))
      (pss_cons (ps_set (i := 6) scLaw.nd rfl (Or.inl rfl) (pe_op op_rep (pe_lst (pa_cons pe_int pa_nil)) (pe_callB call_len_seq (by rfl) N.len PySem.boot_len (pa_cons (pv 3) pa_nil))))
      (pss_cons (ps_par (i := 7) (j := 8) (by rfl) scLaw.nd rfl rfl (by decide) rfl rfl (pa_cons (pe_cal G_mixed hr (by decide) (by rfl) (pa_cons (pv 1) (pa_cons (pe_listRg rfl (by rfl) N.list (prg_1 (by rfl) N.range (pe_callB call_len_seq (by rfl) N.len PySem.boot_len (pa_cons (pv 3) pa_nil)))) pa_nil))) (pa_cons (pe_lc (own := [("_law_word", 17)]) (g := gName 17) (tt := tYes) rfl scLaw.nd (pi_list (pv 3)) (blkOk_by (N := nLaw) (sc := defScope sLaw) (by decide +kernel)) (fun _ _ _ _ _ => (pg_name (i := 17) scLaw.nd rfl (Or.inl rfl))) (fun _ _ _ _ _ => pts_nil) (fun _ _ _ _ _ => (pe_cal G_draw hr (by decide) (by rfl) (pa_cons (pv 1) (pa_cons (pe_callB (call_lenK (K := K) rfl) (by rfl) N.len PySem.boot_len (pa_cons (pv 17) pa_nil)) pa_nil))))) pa_nil)) (by rfl))
      (pss_cons (ps_set (i := 9) scLaw.nd rfl (Or.inl rfl) (pe_lst (pa_cons (pe_tup (pa_cons (pe_listRg rfl (by rfl) N.list (prg_1 (by rfl) N.range (pe_callB call_len_seq (by rfl) N.len PySem.boot_len (pa_cons (pv 3) pa_nil)))) (pa_cons (pv 8) (pa_cons pe_bl pa_nil)))) (pa_cons (pe_tup (pa_cons (pv 7) (pa_cons (pv 6) (pa_cons pe_bl pa_nil)))) (pa_cons (pe_tup (pa_cons (pe_listRg rfl (by rfl) N.list (prg_1 (by rfl) N.range (pe_callB call_len_seq (by rfl) N.len PySem.boot_len (pa_cons (pv 3) pa_nil)))) (pa_cons (pv 6) (pa_cons pe_bl pa_nil)))) (pa_cons (pe_tup (pa_cons (pv 7) (pa_cons (pv 8) (pa_cons pe_bl pa_nil)))) pa_nil))))))
      (pss_cons (ps_for PassesOwn.never rfl (pi_list (pv 9)) (pg_tup (n := 3) rfl (pgs_cons (pg_name (i := 10) scLaw.nd rfl (Or.inl rfl)) (pgs_cons (pg_name (i := 11) scLaw.nd rfl (Or.inl rfl)) (pgs_cons (pg_name (i := 12) scLaw.nd rfl (Or.inl rfl)) pgs_nil))))
      (pss_cons (ps_asg (pe_cal G_moved hr (by decide) (by rfl) (pa_cons (pv 3) (pa_cons (pv 10) (pa_cons (pv 11) (pa_cons (pv 12) pa_nil))))) (pg_tup (n := 2) rfl (pgs_cons (pg_name (i := 13) scLaw.nd rfl (Or.inl rfl)) (pgs_cons (pg_name (i := 14) scLaw.nd rfl (Or.inl rfl)) pgs_nil))))
      (pss_cons (ps_if (PW.pt (pw_or (pt_cmpR (op_neD hr.units) (pe_cal GC hr (by decide) (by rfl) (pa_cons (pe_cal G_rims hr (by decide) (by rfl) (pa_cons (pv 13) pa_nil)) pa_nil)) (pv 4) (nomark _)) (pw_or1 (pt_not (pt_val (pe_cal G_car hr (by decide) (by rfl) (pa_cons (pv 1) (pa_cons (pv 3) (pa_cons (pv 13) (pa_cons (pv 14) pa_nil)))))))))) (pss_one (ps_ret pe_bl)) pss_nil)
      (pss_one (ps_if (pt_cmpR op_ne (pe_cmpR (op_eqR ER hr (by decide)) (pe_cal G_rims hr (by decide) (by rfl) (pa_cons (pv 13) pa_nil)) (pv 5) (nomark _)) (pe_cmpR (op_eqD hr.units) (pv 13) (pv 3) (nomark _)) (nomark _)) (pss_one (ps_ret pe_bl)) pss_nil)))))
      (pss_cons (ps_set (i := 15) scLaw.nd rfl (Or.inl rfl) (pe_cal G_renamed hr (by decide) (by rfl) (pa_cons (pv 3) (pa_cons (pe_cal G_names hr (by decide) (by rfl) (pa_cons (pv 1) (pa_cons (pv 3) pa_nil))) pa_nil))))
      (pss_cons (ps_if (PW.pt (pw_or (pt_cmpR (op_neD hr.units) (pe_cal GC hr (by decide) (by rfl) (pa_cons (pe_cal G_rims hr (by decide) (by rfl) (pa_cons (pv 15) pa_nil)) pa_nil)) (pv 4) (nomark _)) (pw_or1 (pt_not (pt_val (pe_cal G_car hr (by decide) (by rfl) (pa_cons (pv 1) (pa_cons (pv 3) (pa_cons (pv 15) (pa_cons (pe_listRg rfl (by rfl) N.list (prg_1 (by rfl) N.range (pe_fld (pv 5) rfl))) pa_nil)))))))))) (pss_one (ps_ret pe_bl)) pss_nil)
      (pss_cons (ps_asg (pe_cal G_moved hr (by decide) (by rfl) (pa_cons (pv 15) (pa_cons (pv 7) (pa_cons (pv 8) (pa_cons pe_bl pa_nil))))) (pg_tup (n := 2) rfl (pgs_cons (pg_name (i := 16) scLaw.nd rfl (Or.inl rfl)) (pgs_cons (pg_name (i := 14) scLaw.nd rfl (Or.inl rfl)) pgs_nil))))
      (pss_one (ps_if (PW.pt (pw_or (pt_cmpR (op_neD hr.units) (pe_cal GC hr (by decide) (by rfl) (pa_cons (pe_cal G_rims hr (by decide) (by rfl) (pa_cons (pv 16) pa_nil)) pa_nil)) (pv 4) (nomark _)) (pw_or1 (pt_not (pt_val (pe_cal G_car hr (by decide) (by rfl) (pa_cons (pv 1) (pa_cons (pv 3) (pa_cons (pv 16) (pa_cons (pv 14) pa_nil)))))))))) (pss_one (ps_ret pe_bl)) pss_nil))))))))))))
      (pss_one (ps_ret pe_bl))), ?_⟩
    refine ⟨_, rfl, a, ns, rfl, hS, by omega, fun H1 h c s1 hn cn hH1 => ?_⟩
    refine ⟨2, rfl, by decide, by decide, for_range (lo := 0) (n := 2) (fun i σ H' => (∃ v2 v3 v4 v5 v6 v7 v8 v9 v10 v11 v12 v13 v14 v15 v16 : Option V, σ = [some (.ref a), some (.ref h), v2, v3, v4, v5, v6, v7, v8, v9, v10, v11, v12, v13, v14, v15, v16, none]) ∧ HandAt H' h c (1000 * i)) ⟨⟨none, none, none, none, none, none, none, none, none, none, none, none, none, none, none, rfl⟩, hH1⟩ ?_ ?_⟩
    · rintro i σ H2 hi ⟨⟨v2, v3, v4, v5, v6, v7, v8, v9, v10, v11, v12, v13, v14, v15, v16, rfl⟩, hH2⟩
      refine ⟨_, rfl, _, rfl, ar1 (lst_lits (cs := CKs) (lits_cons (liti_cons (liti_cons liti_nil)) (by decide) (lits_cons (liti_cons (liti_cons liti_nil)) (by decide) (lits_cons (liti_cons liti_nil) (by decide) (lits_cons (liti_cons (liti_cons liti_nil)) (by decide) (lits_cons (liti_cons (liti_cons (liti_cons liti_nil))) (by decide) (lits_cons (liti_cons liti_nil) (by decide) (lits_cons (liti_cons (liti_cons (liti_cons liti_nil))) (by decide) (lits_cons (liti_cons (liti_cons liti_nil)) (by decide) (lits_cons (liti_cons (liti_cons (liti_cons liti_nil))) (by decide) (lits_cons (liti_cons (liti_cons liti_nil)) (by decide) (lits_cons (liti_cons (liti_cons liti_nil)) (by decide) lits_nil))))))))))) fun us H3 s3 hu => ⟨by rw [hu.length]; decide, fun O hO => ?_⟩)⟩
      have lu : us.length = 11 := hu.length
      have s4 := same_upd (o := .lst us) hO
      have gO : L2.upd H3 O (.lst us) O = some (.lst us) := upd_same
      have s24 := s3.trans s4
      have hH4 := hH2.same s24
      have Oh := (hH2.same s3).ne hO
      have hu4 := hu.same s4
      generalize L2.upd H3 O (.lst us) = H4 at s4 gO s24 hH4 hu4 ⊢
      refine ⟨h, c, O, us, 1000 * i, rfl, hH4, by omega, Oh, gO, by omega, by omega, fun v hv H5 d5 => ?_⟩
      obtain ⟨cq, cw, hcw, rfl, gq4⟩ := lls_mem hu4 hv
      have gq5 := d5.2 _ _ (hH4.iv_ne' gq4) gq4
      have cqh := d5.1.iv_ne' gq5
      obtain ⟨k1, k2, k3, k4, k5⟩ := CKs_ok cw hcw
      refine ⟨h, c, cq, cw.map Int.toNat, 1000 * i + 1, rfl, d5.1, cqh, by rw [← k1]; exact gq5, by omega, k3, by omega, by omega, fun p H6 ws_ wl ks hp6 d6 gp6 L6 pok => ?_⟩
      have rok := pok.ok k4
      have bal := bal_of pok
      have due := many_plain pok (by omega)
      obtain ⟨o1, o2, o3, o4, o5, o6⟩ := id rok
      have cen : CenOk wl := ⟨by omega, by rw [show (sewF wl).length = manyF wl.flatten from mates_len o5 o4 bal]; omega⟩
      have hH6 := d6.1
      have ph : p ≠ h := d5.1.ne hp6
      clear hp6 d6 gq5 d5 gq4 hv hu4 hH4 s24 gO s4 hu hO s3 cqh hcw
      refine at_set ?_
      try dsimp only
      -- its census, its rims
      refine seqN fun N1 hN1 => ?_
      refine ⟨_, rfl, p, ws_, wl, rfl, gp6, L6, rok, fun rp H7 xs7 s7 R7 => ?_⟩
      refine ⟨rp, xs7, wl, rfl, R7, rok, cen.1, cen.2, fun qd H8 s8 K8 => ?_⟩
      have s68 := s7.trans s8
      refine ⟨_, rfl, p, ws_, wl, rfl, s68 _ _ gp6, L6.same s68, rok, fun rh H9 xs9 s9 R9 => ⟨_, _, rfl, ?_⟩⟩
      have s69 := s68.trans s9
      have gp9 := s69 _ _ gp6
      have L9 := L6.same s69
      have K9 := K8.same s9
      have hH9 := hH6.same s69
      refine hN1 _ _ ?_
      try dsimp only
      refine seqN fun N2 hN2 => STP.asg ?_
      refine ⟨by show 1 ≤ sizeLine; decide, fun q0 hq0 => ?_⟩
      have sa := same_upd (o := .lst [.int 0]) hq0
      have lw : ws_.length = wl.length := L6.length
      refine ⟨_, rfl, p, ws_, rfl, .inl (SqL.of (sa _ _ gp9)), q0, _, _, rfl, rfl, upd_same, by omega, by omega, Evl.sz_of (by show 1 * ((((ws_).length : Nat) : Int)).toNat ≤ _; omega), fun st hst => ?_⟩
      have sb := same_upd (o := .lst (List.replicate (((ws_).length : Nat) : Int).toNat [V.int 0]).flatten) hst
      have gst : L2.upd (L2.upd H9 q0 (.lst [.int 0])) st (.lst (List.replicate (((ws_).length : Nat) : Int).toNat [V.int 0]).flatten) st = some (.lst (iv (nats (List.replicate wl.length 0)))) := by
        rw [upd_same, Int.toNat_natCast, lw]
        simp [iv, nats]
      have sab := sa.trans sb
      generalize L2.upd (L2.upd H9 q0 (.lst [.int 0])) st (.lst (List.replicate (((ws_).length : Nat) : Int).toNat [V.int 0]).flatten) = HA at gst sab ⊢
      clear sa sb hst hq0
      refine STP.name ?_
      refine hN2 _ _ ?_
      try dsimp only
      have gpA := sab _ _ gp9
      have LA := L9.same sab
      have KA := K9.same sab
      have RA := R9.same sab
      have hHA := hH9.same sab
      refine seqN fun N3 hN3 => ?_
      refine ⟨_, rfl, _, rfl, p, ws_, rfl, .inl (SqL.of gpA), _, rfl, ?_⟩
      refine ⟨⟨by omega, by omega, by omega, by omega, by omega⟩, fun q1 hq1 => ?_⟩
      rw [lw, rgV_nats]
      have sq := same_upd (o := .lst (iv (nats (List.range wl.length)))) hq1
      have lrg : (iv (nats (List.range wl.length))).length = wl.length := by unfold nats; rw [List.length_map, List.length_map, List.length_range]
      refine ⟨h, c, q1, _, _, rfl, hHA.same sq, upd_same, by rw [lrg]; omega, by omega, fun lo HB ys hlo dB gB pm => ?_⟩
      obtain ⟨ks1, pk1, rfl⟩ := perm_map pm _ rfl
      obtain ⟨ord, po, rfl⟩ := perm_map pk1 _ rfl
      have dB' : Drew h c (1000 * i + 1 + 200 + wl.length) HA HB := ⟨dB.1.mono (by rw [lrg]; omega), (Kept.ofS sq).trans dB.2⟩
      have gpB := dB'.2 _ _ ph gpA
      have LB := LA.drew hHA dB'
      have KB := KA.drew hHA dB'
      have RB := RA.drew hHA dB'
      have gstB := dB'.2 _ _ (hHA.iv_ne' gst) gst
      have hHB := dB'.1
      clear dB pm pk1 gst gpA LA KA RA hq1 sq
      -- turns are drawn
      refine STP.cons (STP.lc ?_)
      refine ⟨_, rfl, p, rfl, ⟨_, SqL.of gpB⟩, fun D hD => ?_⟩
      have hDh := hHB.ne hD
      have hDc := hHB.neC hD
      refine lc_list (K := K) (a := p) (xs := ws_) (fun j H' => Drew h c (1000 * i + 1 + 200 + wl.length + j) HB H' ∧ ∃ ts : List Nat, H' D = some (.lst (iv (nats ts))) ∧ ts.length = j) ⟨(Drew.refl hHB).new hD, [], upd_same, rfl⟩ (fun j H' _ h => SqL.of (h.1.2 _ _ ph gpB)) ?_ ?_
      · rintro j x H7 hx ⟨D7, ts, gD, lts⟩
        obtain ⟨wd, hwd, qw, rfl, gqw⟩ := LB.at hx
        have gq7 := D7.2 _ _ (hHB.iv_ne' gqw) gqw
        have lwd : wd.length ≤ 24 := Nat.le_trans (word_le (List.mem_of_getElem? hwd)) o4
        have pwd : 0 < wd.length := List.length_pos_iff.mpr (o3 wd (List.mem_of_getElem? hwd))
        have lj : j < wl.length := (List.getElem?_eq_some_iff.mp hwd).1
        refine ⟨rfl, yes_te ?_⟩
        refine ⟨_, rfl, _, rfl, qw, _, rfl, .inl (SqL.of gq7), h, c, _, _, rfl, D7.1, by omega, by rw [List.length_map]; omega, Nat.lt_of_le_of_lt (show ((((iv wd).length : Nat) : Int)).natAbs ≤ 1000 by rw [List.length_map]; omega) (by decide), fun H8 y y0 y1 hH8 hK8 => ?_⟩
        obtain ⟨yn, rfl⟩ : ∃ yn : Nat, y = (yn : Int) := ⟨y.toNat, by omega⟩
        have gD8 := hK8 _ _ hDh gD
        refine ⟨iv (nats ts), gD8, Evl.sz_lt (by unfold nats; rw [List.length_map, List.length_map]; omega), (D7.trans ⟨hH8, hK8⟩).put hD hDh hDc, ts ++ [yn], ?_, by rw [List.length_append, lts]; rfl⟩
        rw [upd_same]
        simp [iv, nats]
      rintro HC ⟨dC, ts, gtsC, lts⟩
      rw [lw] at lts dC
      have gpC := dC.2 _ _ ph gpB
      have LC := LB.drew hHB dC
      have KC := KB.drew hHB dC
      have RC := RB.drew hHB dC
      have gstC := dC.2 _ _ (hHB.iv_ne' gstB) gstB
      have goC := dC.2 _ _ (hHB.iv_ne' gB) gB
      have hHC := dC.1
      refine ⟨_, _, rfl, ?_⟩
      refine hN3 _ _ ?_
      try dsimp only
      -- the ways
      refine seqN fun N4 hN4 => STP.asg (STP.lst (STP.cons ?_))
      refine ⟨_, rfl, p, ws_, rfl, .inl (SqL.of gpC), _, rfl, ⟨by omega, by omega, by omega, by omega, by omega⟩, fun r1 hr1 => ⟨_, rfl, by show 3 ≤ sizeLine; decide, fun t1 ht1 => ?_⟩⟩
      rw [lw, rgV_nats] at ht1 ⊢
      have z1 := same_upd (o := .lst (iv (nats (List.range wl.length)))) hr1
      have z2 := same_upd (o := .tup [.ref r1, .ref D, .bl false]) ht1
      have x1 := z2 _ _ (show L2.upd HC r1 (.lst (iv (nats (List.range wl.length)))) r1 = some (.lst (iv (nats (List.range wl.length)))) from upd_same)
      have y1 : (L2.upd (L2.upd HC r1 (.lst (iv (nats (List.range wl.length))))) t1 (.tup [.ref r1, .ref D, .bl false])) t1 = some (.tup [.ref r1, .ref D, .bl false]) := upd_same
      have z12 := z1.trans z2
      generalize L2.upd (L2.upd HC r1 (.lst (iv (nats (List.range wl.length))))) t1 (.tup [.ref r1, .ref D, .bl false]) = HD1 at x1 y1 z12 ⊢
      refine ⟨_, rfl, _, rfl, by show 3 ≤ sizeLine; decide, fun t2 ht2 => ?_⟩
      have z3 := same_upd (o := .tup [.ref lo, .ref st, .bl false]) ht2
      have y2 : (L2.upd HD1 t2 (.tup [.ref lo, .ref st, .bl false])) t2 = some (.tup [.ref lo, .ref st, .bl false]) := upd_same
      have x1 := z3 _ _ x1
      have y1 := z3 _ _ y1
      have z13 := z12.trans z3
      generalize L2.upd HD1 t2 (.tup [.ref lo, .ref st, .bl false]) = HD2 at x1 y1 y2 z13 ⊢
      refine ⟨_, rfl, p, ws_, rfl, .inl (SqL.of (z13 _ _ gpC)), _, rfl, ⟨by omega, by omega, by omega, by omega, by omega⟩, fun r3 hr3 => ⟨_, rfl, by show 3 ≤ sizeLine; decide, fun t3 ht3 => ?_⟩⟩
      rw [lw, rgV_nats] at ht3 ⊢
      have z4 := same_upd (o := .lst (iv (nats (List.range wl.length)))) hr3
      have z5 := same_upd (o := .tup [.ref r3, .ref st, .bl true]) ht3
      have x3 := z5 _ _ (show L2.upd HD2 r3 (.lst (iv (nats (List.range wl.length)))) r3 = some (.lst (iv (nats (List.range wl.length)))) from upd_same)
      have y3 : (L2.upd (L2.upd HD2 r3 (.lst (iv (nats (List.range wl.length))))) t3 (.tup [.ref r3, .ref st, .bl true])) t3 = some (.tup [.ref r3, .ref st, .bl true]) := upd_same
      have z45 := z4.trans z5
      have x1 := z45 _ _ x1
      have y1 := z45 _ _ y1
      have y2 := z45 _ _ y2
      have z15 := z13.trans z45
      generalize L2.upd (L2.upd HD2 r3 (.lst (iv (nats (List.range wl.length))))) t3 (.tup [.ref r3, .ref st, .bl true]) = HD3 at x1 y1 y2 x3 y3 z15 ⊢
      refine ⟨_, rfl, _, rfl, by show 3 ≤ sizeLine; decide, fun t4 ht4 => ?_⟩
      have z6 := same_upd (o := .tup [.ref lo, .ref D, .bl true]) ht4
      have y4 : (L2.upd HD3 t4 (.tup [.ref lo, .ref D, .bl true])) t4 = some (.tup [.ref lo, .ref D, .bl true]) := upd_same
      have x1 := z6 _ _ x1
      have y1 := z6 _ _ y1
      have y2 := z6 _ _ y2
      have x3 := z6 _ _ x3
      have y3 := z6 _ _ y3
      have z16 := z15.trans z6
      generalize L2.upd HD3 t4 (.tup [.ref lo, .ref D, .bl true]) = HD4 at x1 y1 y2 x3 y3 y4 z16 ⊢
      refine ⟨by show 4 ≤ sizeLine; decide, fun wy hwy => ?_⟩
      have z7 := same_upd (o := .lst [.ref t1, .ref t2, .ref t3, .ref t4]) hwy
      have gwy : (L2.upd HD4 wy (.lst [.ref t1, .ref t2, .ref t3, .ref t4])) wy = some (.lst [.ref t1, .ref t2, .ref t3, .ref t4]) := upd_same
      have zC := z16.trans z7
      obtain ⟨wys, ewys⟩ : ∃ wys : List (List Nat × List Nat × Bool), wys = [(List.range wl.length, ts, false), (ord, List.replicate wl.length 0, false), (List.range wl.length, List.replicate wl.length 0, true), (ord, ts, true)] := ⟨_, rfl⟩
      have W0 : All2 (WayAt K (L2.upd HD4 wy (.lst [.ref t1, .ref t2, .ref t3, .ref t4]))) [.ref t1, .ref t2, .ref t3, .ref t4] wys := by
        rw [ewys]
        exact .cons ⟨t1, r1, D, rfl, SqT.of (z7 _ _ y1), z7 _ _ x1, zC _ _ gtsC⟩ (.cons ⟨t2, lo, st, rfl, SqT.of (z7 _ _ y2), zC _ _ goC, zC _ _ gstC⟩ (.cons ⟨t3, r3, st, rfl, SqT.of (z7 _ _ y3), z7 _ _ x3, zC _ _ gstC⟩ (.cons ⟨t4, lo, D, rfl, SqT.of (z7 _ _ y4), zC _ _ goC, zC _ _ gtsC⟩ .nil)))
      have gp := zC _ _ gpC
      have LL_ := LC.same zC
      have KK := KC.same zC
      have RR := RC.same zC
      have gts := zC _ _ gtsC
      have go := zC _ _ goC
      have hHH := hHC.same zC
      generalize L2.upd HD4 wy (.lst [.ref t1, .ref t2, .ref t3, .ref t4]) = HE at gwy W0 gp LL_ KK RR gts go hHH ⊢
      clear z7 z16 z6 z15 z45 z13 z3 z12 z1 z2 z4 z5 x1 y1 y2 x3 y3 y4 zC gpC LC KC RC gtsC goC gstC hHC hwy ht4 ht3 hr3 ht2 ht1 hr1
      refine STP.name ?_
      refine hN4 _ _ ?_
      try dsimp only
      refine seqN fun N5 hN5 => ?_
      have wok : ∀ x ∈ wys, x.1.Perm (List.range wl.length) ∧ x.2.1.length = wl.length := by
        rw [ewys]
        intro x hx
        simp only [List.mem_cons, List.mem_nil_iff, or_false] at hx
        rcases hx with rfl | rfl | rfl | rfl
        · exact ⟨List.Perm.refl _, lts⟩
        · exact ⟨po, List.length_replicate⟩
        · exact ⟨List.Perm.refl _, List.length_replicate⟩
        · exact ⟨po, lts⟩
      have wyh : wy ≠ h := fun e => by
        obtain ⟨ns', i', r', e', _⟩ := hHH
        rw [← e, gwy] at e'
        cases e'
      obtain ⟨n0, en0⟩ : ∃ n0, n0 = 1000 * i + 1 + 200 + wl.length + wl.length := ⟨_, rfl⟩
      rw [← en0] at hHH
      refine ⟨_, rfl, wy, rfl, ⟨_, SqL.of gwy⟩, for_list (K := K) (a := wy) (xs := [.ref t1, .ref t2, .ref t3, .ref t4]) (fun j σ H' => (∃ v10 v11 v12 v13 v14 : Option V, σ = [some (.ref a), some (.ref h), some (.int (0 + (i : Int))), some (.ref p), some (.ref qd), some (.ref rh), some (.ref st), some (.ref lo), some (.ref D), some (.ref wy), v10, v11, v12, v13, v14, v15, v16, none]) ∧ Drew h c (n0 + 100 * j) HE H') ⟨⟨v10, v11, v12, v13, v14, rfl⟩, Drew.refl hHH⟩ (fun j σ H' _ hI_ => by obtain ⟨_, d⟩ := hI_; exact SqL.of (d.2 _ _ wyh gwy)) ?_ ?_⟩
      · rintro j x σ HF hx ⟨⟨v10, v11, v12, v13, v14, rfl⟩, dF⟩
        obtain ⟨wv, hwv, Wv⟩ := W0.at hx
        have j4 : j < 4 := (List.getElem?_eq_some_iff.mp hx).1
        obtain ⟨wp, wlen⟩ := wok wv (List.mem_of_getElem? hwv)
        obtain ⟨tw, ow, bw, rfl, y1, x1, x2⟩ := Wv.drew hHH dF
        have gpF := dF.2 _ _ ph gp
        have LF := LL_.drew hHH dF
        have KF := KK.drew hHH dF
        have RF := RR.drew hHH dF
        have hHF := dF.1
        refine ⟨tw, _, rfl, y1, rfl, _, _, rfl, _, _, rfl, _, _, rfl, rfl, ?_⟩
        obtain ⟨M, lpl⟩ := moved_mv (ts := wv.2.1) (back := wv.2.2) o3 o5 wp
        refine seqN fun N9 hN9 => STP.asg ?_
        refine ⟨_, rfl, _, rfl, _, rfl, _, rfl, p, ow, bw, wv.2.2, ws_, wl, wv.1, wv.2.1, rfl, gpF, LF, o3, o2, o4, x1, (fun k hk => List.mem_range.mp (wp.mem_iff.mp hk)), by rw [wp.length_eq, List.length_range]; exact o2, x2, wlen, fun tt l q HG us2 sG tG gl L2 gq => ?_⟩
        refine ⟨tt, _, rfl, tG, rfl, _, _, rfl, _, _, rfl, rfl, ?_⟩
        refine hN9 _ _ ?_
        obtain ⟨us2w, eus⟩ : ∃ u, u = usF wl wv.1 wv.2.1 wv.2.2 := ⟨_, rfl⟩
        obtain ⟨plw, epl⟩ : ∃ u, u = plcF wl wv.1 wv.2.1 wv.2.2 := ⟨_, rfl⟩
        rw [← eus] at M L2
        rw [← epl] at M lpl gq
        have rok2 := M.rim rok bal
        have cen2 := M.cen rok bal cen
        refine seqN fun NA hNA => ?_
        refine ⟨_, rfl, l, us2, us2w, rfl, gl, L2, rok2, fun rp2 H7 xs2 s7 R7 => ?_⟩
        refine ⟨rp2, xs2, us2w, rfl, R7, rok2, cen2.1, cen2.2, fun qd2 H8 s8 K8 => ?_⟩
        have sF8 := sG.trans (s7.trans s8)
        have sG8 := s7.trans s8
        refine ⟨_, rfl, cenD _, cenD _, dp_cen K8, dp_cen (KF.same sF8), shaped_cen _, shaped_cen _, _, rfl, iteF' (by rw [M.census rok bal, eqv_cen]; rfl) ?_⟩
        have gl8 := sG8 _ _ gl
        have L28 := L2.same sG8
        have hH8 := hHF.same sF8
        refine ⟨_, rfl, _, rfl, _, rfl, _, rfl, h, c, p, l, q, _, ws_, us2, wl, us2w, plw, _, _, wv.2.2, rfl, hH8, by omega, ph, hH8.ne_lls gl8 L28, sF8 _ _ gpF, LF.same sF8, gl8, L28, sG8 _ _ gq, lpl, rok, bal, M, fun H9 d9 => ⟨_, rfl, iteF ?_⟩⟩
        have gl9 := d9.2 _ _ (hH8.ne_lls gl8 L28) gl8
        have L29 := L28.drew hH8 d9
        have gp9' := d9.2 _ _ ph (sF8 _ _ gpF)
        have L9' := (LF.same sF8).drew hH8 d9
        have R9' := (RF.same sF8).drew hH8 d9
        refine STP.nx (hNA _ _ ?_)
        refine ⟨_, rfl, l, us2, us2w, rfl, gl9, L29, rok2, fun rp3 HA3 xs3 sA3 RA3 => ?_⟩
        refine ⟨_, rfl, rp3, rh, _, _, us2w, wl, rfl, rfl, RA3, R9'.same sA3, _, rfl, _, rfl, lld us2w, lld wl, dp_lls (sA3 _ _ gl9) (L29.same sA3), dp_lls (sA3 _ _ gp9') (L9'.same sA3), lld_shaped _, lld_shaped _, ?_⟩
        rw [lld_dec]
        refine ⟨rfl, _, rfl, iteF' (by simp) ?_⟩
        refine ⟨⟨_, _, _, _, _, rfl⟩, ?_⟩
        exact ⟨(d9.1.same sA3).mono (by omega), (dF.2.trans (Kept.ofS sF8)).trans (d9.2.trans (Kept.ofS sA3))⟩
      rintro σ HF ⟨⟨v10, v11, v12, v13, v14, rfl⟩, dF⟩
      have gpF := dF.2 _ _ ph gp
      have LF := LL_.drew hHH dF
      have KF := KK.drew hHH dF
      have RF := RR.drew hHH dF
      have gtsF := dF.2 _ _ (hHH.iv_ne' gts) gts
      have goF := dF.2 _ _ (hHH.iv_ne' go) go
      have hHF : HandAt HF h c (n0 + 400) := dF.1
      clear dF gts go RR KK LL_ gp W0 gwy hHH wok ewys wyh
      refine hN5 _ _ ?_
      try dsimp only
      refine seqN fun N6 hN6 => STP.asg ?_
      refine ⟨_, rfl, _, rfl, _, rfl, h, c, p, _, ws_, wl, rfl, hHF, by omega, ph, gpF, LF, o4, o5, fun dd HG kvs z hd dG gd nok => ?_⟩
      have gpG := dG.2 _ _ ph gpF
      have LG := LF.drew hHF dG
      have KG := KF.drew hHF dG
      have RG_ := RF.drew hHF dG
      have gtsG := dG.2 _ _ (hHF.iv_ne' gtsF) gtsF
      have goG := dG.2 _ _ (hHF.iv_ne' goF) goF
      refine ⟨p, dd, ws_, wl, kvs, z, rfl, gpG, LG, by omega, by omega, gd, nok.all, fun l HI us2 sI gl L2 => ?_⟩
      refine at_set ?_
      refine hN6 _ _ ?_
      try dsimp only
      obtain ⟨f1, f2, f3⟩ := lgo_facts nok o5
      have M1 := ren_mv o3 f1 f2 f3
      obtain ⟨nw, enw⟩ : ∃ nw, nw = wl.map fun w => w.map (lgo z) := ⟨_, rfl⟩
      have M1' : Mv wl nw (fun i => i) (fun k => k) (lgo z) false := by rw [enw]; exact M1
      rw [← enw] at L2
      have hHI := dG.1.same sI
      have gpI := sI _ _ gpG
      have LI_ := LG.same sI
      have KI := KG.same sI
      have RI := RG_.same sI
      have gtsI := sI _ _ gtsG
      have goI := sI _ _ goG
      have rokn := M1'.rim rok bal
      have cenn := M1'.cen rok bal cen
      refine seqN fun N7 hN7 => ?_
      refine ⟨_, rfl, l, us2, nw, rfl, gl, L2, rokn, fun rp2 H7 xs2 s7 R7 => ?_⟩
      refine ⟨rp2, xs2, nw, rfl, R7, rokn, cenn.1, cenn.2, fun qd2 H8 s8 K8 => ?_⟩
      have sI8 := s7.trans s8
      refine ⟨_, rfl, cenD _, cenD _, dp_cen K8, dp_cen (KI.same sI8), shaped_cen _, shaped_cen _, _, rfl, iteF' (by rw [M1'.census rok bal, eqv_cen]; rfl) ?_⟩
      have gl8 := sI8 _ _ gl
      have L28 := L2.same sI8
      have hH8 := hHI.same sI8
      have RI8 := RI.same sI8
      obtain ⟨dxh, twh, tlh, thh, tnh, hI1, _⟩ := id RI8
      have n24 : wl.flatten.length ≤ 24 := o4
      refine ⟨_, rfl, _, rfl, _, rfl, _, rfl, rh, CR, dxh, _, _, rfl, hI1, TC.cl, TC.n3, rf_many, _, rfl, ⟨by omega, by omega, by omega, by omega, by omega⟩, fun r hr => ?_⟩
      rw [rgV_nats]
      have sr := same_upd (o := .lst (iv (nats (List.range wl.flatten.length)))) hr
      have gr : upd H8 r (.lst (iv (nats (List.range wl.flatten.length)))) r = some (.lst (iv (nats (List.range wl.flatten.length)))) := upd_same
      have hHr := hH8.same sr
      have sIr := sI8.trans sr
      generalize upd H8 r (.lst (iv (nats (List.range wl.flatten.length)))) = HJ at gr sr sIr hHr ⊢
      have M1c : Mv wl nw (fun i => (List.range wl.flatten.length).getD i 0) (fun k => k) (lgo z) false := M1'.congr (fun i hi => by
        show (List.range wl.flatten.length).getD i 0 = i
        rw [List.getD_eq_getElem?_getD, List.getElem?_range hi]
        rfl) fun i hi => by
          have := nxN_lt M1'.ne (i := i) (by rw [M1'.len]; exact hi)
          rwa [M1'.len] at this
      have glJ := sIr _ _ gl
      have L2J := L2.same sIr
      refine ⟨h, c, p, l, r, _, ws_, us2, wl, nw, List.range wl.flatten.length, _, _, false, rfl, hHr, by omega, ph, hHr.ne_lls glJ L2J, sIr _ _ gpI, LI_.same sIr, glJ, L2J, gr, List.length_range, rok, bal, M1c, fun H9 d9 => ⟨_, rfl, iteF ?_⟩⟩
      have gl9 := d9.2 _ _ (hHr.ne_lls glJ L2J) glJ
      have L29 := L2J.drew hHr d9
      have gp9' := d9.2 _ _ ph (sIr _ _ gpI)
      have L9' := (LI_.same sIr).drew hHr d9
      have K9' := (KI.same sIr).drew hHr d9
      have gts9 := d9.2 _ _ (hHr.iv_ne' (sIr _ _ gtsI)) (sIr _ _ gtsI)
      have go9 := d9.2 _ _ (hHr.iv_ne' (sIr _ _ goI)) (sIr _ _ goI)
      have hH9' := d9.1
      refine STP.nx (hN7 _ _ (seqN fun N8 hN8 => STP.asg ?_))
      have pon : ord.Perm (List.range nw.length) := by rw [M1'.many]; exact po
      obtain ⟨M2, lpl2⟩ := moved_mv (ts := ts) (back := true) M1'.ne M1'.ltsOk pon
      refine ⟨_, rfl, _, rfl, _, rfl, l, lo, D, true, us2, nw, ord, ts, rfl, gl9, L29, M1'.ne, by rw [M1'.many]; exact o2, by rw [M1'.len]; exact o4, go9, (fun k hk => List.mem_range.mp (pon.mem_iff.mp hk)), by rw [po.length_eq, List.length_range]; exact o2, gts9, by rw [M1'.many]; exact lts, fun tt l3 q3 HK us3 sK tK gl3 L3 gq3 => ?_⟩
      refine ⟨tt, _, rfl, tK, rfl, _, _, rfl, _, _, rfl, rfl, ?_⟩
      refine hN8 _ _ ?_
      rw [enw] at M2
      have M3 := M2.ren f1 f2
      rw [← enw] at M3
      obtain ⟨us3w, eus⟩ : ∃ u, u = usF nw ord ts true := ⟨_, rfl⟩
      obtain ⟨plw, epl⟩ : ∃ u, u = plcF nw ord ts true := ⟨_, rfl⟩
      rw [← eus] at M3 L3
      rw [← epl] at M3 lpl2 gq3
      have rok3 := M3.rim rok bal
      have cen3 := M3.cen rok bal cen
      refine ⟨_, rfl, l3, us3, us3w, rfl, gl3, L3, rok3, fun rp4 HL xs4 sL RL => ?_⟩
      refine ⟨rp4, xs4, us3w, rfl, RL, rok3, cen3.1, cen3.2, fun qd4 HM sM KM => ?_⟩
      have sKM := sL.trans sM
      have s9M := sK.trans sKM
      refine ⟨_, rfl, cenD _, cenD _, dp_cen KM, dp_cen (K9'.same s9M), shaped_cen _, shaped_cen _, _, rfl, iteF' (by rw [M3.census rok bal, eqv_cen]; rfl) ?_⟩
      have glM := sKM _ _ gl3
      have L3M := L3.same sKM
      have hHM := hH9'.same s9M
      refine ⟨_, rfl, _, rfl, _, rfl, _, rfl, h, c, p, l3, q3, _, ws_, us3, wl, us3w, plw, _, _, true, rfl, hHM, by omega, ph, hHM.ne_lls glM L3M, s9M _ _ gp9', L9'.same s9M, glM, L3M, sKM _ _ gq3, lpl2.trans M1'.len, rok, bal, M3, fun HN dN => ⟨_, rfl, iteF ?_⟩⟩
      exact ⟨⟨_, _, _, _, _, _, _, _, _, _, _, _, _, _, _, rfl⟩, dN.1.mono (by omega)⟩
    · rintro σ H' _
      exact k _
end
end W16
set_option Elab.async false
set_option linter.all false
set_option maxRecDepth 100000
set_option maxHeartbeats 1000000
namespace W16
open PySem L2 PySem.Spec PyProof.Rows WR WB WE
abbrev sRimOf : Stmt := inClass (top 54) 4
abbrev nRimOf : List Str := ["self", "place"]
theorem scRimOf : FnScope nRimOf ["self", "place"] (defScope sRimOf) := ⟨rfl, rfl, rfl, by decide +kernel, rfl, by decide +kernel, by decide +kernel⟩
section
variable {P : Program} {w : World} {K : PySem.W.Frag} {mg : Str → Option Value} {base : Heap} {C CR : Addr}
theorem ok_rimOf {f : Addr} {fd : FuncData} (F : Fun K "rim_of" "Rims.rim_of" sRimOf f fd) (TC : TxRC K mg CR) (GP : Cal P w K mg base "need_place" 3 ["rims", "value"] (spNeedPl K C CR)) : FnOk P w K mg base CX0 4 f fd ["self", "place"] (spNextR K C CR (hmF 0)) := by
  refine F.ok scRimOf (fun vs H Q E h => ?_) (fun cdv A outer s H vs Q E hr h => ?_)
  · obtain ⟨p, i, xs, ws, rfl, _⟩ := h
    rfl
  · obtain ⟨p, i, xs, ws, rfl, R1, i1, k⟩ := h
    refine ⟨_, pss_cons (ps_expr (pe_cal GP hr (by decide) (by rfl) (pa_cons (pv 0) (pa_cons (pv 1) pa_nil))))
      (pss_one (ps_ret (pe_ix ix_tup (pe_fld (pv 0) rfl) (pv 1) (fun _ _ => rfl)))), ?_⟩
    refine ⟨_, rfl, _, rfl, p, _, xs, ws, rfl, R1, by omega, by omega, ?_⟩
    obtain ⟨dx, tw, tl, th, tn, h1, _, _, _, h5, _⟩ := R1
    have lt : i < (hmF 0 ws).length := by rw [hmF_len]; exact i1
    exact ⟨_, rfl, p, CR, dx, _, _, rfl, h1, TC.cl, TC.n6, rf_homes, _, rfl, th, _, _, _, rfl, rfl, h5.sq, atI_nat (iv_get (List.getElem?_eq_getElem lt)), k _ (List.getElem?_eq_getElem lt)⟩
end
end W16
set_option Elab.async false
set_option linter.all false
set_option maxRecDepth 100000
set_option maxHeartbeats 1000000
/-! the law's own call: no repr is under way, and lambdas' tables stand empty. -/
namespace RG
open PySem L2 PySem.Spec PyProof.Rows
section
variable {P : Program} {w : World} {K : PySem.W.Frag} {s : Shared} {a : Addr} {vs : List Value} {ns : List Int} {cs : List (Addr × Addr)}
def tblO : Obj := { cls := .none, data := .fields #[] }
structure Tbls (K : PySem.W.Frag) (h : Heap) (cs : List (Addr × Addr)) : Prop where
  at_ : ∀ p ∈ cs, h.get? p.2 = some tblO
  out : ∀ p ∈ cs, K.lookup p.2 = none
  hd : ∀ p ∈ cs, PySem.W.CodeHd h p.1 p.2
theorem Tbls.mem {h : Heap} (T : Tbls K h cs) {b : Addr} (hb : b ∈ cs.map (·.2)) : h.get? b = some tblO ∧ K.lookup b = none := by
  obtain ⟨p, hp, rfl⟩ := List.mem_map.mp hb
  exact ⟨T.at_ p hp, T.out p hp⟩
end
end RG
set_option Elab.async false
set_option linter.all false
set_option maxRecDepth 100000
set_option maxHeartbeats 1000000
/-! a law's end over a head that is one run: what is known of the module is told by a Hook (the written part K is what the Hook found). -/
namespace RG
open PySem L2 PySem.Spec PyProof.Rows
/-! ### facts -/
/-- a def as it stands, no defaults -/
theorem fn_of_says {K : PySem.W.Frag} {x q : Str} {a : Arguments} {b : List Stmt} {sc : Scope} {f : Addr} {fd : FuncData} (F : FunD K x q a b sc [] [] f fd) :
    ∃ (oc : Value) (od : Option Addr) (kV doc pm cdv ct : Value) (an : Option Addr) (osl : Array (Option Value)), K.lookup f = some ⟨oc, od, .func (PySem.W.fnOf x q a b sc .none kV doc pm an cdv ct), osl⟩ ∧ PySem.W.codeIn K cdv q = true ∧ PySem.W.keepIn K (.ref f) = true := by
  obtain ⟨oc, od, dV, kV, doc, pm, an, cdv, ct, osl, rfl, lk, c, dv, _⟩ := F.ex
  rcases dv with ⟨_, rfl⟩ | ⟨h, _⟩
  · exact ⟨oc, od, kV, doc, pm, cdv, ct, an, osl, lk, c, F.kp⟩
  · exact absurd rfl h
/-! ### the Hook: what is looked at, by names -/
open He in
/-- the objects of the names xs, of the methods ms (of classes among xs), and what each of them names -/
def asN (g : Addr → Option Obj) (xs : List Str) (ms : List (Str × Str)) : List Addr :=
  (fun A => (fun B => (fun M => mainGlobals :: (A ++ (B ++ (M ++ M.flatMap fun a => match g a with
    | some o => refsD o
    | none => []))))
    (ms.map fun p => ma (frG g (mainGlobals :: (A ++ B))) (ga (frG g [mainGlobals]) p.1) p.2))
    (A.flatMap fun a => match g a with
    | some o => refsD o
    | none => []))
    (xs.map fun x => ga (frG g [mainGlobals]) x)
open He in
/-- what is told: the defs, the Bool ex, the defs' tables: empty, not in K -/
structure SaysR (fn : List DefD) (tf : List Defn) (ex : PySem.W.Frag → Bool) (h : Heap) (K : PySem.W.Frag) : Prop where
  d : SaysD [] fn K
  more : ex K = true
  hd : ∀ p ∈ tf, PySem.W.codeHdIn K (cT K p).1 (cT K p).2 = true
  out : ∀ p ∈ tf, K.lookup (cT K p).2 = none
  empty : ∀ p ∈ tf, h.get? (cT K p).2 = some { cls := .none, data := .fields #[] }
open He in
def obsR (as : List Addr) (fn : List DefD) (tf : List Defn) (ex : PySem.W.Frag → Bool) (g : Addr → Option Obj) : AlD × Bool := (obsD [] fn (frT g as), ex (frT g as) && tabsB g tf (frT g as))
open He in
theorem saysR_of {as : List Addr} {fn : List DefD} {tf : List Defn} {ex : PySem.W.Frag → Bool} {h : Heap} (e : obsR as fn tf ex h.get? = (valD fn, true)) : SaysR fn tf ex h (frT h.get? as) := by
  have e1 : obsD [] fn (frT h.get? as) = valD fn := congrArg (fun z : AlD × Bool => z.1) e
  have e2 : (ex (frT h.get? as) && tabsB h.get? tf (frT h.get? as)) = true := congrArg (fun z : AlD × Bool => z.2) e
  obtain ⟨e3, e4⟩ := ba e2
  have each : ∀ p ∈ tf, PySem.W.codeHdIn (frT h.get? as) (cT (frT h.get? as) p).1 (cT (frT h.get? as) p).2 = true ∧ ∃ o, h.get? (cT (frT h.get? as) p).2 = some o ∧ emptyTab o = true := fun p hp => by
    obtain ⟨e5, e6⟩ := ba (List.all_eq_true.mp e4 p hp)
    refine ⟨e5, ?_⟩
    generalize h.get? (cT (frT h.get? as) p).2 = q at e6
    cases q with
    | none => exact Bool.noConfusion e6
    | some o => exact ⟨o, rfl, e6⟩
  refine ⟨e1, e3, fun p hp => (each p hp).1, fun p hp => ?_, fun p hp => ?_⟩
  · obtain ⟨_, o, q, z⟩ := each p hp
    exact frT_none q z
  · obtain ⟨_, o, q, z⟩ := each p hp
    rw [q, emptyTab_eq z]
open He in
def hookR (xs : List Str) (ms : List (Str × Str)) (fn : List DefD) (tf : List Defn) (ex : PySem.W.Frag → Bool) : PySem.W.Hook where
  α := AlD × Bool
  obs := fun s => obsR (asN s.heap.get? xs ms) fn tf ex s.heap.get?
  val := fun _ => (valD fn, true)
  says := fun _ h => ∃ K : PySem.W.Frag, K.In h ∧ SaysR fn tf ex h K
  of := fun _ _ e => ⟨_, frT_in, saysR_of e⟩
  keeps := fun _ _ _ ⟨K, hK, c⟩ k => ⟨K, PySem.W.Frag.In.keeps hK k, ⟨c.d, c.more, c.hd, c.out, fun p hp => k _ _ (c.empty p hp)⟩⟩
theorem obsR_eq {xs : List Str} {ms : List (Str × Str)} {fn : List He.DefD} {tf : List He.Defn} {ex : PySem.W.Frag → Bool} {g : Addr → Option Obj} {s : Shared} (h : ∀ a, g a = s.heap.get? a) : obsR (asN g xs ms) fn tf ex g = (hookR xs ms fn tf ex).obs s := by
  have e : g = s.heap.get? := funext h
  rw [e] <;> rfl
theorem in_part {a : He.DefD} {l r : List He.DefD} (h : a ∈ l) : a ∈ l ++ r := List.mem_append.mpr (.inl h)
theorem in_rest {a : He.DefD} {l r : List He.DefD} (h : a ∈ r) : a ∈ l ++ r := List.mem_append.mpr (.inr h)
end RG
set_option Elab.async false
set_option linter.all false
set_option maxRecDepth 100000
set_option maxHeartbeats 1000000
namespace W16
open PySem L2 PySem.Spec PyProof.Rows WR WB WE WS
/-! ### what the top has written -/
structure FF (K : PySem.W.Frag) (mg : Str → Option Value) (x : Str) (st : Stmt) : Prop where
  ex : ∃ (f : Addr) (oc : Value) (od : Option Addr) (kV doc pm cdv ct : Value) (an : Option Addr) (osl : Array (Option Value)),
    K.lookup f = some ⟨oc, od, .func (PySem.W.fnOf x x (defArgs st) (defBody st) (defScope st) .none kV doc pm an cdv ct), osl⟩ ∧ PySem.W.codeIn K cdv x = true ∧ PySem.W.keepIn K (.ref f) = true ∧ mg x = some (.ref f)
theorem ff_mk {K : PySem.W.Frag} {mg : Str → Option Value} {h : Heap} {x : Str} {st : Stmt} {f : Addr} {oc : Value} {od an : Option Addr} {kV doc pm cdv ct : Value} {osl : Array (Option Value)} (X : K.In h) (G : h.Ns mainGlobals mg)
    (a : PySem.W.nsIn K mainGlobals x = some (some (.ref f))) (l : K.lookup f = some ⟨oc, od, .func (PySem.W.fnOf x x (defArgs st) (defBody st) (defScope st) .none kV doc pm an cdv ct), osl⟩) (c : PySem.W.codeIn K cdv x = true) (k : PySem.W.keepIn K (.ref f) = true) : FF K mg x st :=
  ⟨f, oc, od, kV, doc, pm, cdv, ct, an, osl, l, c, k, PySem.W.mg_of X G a⟩
/-- a def in the class's body, held by the class -/
structure FM (K : PySem.W.Frag) (C : Addr) (m q : Str) (st : Stmt) : Prop where
  ex : ∃ (f : Addr) (oc : Value) (od : Option Addr) (kV doc pm cdv ct : Value) (an : Option Addr) (osl : Array (Option Value)),
    PySem.W.findIn K (.ref C) m = some (some (.ref f)) ∧ PySem.W.isFn K (.ref f) = true ∧
    K.lookup f = some ⟨oc, od, .func (PySem.W.fnOf m q (defArgs st) (defBody st) (defScope st) .none kV doc pm an cdv ct), osl⟩ ∧ PySem.W.codeIn K cdv q = true ∧ PySem.W.keepIn K (.ref f) = true
theorem fm_mk {K : PySem.W.Frag} {C : Addr} {m q : Str} {st : Stmt} {f : Addr} {oc : Value} {od an : Option Addr} {kV doc pm cdv ct : Value} {osl : Array (Option Value)}
    (a : PySem.W.findIn K (.ref C) m = some (some (.ref f))) (i : PySem.W.isFn K (.ref f) = true) (l : K.lookup f = some ⟨oc, od, .func (PySem.W.fnOf m q (defArgs st) (defBody st) (defScope st) .none kV doc pm an cdv ct), osl⟩) (c : PySem.W.codeIn K cdv q = true) (k : PySem.W.keepIn K (.ref f) = true) : FM K C m q st :=
  ⟨f, oc, od, kV, doc, pm, cdv, ct, an, osl, a, i, l, c, k⟩
section
variable {P : Program} {w : World} {K : PySem.W.Frag} {mg : Str → Option Value} {base : Heap} {x m q : Str} {C : Addr} {st : Stmt} {k : Nat} {ps ks : List Str} {sp : Sp}
theorem FF.cal (F : FF K mg x st) (ok : ∀ f fd, Fun K x x st f fd → FnOk P w K mg base CX0 k f fd ps sp)
    (hb : ∀ (kV doc pm : Value) (an : Option Addr) (cdv ct : Value) (us : List Value), us.length = ps.length → bindArgs (PySem.W.fnOf x x (defArgs st) (defBody st) (defScope st) .none kV doc pm an cdv ct) ⟨us, []⟩ = pure (ps.zip us)) : Cal P w K mg base x k ps sp := by
  obtain ⟨f, oc, od, kV, doc, pm, cdv, ct, an, osl, l, c, kp, m⟩ := F.ex
  exact ⟨f, _, ok f _ (fun_mk l c kp), m, kp, (fun_mk l c kp).binds hb⟩
/-- a def that calls itself: its promise may use where it stands -/
theorem FF.calR (F : FF K mg x st) (ok : ∀ f fd, Fun K x x st f fd → mg x = some (.ref f) → Binds K fd ps [] → FnOk P w K mg base CX0 k f fd ps sp)
    (hb : ∀ (kV doc pm : Value) (an : Option Addr) (cdv ct : Value) (us : List Value), us.length = ps.length → bindArgs (PySem.W.fnOf x x (defArgs st) (defBody st) (defScope st) .none kV doc pm an cdv ct) ⟨us, []⟩ = pure (ps.zip us)) : Cal P w K mg base x k ps sp := by
  obtain ⟨f, oc, od, kV, doc, pm, cdv, ct, an, osl, l, c, kp, m⟩ := F.ex
  exact ⟨f, _, ok f _ (fun_mk l c kp) m ((fun_mk l c kp).binds hb), m, kp, (fun_mk l c kp).binds hb⟩
/-- a class's __init__ -/
theorem FM.made (F : FM K C m q st) (hm : m = "__init__") (mks : PySem.W.makesIn K C = true) (kc : PySem.W.keepIn K (.ref C) = true) (ok : ∀ f fd, Fun K m q st f fd → FnOk P w K mg base CX0 k f fd ps sp)
    (hb : ∀ (kV doc pm : Value) (an : Option Addr) (cdv ct : Value) (us : List Value), us.length = ps.length → bindArgs (PySem.W.fnOf m q (defArgs st) (defBody st) (defScope st) .none kV doc pm an cdv ct) ⟨us, []⟩ = pure (ps.zip us)) : ∃ (f : Addr) (fd : FuncData), Mk K C f ∧ FnOk P w K mg base CX0 k f fd ps sp ∧ Binds K fd ps [] := by
  subst hm
  obtain ⟨f, oc, od, kV, doc, pm, cdv, ct, an, osl, a, i, l, c, kp⟩ := F.ex
  exact ⟨f, _, ⟨mks, a, i, kc⟩, ok f _ (fun_mk l c kp), (fun_mk l c kp).binds hb⟩
end
structure Names (mg : Str → Option Value) : Prop where
  isinstance : mg "isinstance" = none
  int : mg "int" = none
  bool : mg "bool" = none
  str : mg "str" = none
  list : mg "list" = none
  tuple : mg "tuple" = none
  all : mg "all" = none
  len : mg "len" = none
  abs : mg "abs" = none
  range : mg "range" = none
  sorted : mg "sorted" = none
  set : mg "set" = none
  enumerate : mg "enumerate" = none
  max : mg "max" = none
  min : mg "min" = none
  zip : mg "zip" = none
  repr : mg "repr" = none
  sum : mg "sum" = none
  kind : ∃ t, mg "MOST_KIND" = some (.int 26 t)
  most : ∃ t, mg "MOST_LETTERS" = some (.int 500 t)
  words : ∃ t, mg "MOST_WORDS" = some (.int 4 t)
  places : ∃ t, mg "MOST_PLACES" = some (.int 24 t)
  sews : ∃ t, mg "MOST_SEWINGS" = some (.int 720 t)
  factorial : mg "factorial" = some (.builtin "math.factorial")
structure Defs (K : PySem.W.Frag) (mg : Str → Option Value) (C CR CS : Addr) : Prop where
  d_sIsInt : FF K mg "is_integer" sIsInt
  d_sWithin : FF K mg "is_within" sWithin
  d_sLetter : FF K mg "is_letter" sLetter
  d_sListed : FF K mg "is_listed" sListed
  d_sAreI : FF K mg "are_integers" sAreI
  d_sShr : FF K mg "shortened_letters" sShr
  d_sRnd : FF K mg "rounded_letters" sRnd
  d_sKinds : FF K mg "kinds_of" sKinds
  d_sBalOf : FF K mg "balance_of" sBalOf
  d_sPaired : FF K mg "are_paired" sPaired
  d_sFill : FF K mg "fill_mates" sFill
  d_sAllM : FF K mg "all_mates" sAllM
  d_sJoined : FF K mg "joined" sJoined
  d_sFilled : FF K mg "is_filled" sFilled
  d_sFew : FF K mg "need_few_letters" sFew
  d_sNeedB : FF K mg "need_balanced" sNeedB
  d_sNeedR : FF K mg "need_rims" sNeedR
  d_sFewP : FF K mg "need_few_places" sFewP
  d_sNexts : FF K mg "nexts_of" sNexts
  d_sAreM : FF K mg "are_mates" sAreM
  d_sCorn : FF K mg "corners_of" sCorn
  d_sPieces : FF K mg "pieces_of" sPieces
  d_sMany : FF K mg "many_sewings" sMany
  d_sAllS : FF K mg "all_sewings" sAllS
  d_sCens : FF K mg "census" sCens
  d_sNeedPl : FF K mg "need_place" sNeedPl
  d_sJar : FF K mg "_law_pen" sJar
  d_sDraw : FF K mg "_law_draw" sDraw
  d_sPick : FF K mg "_law_pick" sPick
  d_sMixed : FF K mg "_law_mixed" sMixed
  d_sCut : FF K mg "_law_cut" sCut
  d_sPlain : FF K mg "_law_plain" sPlain
  d_sLRims : FF K mg "_law_rims" sLRims
  d_sLets : FF K mg "_law_letters" sLets
  d_sMates : FF K mg "_law_mates" sMates
  d_sBeg : FF K mg "_law_begins" sBeg
  d_sMov : FF K mg "_law_moved" sMov
  d_sRen : FF K mg "_law_renamed" sRen
  d_sNam : FF K mg "_law_names" sNam
  d_sCar : FF K mg "_law_carried_right" sCar
  d_sLots : FF K mg "_law_lots" sLots
  d_sLaw : FF K mg "law" sLaw
  m_sInit : FM K C "__init__" "Word.__init__" sInit
  m_sEq : FM K C "__eq__" "Word.__eq__" sEq
  m_sInitR : FM K CR "__init__" "Rims.__init__" sInitR
  m_sEqR : FM K CR "__eq__" "Rims.__eq__" sEqR
  m_sNextR : FM K CR "next" "Rims.next" sNextR
  m_sRimOf : FM K CR "rim_of" "Rims.rim_of" sRimOf
  m_sInitS : FM K CS "__init__" "Sewing.__init__" sInitS
structure ClsC (K : PySem.W.Frag) (mg : Str → Option Value) (C : Addr) : Prop where
  cl : Cls K C
  n1 : NoAttr K C "letters"
  n2 : NoAttr K C "length"
  n3 : NoAttr K C "kinds"
  n4 : NoAttr K C "is_short"
  n5 : NoAttr K C "is_short_round"
  ca : PySem.W.findIn K (.ref C) "__class__" = some (some (.builtin "object.__class__"))
  cm : PySem.W.mroIn K C (.type "object") = some true
  mks : PySem.W.makesIn K C = true
  kc : PySem.W.keepIn K (.ref C) = true
  mgC : mg "Word" = some (.ref C)
  cn : PySem.W.specialIn K (.builtin "object.__class__") "__get__" = some (some (.builtin "getset_descriptor.__get__"))
  ct : PySem.W.takesIn K (.builtin "object.__class__") = some true
structure ClsCR (K : PySem.W.Frag) (mg : Str → Option Value) (C : Addr) : Prop where
  cl : Cls K C
  n1 : NoAttr K C "words"
  n2 : NoAttr K C "letters"
  n3 : NoAttr K C "many"
  n4 : NoAttr K C "bands"
  n5 : NoAttr K C "is_short"
  n6 : NoAttr K C "homes"
  n7 : NoAttr K C "nexts"
  ca : PySem.W.findIn K (.ref C) "__class__" = some (some (.builtin "object.__class__"))
  cm : PySem.W.mroIn K C (.type "object") = some true
  mks : PySem.W.makesIn K C = true
  kc : PySem.W.keepIn K (.ref C) = true
  mgC : mg "Rims" = some (.ref C)
structure ClsCS (K : PySem.W.Frag) (mg : Str → Option Value) (C : Addr) : Prop where
  cl : Cls K C
  n1 : NoAttr K C "rims"
  n2 : NoAttr K C "mates"
  n3 : NoAttr K C "corners"
  n4 : NoAttr K C "cost"
  n5 : NoAttr K C "pieces"
  n6 : NoAttr K C "handles"
  ca : PySem.W.findIn K (.ref C) "__class__" = some (some (.builtin "object.__class__"))
  cm : PySem.W.mroIn K C (.type "object") = some true
  mks : PySem.W.makesIn K C = true
  kc : PySem.W.keepIn K (.ref C) = true
  mgC : mg "Sewing" = some (.ref C)
theorem law_mk {P : Program} {w : World} {K : PySem.W.Frag} {mg : Str → Option Value} {base : Heap} {C CR CS fL : Addr} {fdL : FuncData} (N : Names mg) (D : Defs K mg C CR CS) (WC : ClsC K mg C) (WCR : ClsCR K mg CR) (WCS : ClsCS K mg CS) (FL : Fun K "law" "law" sLaw fL fdL) : FnOk P w K mg base CX0 29 fL fdL ["_law_script"] (spLaw K) := by
  have tA : TxA mg := ⟨N.tuple, N.len⟩
  have tB : TxB mg := ⟨N.sorted, N.abs⟩
  have tC : TxC mg := ⟨N.kind, N.all⟩
  have tI : TxI mg := ⟨N.isinstance, N.int, N.bool, N.str, N.list, N.tuple⟩
  have tL : TxL mg := ⟨N.int, N.len, N.abs⟩
  have tR : TxR mg := ⟨N.words, N.places, N.range, N.enumerate⟩
  have tW : TxW K mg C := ⟨WC.cl, WC.n1, WC.n2, WC.n3, WC.n4, WC.n5, WC.ca, WC.cn, WC.ct, WC.cm, WC.mgC, N.most, N.isinstance, N.all⟩
  have tRC : TxRC K mg CR := ⟨WCR.cl, WCR.n1, WCR.n2, WCR.n3, WCR.n4, WCR.n5, WCR.n6, WCR.n7, WCR.mgC, WCR.ca, WCR.cm⟩
  have tSC : TxSC K mg CS := ⟨WCS.cl, WCS.n1, WCS.n2, WCS.n3, WCS.n4, WCS.n5, WCS.n6, WCS.mgC, WCS.ca, WCS.cm⟩
  have cInt : Cal P w K mg base "is_integer" 1 ["value"] spIsInt := D.d_sIsInt.cal (fun f fd F => ok_isInt F tI) (fun _ _ _ _ _ _ us hl => match us, hl with | [_], _ => rfl)
  have cWithin : Cal P w K mg base "is_within" 2 ["value", "least", "most"] spWithin := D.d_sWithin.cal (fun f fd F => ok_within F cInt) (fun _ _ _ _ _ _ us hl => match us, hl with | [_, _, _], _ => rfl)
  have cLetter : Cal P w K mg base "is_letter" 3 ["value"] spLetter := D.d_sLetter.cal (fun f fd F => ok_letter F cWithin tC) (fun _ _ _ _ _ _ us hl => match us, hl with | [_], _ => rfl)
  have cListE : Cal P w K mg base "is_listed" 1 ["value"] (spListE K) := D.d_sListed.cal (fun f fd F => ok_listE F tI) (fun _ _ _ _ _ _ us hl => match us, hl with | [_], _ => rfl)
  have cFew : Cal P w K mg base "need_few_letters" 1 ["many"] spFew := D.d_sFew.cal (fun f fd F => ok_few F tW) (fun _ _ _ _ _ _ us hl => match us, hl with | [_], _ => rfl)
  have cKinds : Cal P w K mg base "kinds_of" 1 ["letters"] (spKinds K) := D.d_sKinds.cal (fun f fd F => ok_kinds F tA tB) (fun _ _ _ _ _ _ us hl => match us, hl with | [_], _ => rfl)
  have cShr : Cal P w K mg base "shortened_letters" 1 ["letters"] (spShr K) := D.d_sShr.cal (fun f fd F => ok_shr F tA) (fun _ _ _ _ _ _ us hl => match us, hl with | [_], _ => rfl)
  have cRnd : Cal P w K mg base "rounded_letters" 2 ["letters"] (spRnd K) := D.d_sRnd.cal (fun f fd F => ok_rnd F cShr tA) (fun _ _ _ _ _ _ us hl => match us, hl with | [_], _ => rfl)
  have mW : MkW P w K mg base C := ⟨D.m_sInit.made rfl WC.mks WC.kc (fun f fd F => ok_init F tW tA cListE cLetter cFew cKinds cShr cRnd) (fun _ _ _ _ _ _ us hl => match us, hl with | [_, _], _ => rfl)⟩
  have cBal : Cal P w K mg base "balance_of" 2 ["letters"] (spBalOf K) := D.d_sBalOf.cal (fun f fd F => ok_balOf F tA cKinds) (fun _ _ _ _ _ _ us hl => match us, hl with | [_], _ => rfl)
  have cFilled : Cal P w K mg base "is_filled" 1 ["value"] (spFilled K C) := D.d_sFilled.cal (fun f fd F => ok_filled F tW) (fun _ _ _ _ _ _ us hl => match us, hl with | [_], _ => rfl)
  have cFewP : Cal P w K mg base "need_few_places" 1 ["many"] spFewP := D.d_sFewP.cal (fun f fd F => ok_fewP F tR) (fun _ _ _ _ _ _ us hl => match us, hl with | [_], _ => rfl)
  have cNeedB : Cal P w K mg base "need_balanced" 3 ["letters"] (spNeedB K) := D.d_sNeedB.cal (fun f fd F => ok_needB F cBal) (fun _ _ _ _ _ _ us hl => match us, hl with | [_], _ => rfl)
  have cNexts : Cal P w K mg base "nexts_of" 1 ["words"] (spNexts K C) := D.d_sNexts.cal (fun f fd F => ok_nexts F tW tA tR) (fun _ _ _ _ _ _ us hl => match us, hl with | [_], _ => rfl)
  have mR : MkR P w K mg base C CR := ⟨D.m_sInitR.made rfl WCR.mks WCR.kc (fun f fd F => ok_initR F tW tRC tA tR cListE cFilled cFewP cNeedB cNexts) (fun _ _ _ _ _ _ us hl => match us, hl with | [_, _], _ => rfl)⟩
  have cNeedR : Cal P w K mg base "need_rims" 1 ["value", "part"] (spNeedR K C CR) := D.d_sNeedR.cal (fun f fd F => ok_needR F tW tRC) (fun _ _ _ _ _ _ us hl => match us, hl with | [_, _], _ => rfl)
  have cAreI : Cal P w K mg base "are_integers" 2 ["value"] (spAreI K) := D.d_sAreI.cal (fun f fd F => ok_areI F N.all cListE cInt) (fun _ _ _ _ _ _ us hl => match us, hl with | [_], _ => rfl)
  have cPaired : Cal P w K mg base "are_paired" 3 ["value", "many"] (spPaired K) := D.d_sPaired.cal (fun f fd F => ok_paired F tA tR cAreI) (fun _ _ _ _ _ _ us hl => match us, hl with | [_, _], _ => rfl)
  have cAreM : Cal P w K mg base "are_mates" 4 ["letters", "value"] (spAreM K) := D.d_sAreM.cal (fun f fd F => ok_areM F tA tR N.all cPaired) (fun _ _ _ _ _ _ us hl => match us, hl with | [_, _], _ => rfl)
  have cCorn : Cal P w K mg base "corners_of" 1 ["rims", "mates"] (spCorn K C CR) := D.d_sCorn.cal (fun f fd F => ok_corn F tRC tA tR N.set) (fun _ _ _ _ _ _ us hl => match us, hl with | [_, _], _ => rfl)
  have cJoined : Cal P w K mg base "joined" 1 ["many", "pairs"] (spJoined K) := D.d_sJoined.cal (fun f fd F => ok_joined F tA tR N.list N.max N.min) (fun _ _ _ _ _ _ us hl => match us, hl with | [_, _], _ => rfl)
  have cPieces : Cal P w K mg base "pieces_of" 2 ["rims", "mates"] (spPieces K C CR) := D.d_sPieces.cal (fun f fd F => ok_pieces F tRC tA tR cJoined) (fun _ _ _ _ _ _ us hl => match us, hl with | [_, _], _ => rfl)
  have mS : MkS P w K mg base C CR CS := ⟨D.m_sInitS.made rfl WCS.mks WCS.kc (fun f fd F => ok_initS F tRC tSC tA cNeedR cAreM cCorn cPieces) (fun _ _ _ _ _ _ us hl => match us, hl with | [_, _, _], _ => rfl)⟩
  have cMany : Cal P w K mg base "many_sewings" 2 ["rims"] (spMany K C CR) := D.d_sMany.cal (fun f fd F => ok_many F tRC N.factorial cNeedR cKinds) (fun _ _ _ _ _ _ us hl => match us, hl with | [_], _ => rfl)
  have cFill : Cal P w K mg base "fill_mates" 25 ["partners", "mates", "found"] (spFill K 24) := D.d_sFill.calR (fun f fd F hm hb => ok_fill F tA N.list hm hb 24) (fun _ _ _ _ _ _ us hl => match us, hl with | [_, _, _], _ => rfl)
  have cAllM : Cal P w K mg base "all_mates" 26 ["partners"] (spAllM K) := D.d_sAllM.cal (fun f fd F => ok_allM F tA cFill) (fun _ _ _ _ _ _ us hl => match us, hl with | [_], _ => rfl)
  have cAllS : Cal P w K mg base "all_sewings" 27 ["rims"] (spAllS K C CR CS) := D.d_sAllS.cal (fun f fd F => ok_allS F tRC tSC tA tR N.sews mS cMany cAllM) (fun _ _ _ _ _ _ us hl => match us, hl with | [_], _ => rfl)
  have cCens : Cal P w K mg base "census" 28 ["rims"] (spCens K C CR) := D.d_sCens.cal (fun f fd F => ok_cens F tSC tA N.sorted N.set cAllS) (fun _ _ _ _ _ _ us hl => match us, hl with | [_], _ => rfl)
  have N_ : TN mg := ⟨N.len, N.range, N.list, N.tuple, N.int, N.abs, N.min, N.sorted, N.set, N.enumerate, N.zip, N.isinstance, N.repr⟩
  have eW : EqW P w K mg base C := by
    obtain ⟨f, oc, od, kV, doc, pm, cdv, ct, an, osl, a, i, l, c, kp⟩ := D.m_sEq.ex
    exact ⟨f, _, ok_eq (fun_mk l c kp) tW, a, i, (fun_mk l c kp).binds (fun _ _ _ _ _ _ us hl => match us, hl with | [_, _], _ => rfl)⟩
  have eR : EqR P w K mg base C CR := by
    obtain ⟨f, oc, od, kV, doc, pm, cdv, ct, an, osl, a, i, l, c, kp⟩ := D.m_sEqR.ex
    exact ⟨f, _, ok_eqR (fun_mk l c kp) tW tRC eW, a, i, (fun_mk l c kp).binds (fun _ _ _ _ _ _ us hl => match us, hl with | [_, _], _ => rfl)⟩
  have cNP : Cal P w K mg base "need_place" 3 ["rims", "value"] (spNeedPl K C CR) := D.d_sNeedPl.cal (fun f fd F => ok_needPl F tRC cWithin) (fun _ _ _ _ _ _ us hl => match us, hl with | [_, _], _ => rfl)
  have mNx : MethW P w K mg base CR "next" ["self", "place"] (spNextR K C CR (nxF 0)) := by
    obtain ⟨f, oc, od, kV, doc, pm, cdv, ct, an, osl, a, i, l, c, kp⟩ := D.m_sNextR.ex
    exact ⟨f, _, ⟨a, i, kp⟩, (ok_nextR (fun_mk l c kp) tRC cNP).mono (by decide), (fun_mk l c kp).binds (fun _ _ _ _ _ _ us hl => match us, hl with | [_, _], _ => rfl)⟩
  have mRi : MethW P w K mg base CR "rim_of" ["self", "place"] (spNextR K C CR (hmF 0)) := by
    obtain ⟨f, oc, od, kV, doc, pm, cdv, ct, an, osl, a, i, l, c, kp⟩ := D.m_sRimOf.ex
    exact ⟨f, _, ⟨a, i, kp⟩, (ok_rimOf (fun_mk l c kp) tRC cNP).mono (by decide), (fun_mk l c kp).binds (fun _ _ _ _ _ _ us hl => match us, hl with | [_, _], _ => rfl)⟩
  have cPen : Cal P w K mg base "_law_pen" 1 ["_law_script"] (spHand K) := D.d_sJar.cal (fun f fd F => ok_hand F tL) (fun _ _ _ _ _ _ us hl => match us, hl with | [_], _ => rfl)
  have cDraw : Cal P w K mg base "_law_draw" 1 ["_law_pen_here", "_law_many"] spTake := D.d_sDraw.cal (fun f fd F => ok_take F tL) (fun _ _ _ _ _ _ us hl => match us, hl with | [_, _], _ => rfl)
  have cPick : Cal P w K mg base "_law_pick" 2 ["_law_pen_here", "_law_some"] spPick := D.d_sPick.cal (fun f fd F => ok_pick F cDraw tL) (fun _ _ _ _ _ _ us hl => match us, hl with | [_, _], _ => rfl)
  have cMixed : Cal P w K mg base "_law_mixed" 2 ["_law_pen_here", "_law_some"] spMixed := D.d_sMixed.cal (fun f fd F => ok_Mixed F N_ cDraw) (fun _ _ _ _ _ _ us hl => match us, hl with | [_, _], _ => rfl)
  have cCut : Cal P w K mg base "_law_cut" 3 ["_law_pen_here", "_law_letters_here"] spCut := D.d_sCut.cal (fun f fd F => ok_Cut F N_ cDraw cMixed) (fun _ _ _ _ _ _ us hl => match us, hl with | [_, _], _ => rfl)
  have cPlain : Cal P w K mg base "_law_plain" 4 ["_law_pen_here", "_law_counts"] spPlain := D.d_sPlain.cal (fun f fd F => ok_Plain F N_ cCut cMixed) (fun _ _ _ _ _ _ us hl => match us, hl with | [_, _], _ => rfl)
  have cLRims : Cal P w K mg base "_law_rims" 6 ["_law_words"] (spLRims K C CR) := D.d_sLRims.cal (fun f fd F => ok_LRims F N_ tW tRC mW mR) (fun _ _ _ _ _ _ us hl => match us, hl with | [_], _ => rfl)
  have cLets : Cal P w K mg base "_law_letters" 1 ["_law_words"] spLets := D.d_sLets.cal (fun f fd F => ok_Lets F N_) (fun _ _ _ _ _ _ us hl => match us, hl with | [_], _ => rfl)
  have cMates : Cal P w K mg base "_law_mates" 3 ["_law_pen_here", "_law_letters_here"] spMates := D.d_sMates.cal (fun f fd F => ok_Mates F N_ cMixed) (fun _ _ _ _ _ _ us hl => match us, hl with | [_, _], _ => rfl)
  have cBeg : Cal P w K mg base "_law_begins" 1 ["_law_words"] spBeg := D.d_sBeg.cal (fun f fd F => ok_Beg F N_) (fun _ _ _ _ _ _ us hl => match us, hl with | [_], _ => rfl)
  have cMov : Cal P w K mg base "_law_moved" 2 ["_law_words", "_law_order", "_law_turns", "_law_is_back"] (spMov K) := D.d_sMov.cal (fun f fd F => ok_Mov F N_ cBeg) (fun _ _ _ _ _ _ us hl => match us, hl with | [_, _, _, _], _ => rfl)
  have cRen : Cal P w K mg base "_law_renamed" 1 ["_law_words", "_law_names_here"] spRen := D.d_sRen.cal (fun f fd F => ok_Ren F N_) (fun _ _ _ _ _ _ us hl => match us, hl with | [_, _], _ => rfl)
  have cNam : Cal P w K mg base "_law_names" 3 ["_law_pen_here", "_law_words"] spNam := D.d_sNam.cal (fun f fd F => ok_Nam F N_ cMixed cDraw cLets) (fun _ _ _ _ _ _ us hl => match us, hl with | [_, _], _ => rfl)
  have cLots : Cal P w K mg base "_law_lots" 7 ["_law_rims_here", "_law_mates_here"] (spLots K C CR) := D.d_sLots.cal (fun f fd F => ok_Lots F N_ tRC mNx) (fun _ _ _ _ _ _ us hl => match us, hl with | [_, _], _ => rfl)
  have cCar : Cal P w K mg base "_law_carried_right" 8 ["_law_pen_here", "_law_words", "_law_later", "_law_places"] spCar := D.d_sCar.cal (fun f fd F => ok_Car F N_ tW tRC tSC mS mRi cMates cLets cLRims cLots cBeg) (fun _ _ _ _ _ _ us hl => match us, hl with | [_, _, _, _], _ => rfl)
  exact ok_Law FL N_ eR tRC cPen cPlain cRen cMov cPick cCens cLRims cMixed cNam cDraw cCar
theorem at_mk {l : PySem.W.OpenLaw} {w : World} {K : PySem.W.Frag} {h : Heap} {mg : Str → Option Value} {fa C CR CS : Addr} (X : K.In h) (G : h.Ns mainGlobals mg) (hfa : mg "law" = some (.ref fa)) (N : Names mg) (D : Defs K mg C CR CS) (WC : ClsC K mg C) (WCR : ClsCR K mg CR) (WCS : ClsCS K mg CS) :
    ∃ fd : FuncData, (∀ (s : Shared) (v : Value), BindsTo s fd ⟨[v], []⟩ [("_law_script", v)]) ∧ ∀ base : Heap, K.In base → base.Ns mainGlobals mg → FnOk l.prog w K mg base CX0 29 fa fd ["_law_script"] (spLaw K) := by
  obtain ⟨f, oc, od, kV, doc, pm, cdv, ct, an, osl, lL, c, kp, m⟩ := D.d_sLaw.ex
  have e := hfa.symm.trans m
  cases e
  exact ⟨_, fun s v => .of_eq rfl, fun base _ _ => law_mk N D WC WCR WCS (fun_mk lL c kp)⟩
end W16
set_option Elab.async false
set_option linter.all false
set_option maxRecDepth 100000
set_option maxHeartbeats 4000000
namespace W16
open PySem L2 PySem.Spec PyProof.Rows WR WB WE WS
/-! ### the module's top, run once; what is known of it behind the run -/
abbrev rowO : PySem.W.OpenRow := PySem.W.OpenLaw.row PySem.Challenge.rw_handlerims_k16_rims_turned_contrary_and
abbrev viewP : Program := PySem.W.view rowO.prog [0, 82]
def loose0 : List Str := ["_wall", "HandleError", "BadWord", "BadRims", "BadSewing", "BadNumber", "Missing", "NoPlace", "Unbalanced", "TooMany", "BadText", "contrary_letters", "shortened_letters", "rounded_letters", "turned_letters", "kinds_of", "balance_of", "MOST_KIND", "ALPHABET", "is_integer"]
def loose1 : List Str := ["is_within", "is_letter", "is_listed", "are_integers", "are_paired", "fill_mates", "all_mates", "joined", "need_integer", "letter_text", "letter_of", "items_of", "items_told", "MOST_LETTERS", "need_word", "is_filled", "need_few_letters", "Word", "need_balanced", "MOST_WORDS"]
def loose2 : List Str := ["MOST_PLACES", "need_rims", "need_place", "need_few_places", "Rims", "nexts_of", "rows_of", "MOST_SEWINGS", "are_mates", "corners_of", "pieces_of", "Sewing", "many_sewings", "all_sewings", "census", "_law_pen", "_law_draw", "_law_pick", "_law_mixed", "_law_cut"]
def loose3 : List Str := ["_law_plain", "_law_rims", "_law_letters", "_law_mates", "_law_begins", "_law_moved", "_law_renamed", "_law_names", "_law_carried_right", "_law_lots"]
def looseN : List Str := loose0 ++ loose1 ++ loose2 ++ loose3
def fnL0 : List He.DefD := [⟨("is_integer", none), "is_integer", "is_integer", defArgs sIsInt, defBody sIsInt, defScope sIsInt, [], []⟩,
  ⟨("is_within", none), "is_within", "is_within", defArgs sWithin, defBody sWithin, defScope sWithin, [], []⟩,
  ⟨("is_letter", none), "is_letter", "is_letter", defArgs sLetter, defBody sLetter, defScope sLetter, [], []⟩,
  ⟨("is_listed", none), "is_listed", "is_listed", defArgs sListed, defBody sListed, defScope sListed, [], []⟩,
  ⟨("are_integers", none), "are_integers", "are_integers", defArgs sAreI, defBody sAreI, defScope sAreI, [], []⟩,
  ⟨("shortened_letters", none), "shortened_letters", "shortened_letters", defArgs sShr, defBody sShr, defScope sShr, [], []⟩,
  ⟨("rounded_letters", none), "rounded_letters", "rounded_letters", defArgs sRnd, defBody sRnd, defScope sRnd, [], []⟩,
  ⟨("kinds_of", none), "kinds_of", "kinds_of", defArgs sKinds, defBody sKinds, defScope sKinds, [], []⟩,
  ⟨("balance_of", none), "balance_of", "balance_of", defArgs sBalOf, defBody sBalOf, defScope sBalOf, [], []⟩,
  ⟨("are_paired", none), "are_paired", "are_paired", defArgs sPaired, defBody sPaired, defScope sPaired, [], []⟩,
  ⟨("fill_mates", none), "fill_mates", "fill_mates", defArgs sFill, defBody sFill, defScope sFill, [], []⟩,
  ⟨("all_mates", none), "all_mates", "all_mates", defArgs sAllM, defBody sAllM, defScope sAllM, [], []⟩,
  ⟨("joined", none), "joined", "joined", defArgs sJoined, defBody sJoined, defScope sJoined, [], []⟩,
  ⟨("is_filled", none), "is_filled", "is_filled", defArgs sFilled, defBody sFilled, defScope sFilled, [], []⟩,
  ⟨("need_few_letters", none), "need_few_letters", "need_few_letters", defArgs sFew, defBody sFew, defScope sFew, [], []⟩,
  ⟨("need_balanced", none), "need_balanced", "need_balanced", defArgs sNeedB, defBody sNeedB, defScope sNeedB, [], []⟩,
  ⟨("need_rims", none), "need_rims", "need_rims", defArgs sNeedR, defBody sNeedR, defScope sNeedR, [], []⟩,
  ⟨("need_few_places", none), "need_few_places", "need_few_places", defArgs sFewP, defBody sFewP, defScope sFewP, [], []⟩,
  ⟨("nexts_of", none), "nexts_of", "nexts_of", defArgs sNexts, defBody sNexts, defScope sNexts, [], []⟩,
  ⟨("are_mates", none), "are_mates", "are_mates", defArgs sAreM, defBody sAreM, defScope sAreM, [], []⟩]
def fnL1 : List He.DefD := [⟨("corners_of", none), "corners_of", "corners_of", defArgs sCorn, defBody sCorn, defScope sCorn, [], []⟩,
  ⟨("pieces_of", none), "pieces_of", "pieces_of", defArgs sPieces, defBody sPieces, defScope sPieces, [], []⟩,
  ⟨("many_sewings", none), "many_sewings", "many_sewings", defArgs sMany, defBody sMany, defScope sMany, [], []⟩,
  ⟨("all_sewings", none), "all_sewings", "all_sewings", defArgs sAllS, defBody sAllS, defScope sAllS, [], []⟩,
  ⟨("census", none), "census", "census", defArgs sCens, defBody sCens, defScope sCens, [], []⟩,
  ⟨("need_place", none), "need_place", "need_place", defArgs sNeedPl, defBody sNeedPl, defScope sNeedPl, [], []⟩,
  ⟨("_law_pen", none), "_law_pen", "_law_pen", defArgs sJar, defBody sJar, defScope sJar, [], []⟩,
  ⟨("_law_draw", none), "_law_draw", "_law_draw", defArgs sDraw, defBody sDraw, defScope sDraw, [], []⟩,
  ⟨("_law_pick", none), "_law_pick", "_law_pick", defArgs sPick, defBody sPick, defScope sPick, [], []⟩,
  ⟨("_law_mixed", none), "_law_mixed", "_law_mixed", defArgs sMixed, defBody sMixed, defScope sMixed, [], []⟩,
  ⟨("_law_cut", none), "_law_cut", "_law_cut", defArgs sCut, defBody sCut, defScope sCut, [], []⟩,
  ⟨("_law_plain", none), "_law_plain", "_law_plain", defArgs sPlain, defBody sPlain, defScope sPlain, [], []⟩,
  ⟨("_law_rims", none), "_law_rims", "_law_rims", defArgs sLRims, defBody sLRims, defScope sLRims, [], []⟩,
  ⟨("_law_letters", none), "_law_letters", "_law_letters", defArgs sLets, defBody sLets, defScope sLets, [], []⟩,
  ⟨("_law_mates", none), "_law_mates", "_law_mates", defArgs sMates, defBody sMates, defScope sMates, [], []⟩,
  ⟨("_law_begins", none), "_law_begins", "_law_begins", defArgs sBeg, defBody sBeg, defScope sBeg, [], []⟩,
  ⟨("_law_moved", none), "_law_moved", "_law_moved", defArgs sMov, defBody sMov, defScope sMov, [], []⟩,
  ⟨("_law_renamed", none), "_law_renamed", "_law_renamed", defArgs sRen, defBody sRen, defScope sRen, [], []⟩,
  ⟨("_law_names", none), "_law_names", "_law_names", defArgs sNam, defBody sNam, defScope sNam, [], []⟩,
  ⟨("_law_carried_right", none), "_law_carried_right", "_law_carried_right", defArgs sCar, defBody sCar, defScope sCar, [], []⟩]
def fnL2 : List He.DefD := [⟨("_law_lots", none), "_law_lots", "_law_lots", defArgs sLots, defBody sLots, defScope sLots, [], []⟩,
  ⟨("law", none), "law", "law", defArgs sLaw, defBody sLaw, defScope sLaw, [], []⟩,
  ⟨("Word", some "__init__"), "__init__", "Word.__init__", defArgs sInit, defBody sInit, defScope sInit, [], []⟩,
  ⟨("Word", some "__eq__"), "__eq__", "Word.__eq__", defArgs sEq, defBody sEq, defScope sEq, [], []⟩,
  ⟨("Rims", some "__init__"), "__init__", "Rims.__init__", defArgs sInitR, defBody sInitR, defScope sInitR, [], []⟩,
  ⟨("Rims", some "__eq__"), "__eq__", "Rims.__eq__", defArgs sEqR, defBody sEqR, defScope sEqR, [], []⟩,
  ⟨("Rims", some "next"), "next", "Rims.next", defArgs sNextR, defBody sNextR, defScope sNextR, [], []⟩,
  ⟨("Rims", some "rim_of"), "rim_of", "Rims.rim_of", defArgs sRimOf, defBody sRimOf, defScope sRimOf, [], []⟩,
  ⟨("Sewing", some "__init__"), "__init__", "Sewing.__init__", defArgs sInitS, defBody sInitS, defScope sInitS, [], []⟩]
def fnL : List He.DefD := fnL0 ++ fnL1 ++ fnL2
def FN0 (K : PySem.W.Frag) : Prop := (PySem.W.nsIn K mainGlobals "isinstance" = some none) ∧
  (PySem.W.nsIn K mainGlobals "int" = some none) ∧
  (PySem.W.nsIn K mainGlobals "bool" = some none) ∧
  (PySem.W.nsIn K mainGlobals "str" = some none) ∧
  (PySem.W.nsIn K mainGlobals "list" = some none) ∧
  (PySem.W.nsIn K mainGlobals "tuple" = some none) ∧
  (PySem.W.nsIn K mainGlobals "all" = some none) ∧
  (PySem.W.nsIn K mainGlobals "len" = some none) ∧
  (PySem.W.nsIn K mainGlobals "abs" = some none) ∧
  (PySem.W.nsIn K mainGlobals "range" = some none) ∧
  (PySem.W.nsIn K mainGlobals "sorted" = some none) ∧
  (PySem.W.nsIn K mainGlobals "set" = some none) ∧
  (PySem.W.nsIn K mainGlobals "enumerate" = some none) ∧
  (PySem.W.nsIn K mainGlobals "max" = some none) ∧
  (PySem.W.nsIn K mainGlobals "min" = some none) ∧
  (PySem.W.nsIn K mainGlobals "zip" = some none) ∧
  (PySem.W.nsIn K mainGlobals "repr" = some none) ∧
  (PySem.W.nsIn K mainGlobals "sum" = some none) ∧
  (He.Fa.ok K (.int "MOST_KIND" 26) = true) ∧
  (He.Fa.ok K (.int "MOST_LETTERS" 500) = true)
instance (K : PySem.W.Frag) : Decidable (FN0 K) := by
  unfold FN0
  infer_instance
def FN1 (K : PySem.W.Frag) : Prop := (He.Fa.ok K (.int "MOST_WORDS" 4) = true) ∧
  (He.Fa.ok K (.int "MOST_PLACES" 24) = true) ∧
  (He.Fa.ok K (.int "MOST_SEWINGS" 720) = true) ∧
  (PySem.W.nsIn K mainGlobals "factorial" = some (some (.builtin "math.factorial")))
instance (K : PySem.W.Frag) : Decidable (FN1 K) := by
  unfold FN1
  infer_instance
def FCC (K : PySem.W.Frag) : Prop := (PySem.W.nsIn K mainGlobals "Word" = some (some (.ref (He.ga K "Word")))) ∧
  (PySem.W.plainGet K (He.ga K "Word") Str.empty = true) ∧
  (PySem.W.hasDictIn K (He.ga K "Word") = true) ∧
  (PySem.W.plainOver K (He.ga K "Word") = true) ∧
  (PySem.W.findIn K (.ref (He.ga K "Word")) "__setattr__" = some (some (.builtin "object.__setattr__"))) ∧
  (PySem.W.findIn K (.ref (He.ga K "Word")) "letters" = some none) ∧
  (PySem.W.findIn K (.ref (He.ga K "Word")) "length" = some none) ∧
  (PySem.W.findIn K (.ref (He.ga K "Word")) "kinds" = some none) ∧
  (PySem.W.findIn K (.ref (He.ga K "Word")) "is_short" = some none) ∧
  (PySem.W.findIn K (.ref (He.ga K "Word")) "is_short_round" = some none) ∧
  (PySem.W.findIn K (.ref (He.ga K "Word")) "__class__" = some (some (.builtin "object.__class__"))) ∧
  (PySem.W.mroIn K (He.ga K "Word") (.type "object") = some true) ∧
  (PySem.W.makesIn K (He.ga K "Word") = true) ∧
  (PySem.W.keepIn K (.ref (He.ga K "Word")) = true) ∧
  (PySem.W.specialIn K (.builtin "object.__class__") "__get__" = some (some (.builtin "getset_descriptor.__get__"))) ∧
  (PySem.W.takesIn K (.builtin "object.__class__") = some true)
instance (K : PySem.W.Frag) : Decidable (FCC K) := by
  unfold FCC
  infer_instance
def FCCR (K : PySem.W.Frag) : Prop := (PySem.W.nsIn K mainGlobals "Rims" = some (some (.ref (He.ga K "Rims")))) ∧
  (PySem.W.plainGet K (He.ga K "Rims") Str.empty = true) ∧
  (PySem.W.hasDictIn K (He.ga K "Rims") = true) ∧
  (PySem.W.plainOver K (He.ga K "Rims") = true) ∧
  (PySem.W.findIn K (.ref (He.ga K "Rims")) "__setattr__" = some (some (.builtin "object.__setattr__"))) ∧
  (PySem.W.findIn K (.ref (He.ga K "Rims")) "words" = some none) ∧
  (PySem.W.findIn K (.ref (He.ga K "Rims")) "letters" = some none) ∧
  (PySem.W.findIn K (.ref (He.ga K "Rims")) "many" = some none) ∧
  (PySem.W.findIn K (.ref (He.ga K "Rims")) "bands" = some none) ∧
  (PySem.W.findIn K (.ref (He.ga K "Rims")) "is_short" = some none) ∧
  (PySem.W.findIn K (.ref (He.ga K "Rims")) "homes" = some none) ∧
  (PySem.W.findIn K (.ref (He.ga K "Rims")) "nexts" = some none) ∧
  (PySem.W.findIn K (.ref (He.ga K "Rims")) "__class__" = some (some (.builtin "object.__class__"))) ∧
  (PySem.W.mroIn K (He.ga K "Rims") (.type "object") = some true) ∧
  (PySem.W.makesIn K (He.ga K "Rims") = true) ∧
  (PySem.W.keepIn K (.ref (He.ga K "Rims")) = true)
instance (K : PySem.W.Frag) : Decidable (FCCR K) := by
  unfold FCCR
  infer_instance
def FCCS (K : PySem.W.Frag) : Prop := (PySem.W.nsIn K mainGlobals "Sewing" = some (some (.ref (He.ga K "Sewing")))) ∧
  (PySem.W.plainGet K (He.ga K "Sewing") Str.empty = true) ∧
  (PySem.W.hasDictIn K (He.ga K "Sewing") = true) ∧
  (PySem.W.plainOver K (He.ga K "Sewing") = true) ∧
  (PySem.W.findIn K (.ref (He.ga K "Sewing")) "__setattr__" = some (some (.builtin "object.__setattr__"))) ∧
  (PySem.W.findIn K (.ref (He.ga K "Sewing")) "rims" = some none) ∧
  (PySem.W.findIn K (.ref (He.ga K "Sewing")) "mates" = some none) ∧
  (PySem.W.findIn K (.ref (He.ga K "Sewing")) "corners" = some none) ∧
  (PySem.W.findIn K (.ref (He.ga K "Sewing")) "cost" = some none) ∧
  (PySem.W.findIn K (.ref (He.ga K "Sewing")) "pieces" = some none) ∧
  (PySem.W.findIn K (.ref (He.ga K "Sewing")) "handles" = some none) ∧
  (PySem.W.findIn K (.ref (He.ga K "Sewing")) "__class__" = some (some (.builtin "object.__class__"))) ∧
  (PySem.W.mroIn K (He.ga K "Sewing") (.type "object") = some true) ∧
  (PySem.W.makesIn K (He.ga K "Sewing") = true) ∧
  (PySem.W.keepIn K (.ref (He.ga K "Sewing")) = true)
instance (K : PySem.W.Frag) : Decidable (FCCS K) := by
  unfold FCCS
  infer_instance
def FD0 (K : PySem.W.Frag) : Prop := (PySem.W.nsIn K mainGlobals "is_integer" = some (some (.ref (He.fAd K ("is_integer", none))))) ∧
  (PySem.W.nsIn K mainGlobals "is_within" = some (some (.ref (He.fAd K ("is_within", none))))) ∧
  (PySem.W.nsIn K mainGlobals "is_letter" = some (some (.ref (He.fAd K ("is_letter", none))))) ∧
  (PySem.W.nsIn K mainGlobals "is_listed" = some (some (.ref (He.fAd K ("is_listed", none))))) ∧
  (PySem.W.nsIn K mainGlobals "are_integers" = some (some (.ref (He.fAd K ("are_integers", none))))) ∧
  (PySem.W.nsIn K mainGlobals "shortened_letters" = some (some (.ref (He.fAd K ("shortened_letters", none))))) ∧
  (PySem.W.nsIn K mainGlobals "rounded_letters" = some (some (.ref (He.fAd K ("rounded_letters", none))))) ∧
  (PySem.W.nsIn K mainGlobals "kinds_of" = some (some (.ref (He.fAd K ("kinds_of", none))))) ∧
  (PySem.W.nsIn K mainGlobals "balance_of" = some (some (.ref (He.fAd K ("balance_of", none))))) ∧
  (PySem.W.nsIn K mainGlobals "are_paired" = some (some (.ref (He.fAd K ("are_paired", none))))) ∧
  (PySem.W.nsIn K mainGlobals "fill_mates" = some (some (.ref (He.fAd K ("fill_mates", none))))) ∧
  (PySem.W.nsIn K mainGlobals "all_mates" = some (some (.ref (He.fAd K ("all_mates", none))))) ∧
  (PySem.W.nsIn K mainGlobals "joined" = some (some (.ref (He.fAd K ("joined", none))))) ∧
  (PySem.W.nsIn K mainGlobals "is_filled" = some (some (.ref (He.fAd K ("is_filled", none))))) ∧
  (PySem.W.nsIn K mainGlobals "need_few_letters" = some (some (.ref (He.fAd K ("need_few_letters", none))))) ∧
  (PySem.W.nsIn K mainGlobals "need_balanced" = some (some (.ref (He.fAd K ("need_balanced", none))))) ∧
  (PySem.W.nsIn K mainGlobals "need_rims" = some (some (.ref (He.fAd K ("need_rims", none))))) ∧
  (PySem.W.nsIn K mainGlobals "need_few_places" = some (some (.ref (He.fAd K ("need_few_places", none))))) ∧
  (PySem.W.nsIn K mainGlobals "nexts_of" = some (some (.ref (He.fAd K ("nexts_of", none))))) ∧
  (PySem.W.nsIn K mainGlobals "are_mates" = some (some (.ref (He.fAd K ("are_mates", none)))))
instance (K : PySem.W.Frag) : Decidable (FD0 K) := by
  unfold FD0
  infer_instance
def FD1 (K : PySem.W.Frag) : Prop := (PySem.W.nsIn K mainGlobals "corners_of" = some (some (.ref (He.fAd K ("corners_of", none))))) ∧
  (PySem.W.nsIn K mainGlobals "pieces_of" = some (some (.ref (He.fAd K ("pieces_of", none))))) ∧
  (PySem.W.nsIn K mainGlobals "many_sewings" = some (some (.ref (He.fAd K ("many_sewings", none))))) ∧
  (PySem.W.nsIn K mainGlobals "all_sewings" = some (some (.ref (He.fAd K ("all_sewings", none))))) ∧
  (PySem.W.nsIn K mainGlobals "census" = some (some (.ref (He.fAd K ("census", none))))) ∧
  (PySem.W.nsIn K mainGlobals "need_place" = some (some (.ref (He.fAd K ("need_place", none))))) ∧
  (PySem.W.nsIn K mainGlobals "_law_pen" = some (some (.ref (He.fAd K ("_law_pen", none))))) ∧
  (PySem.W.nsIn K mainGlobals "_law_draw" = some (some (.ref (He.fAd K ("_law_draw", none))))) ∧
  (PySem.W.nsIn K mainGlobals "_law_pick" = some (some (.ref (He.fAd K ("_law_pick", none))))) ∧
  (PySem.W.nsIn K mainGlobals "_law_mixed" = some (some (.ref (He.fAd K ("_law_mixed", none))))) ∧
  (PySem.W.nsIn K mainGlobals "_law_cut" = some (some (.ref (He.fAd K ("_law_cut", none))))) ∧
  (PySem.W.nsIn K mainGlobals "_law_plain" = some (some (.ref (He.fAd K ("_law_plain", none))))) ∧
  (PySem.W.nsIn K mainGlobals "_law_rims" = some (some (.ref (He.fAd K ("_law_rims", none))))) ∧
  (PySem.W.nsIn K mainGlobals "_law_letters" = some (some (.ref (He.fAd K ("_law_letters", none))))) ∧
  (PySem.W.nsIn K mainGlobals "_law_mates" = some (some (.ref (He.fAd K ("_law_mates", none))))) ∧
  (PySem.W.nsIn K mainGlobals "_law_begins" = some (some (.ref (He.fAd K ("_law_begins", none))))) ∧
  (PySem.W.nsIn K mainGlobals "_law_moved" = some (some (.ref (He.fAd K ("_law_moved", none))))) ∧
  (PySem.W.nsIn K mainGlobals "_law_renamed" = some (some (.ref (He.fAd K ("_law_renamed", none))))) ∧
  (PySem.W.nsIn K mainGlobals "_law_names" = some (some (.ref (He.fAd K ("_law_names", none))))) ∧
  (PySem.W.nsIn K mainGlobals "_law_carried_right" = some (some (.ref (He.fAd K ("_law_carried_right", none)))))
instance (K : PySem.W.Frag) : Decidable (FD1 K) := by
  unfold FD1
  infer_instance
def FD2 (K : PySem.W.Frag) : Prop := (PySem.W.nsIn K mainGlobals "_law_lots" = some (some (.ref (He.fAd K ("_law_lots", none))))) ∧
  (PySem.W.nsIn K mainGlobals "law" = some (some (.ref (He.fAd K ("law", none)))))
instance (K : PySem.W.Frag) : Decidable (FD2 K) := by
  unfold FD2
  infer_instance
def FM0 (K : PySem.W.Frag) : Prop := (PySem.W.findIn K (.ref (He.ga K "Word")) "__init__" = some (some (.ref (He.fAd K ("Word", some "__init__"))))) ∧
  (PySem.W.isFn K (.ref (He.fAd K ("Word", some "__init__"))) = true) ∧
  (PySem.W.findIn K (.ref (He.ga K "Word")) "__eq__" = some (some (.ref (He.fAd K ("Word", some "__eq__"))))) ∧
  (PySem.W.isFn K (.ref (He.fAd K ("Word", some "__eq__"))) = true) ∧
  (PySem.W.findIn K (.ref (He.ga K "Rims")) "__init__" = some (some (.ref (He.fAd K ("Rims", some "__init__"))))) ∧
  (PySem.W.isFn K (.ref (He.fAd K ("Rims", some "__init__"))) = true) ∧
  (PySem.W.findIn K (.ref (He.ga K "Rims")) "__eq__" = some (some (.ref (He.fAd K ("Rims", some "__eq__"))))) ∧
  (PySem.W.isFn K (.ref (He.fAd K ("Rims", some "__eq__"))) = true) ∧
  (PySem.W.findIn K (.ref (He.ga K "Rims")) "next" = some (some (.ref (He.fAd K ("Rims", some "next"))))) ∧
  (PySem.W.isFn K (.ref (He.fAd K ("Rims", some "next"))) = true) ∧
  (PySem.W.findIn K (.ref (He.ga K "Rims")) "rim_of" = some (some (.ref (He.fAd K ("Rims", some "rim_of"))))) ∧
  (PySem.W.isFn K (.ref (He.fAd K ("Rims", some "rim_of"))) = true) ∧
  (PySem.W.findIn K (.ref (He.ga K "Sewing")) "__init__" = some (some (.ref (He.fAd K ("Sewing", some "__init__"))))) ∧
  (PySem.W.isFn K (.ref (He.fAd K ("Sewing", some "__init__"))) = true)
instance (K : PySem.W.Frag) : Decidable (FM0 K) := by
  unfold FM0
  infer_instance
def chkK (K : PySem.W.Frag) : Bool := [decide (FN0 K), decide (FN1 K), decide (FCC K), decide (FCCR K), decide (FCCS K), decide (FD0 K), decide (FD1 K), decide (FD2 K), decide (FM0 K)].all id
def tabL : List He.Defn := []
def lookN : List Str := (["is_integer", "is_within", "is_letter", "is_listed", "are_integers", "shortened_letters", "rounded_letters", "kinds_of", "balance_of", "are_paired", "fill_mates", "all_mates", "joined", "is_filled", "need_few_letters", "need_balanced", "need_rims", "need_few_places", "nexts_of", "are_mates"] : List Str) ++ (["corners_of", "pieces_of", "many_sewings", "all_sewings", "census", "need_place", "_law_pen", "_law_draw", "_law_pick", "_law_mixed", "_law_cut", "_law_plain", "_law_rims", "_law_letters", "_law_mates", "_law_begins", "_law_moved", "_law_renamed", "_law_names", "_law_carried_right"] : List Str) ++ (["_law_lots", "law", "Word", "Rims", "Sewing"] : List Str)
def lookM : List (Str × Str) := [("Word", "__init__"), ("Word", "__eq__"), ("Rims", "__init__"), ("Rims", "__eq__"), ("Rims", "next"), ("Rims", "rim_of"), ("Sewing", "__init__")]
abbrev hk : PySem.W.Hook := RG.hookR lookN lookM fnL tabL chkK
def ob (s : PySem.W.SharedT) : hk.α := RG.obsR (RG.asN (HandSHeadRun.getT s) lookN lookM) fnL tabL chkK (HandSHeadRun.getT s)
theorem ob_eq (s : PySem.W.SharedT) : ob s = hk.obs s.abs := RG.obsR_eq (s := s.abs) (HandSHeadRun.getT_eq s)
theorem run (w : World) : HandSHeadRun.RunEqI rowO viewP hk ob 20000 looseN w := by
  unfold HandSHeadRun.RunEqI
  kernel_rfl
theorem ff_at {K : PySem.W.Frag} {h : Heap} {mg : Str → Option Value} {x : Str} {st : Stmt} (X : K.In h) (G : h.Ns mainGlobals mg) (c : RG.SaysR fnL tabL chkK h K) (m : (⟨(x, none), x, x, defArgs st, defBody st, defScope st, [], []⟩ : He.DefD) ∈ fnL) (a : PySem.W.nsIn K mainGlobals x = some (some (.ref (He.fAd K (x, none))))) : FF K mg x st := by
  obtain ⟨fd, F⟩ := c.d.defs m
  obtain ⟨oc, od, kV, doc, pm, cdv, ct, an, osl, l, cc, kk⟩ := RG.fn_of_says F
  exact ff_mk X G a l cc kk
theorem fm_at {K : PySem.W.Frag} {h : Heap} {n m q : Str} {st : Stmt} (c : RG.SaysR fnL tabL chkK h K) (mm : (⟨(n, some m), m, q, defArgs st, defBody st, defScope st, [], []⟩ : He.DefD) ∈ fnL) (a : PySem.W.findIn K (.ref (He.ga K n)) m = some (some (.ref (He.fAd K (n, some m))))) (i : PySem.W.isFn K (.ref (He.fAd K (n, some m))) = true) : FM K (He.ga K n) m q st := by
  obtain ⟨fd, F⟩ := c.d.defs mm
  obtain ⟨oc, od, kV, doc, pm, cdv, ct, an, osl, l, cc, kk⟩ := RG.fn_of_says F
  exact fm_mk a i l cc kk
theorem said {K : PySem.W.Frag} {h : Heap} (c : RG.SaysR fnL tabL chkK h K) : FN0 K ∧ FN1 K ∧ FCC K ∧ FCCR K ∧ FCCS K ∧ FD0 K ∧ FD1 K ∧ FD2 K ∧ FM0 K := by
  have a : ∀ b ∈ [decide (FN0 K), decide (FN1 K), decide (FCC K), decide (FCCR K), decide (FCCS K), decide (FD0 K), decide (FD1 K), decide (FD2 K), decide (FM0 K)], id b = true := List.all_eq_true.mp c.more
  simp only [List.mem_cons, List.not_mem_nil, or_false, forall_eq_or_imp, forall_eq, id] at a
  obtain ⟨a0, a1, a2, a3, a4, a5, a6, a7, a8⟩ := a
  exact ⟨of_decide_eq_true a0, of_decide_eq_true a1, of_decide_eq_true a2, of_decide_eq_true a3, of_decide_eq_true a4, of_decide_eq_true a5, of_decide_eq_true a6, of_decide_eq_true a7, of_decide_eq_true a8⟩
theorem names_at {K : PySem.W.Frag} {h : Heap} {mg : Str → Option Value} (X : K.In h) (G : h.Ns mainGlobals mg) (b0 : FN0 K) (b1 : FN1 K) : Names mg := by
  obtain ⟨f0, f1, f2, f3, f4, f5, f6, f7, f8, f9, f10, f11, f12, f13, f14, f15, f16, f17, f18, f19⟩ := b0
  obtain ⟨f20, f21, f22, f23⟩ := b1
  exact ⟨PySem.W.mg_none_of X G f0, PySem.W.mg_none_of X G f1, PySem.W.mg_none_of X G f2, PySem.W.mg_none_of X G f3, PySem.W.mg_none_of X G f4, PySem.W.mg_none_of X G f5, PySem.W.mg_none_of X G f6, PySem.W.mg_none_of X G f7, PySem.W.mg_none_of X G f8, PySem.W.mg_none_of X G f9, PySem.W.mg_none_of X G f10, PySem.W.mg_none_of X G f11, PySem.W.mg_none_of X G f12, PySem.W.mg_none_of X G f13, PySem.W.mg_none_of X G f14, PySem.W.mg_none_of X G f15, PySem.W.mg_none_of X G f16, PySem.W.mg_none_of X G f17, He.int_ok X G f18, He.int_ok X G f19, He.int_ok X G f20, He.int_ok X G f21, He.int_ok X G f22, PySem.W.mg_of X G f23⟩
theorem cls_atC {K : PySem.W.Frag} {h : Heap} {mg : Str → Option Value} (X : K.In h) (G : h.Ns mainGlobals mg) (b : FCC K) : ClsC K mg (He.ga K "Word") := by
  obtain ⟨aC, pg, hd, po, sa, n1, n2, n3, n4, n5, ca, cm, mk, kc, cn, ct⟩ := b
  exact ⟨⟨pg, hd, po, sa⟩, n1, n2, n3, n4, n5, ca, cm, mk, kc, PySem.W.mg_of X G aC, cn, ct⟩
theorem cls_atCR {K : PySem.W.Frag} {h : Heap} {mg : Str → Option Value} (X : K.In h) (G : h.Ns mainGlobals mg) (b : FCCR K) : ClsCR K mg (He.ga K "Rims") := by
  obtain ⟨aC, pg, hd, po, sa, n1, n2, n3, n4, n5, n6, n7, ca, cm, mk, kc⟩ := b
  exact ⟨⟨pg, hd, po, sa⟩, n1, n2, n3, n4, n5, n6, n7, ca, cm, mk, kc, PySem.W.mg_of X G aC⟩
theorem cls_atCS {K : PySem.W.Frag} {h : Heap} {mg : Str → Option Value} (X : K.In h) (G : h.Ns mainGlobals mg) (b : FCCS K) : ClsCS K mg (He.ga K "Sewing") := by
  obtain ⟨aC, pg, hd, po, sa, n1, n2, n3, n4, n5, n6, ca, cm, mk, kc⟩ := b
  exact ⟨⟨pg, hd, po, sa⟩, n1, n2, n3, n4, n5, n6, ca, cm, mk, kc, PySem.W.mg_of X G aC⟩
theorem defs_at {K : PySem.W.Frag} {h : Heap} {mg : Str → Option Value} (X : K.In h) (G : h.Ns mainGlobals mg) (c : RG.SaysR fnL tabL chkK h K) (b0 : FD0 K) (b1 : FD1 K) (b2 : FD2 K) (e0 : FM0 K) : Defs K mg (He.ga K "Word") (He.ga K "Rims") (He.ga K "Sewing") := by
  obtain ⟨f0, f1, f2, f3, f4, f5, f6, f7, f8, f9, f10, f11, f12, f13, f14, f15, f16, f17, f18, f19⟩ := b0
  obtain ⟨f20, f21, f22, f23, f24, f25, f26, f27, f28, f29, f30, f31, f32, f33, f34, f35, f36, f37, f38, f39⟩ := b1
  obtain ⟨f40, f41⟩ := b2
  obtain ⟨m0, m1, m2, m3, m4, m5, m6, m7, m8, m9, m10, m11, m12, m13⟩ := e0
  exact { d_sIsInt := ff_at X G c (show _ ∈ fnL from (RG.in_part (RG.in_part (by unfold fnL0; simp only [List.mem_cons, true_or, or_true])))) f0, d_sWithin := ff_at X G c (show _ ∈ fnL from (RG.in_part (RG.in_part (by unfold fnL0; simp only [List.mem_cons, true_or, or_true])))) f1, d_sLetter := ff_at X G c (show _ ∈ fnL from (RG.in_part (RG.in_part (by unfold fnL0; simp only [List.mem_cons, true_or, or_true])))) f2, d_sListed := ff_at X G c (show _ ∈ fnL from (RG.in_part (RG.in_part (by unfold fnL0; simp only [List.mem_cons, true_or, or_true])))) f3, d_sAreI := ff_at X G c (show _ ∈ fnL from (RG.in_part (RG.in_part (by unfold fnL0; simp only [List.mem_cons, true_or, or_true])))) f4, d_sShr := ff_at X G c (show _ ∈ fnL from (RG.in_part (RG.in_part (by unfold fnL0; simp only [List.mem_cons, true_or, or_true])))) f5, d_sRnd := ff_at X G c (show _ ∈ fnL from (RG.in_part (RG.in_part (by unfold fnL0; simp only [List.mem_cons, true_or, or_true])))) f6, d_sKinds := ff_at X G c (show _ ∈ fnL from (RG.in_part (RG.in_part (by unfold fnL0; simp only [List.mem_cons, true_or, or_true])))) f7, d_sBalOf := ff_at X G c (show _ ∈ fnL from (RG.in_part (RG.in_part (by unfold fnL0; simp only [List.mem_cons, true_or, or_true])))) f8, d_sPaired := ff_at X G c (show _ ∈ fnL from (RG.in_part (RG.in_part (by unfold fnL0; simp only [List.mem_cons, true_or, or_true])))) f9, d_sFill := ff_at X G c (show _ ∈ fnL from (RG.in_part (RG.in_part (by unfold fnL0; simp only [List.mem_cons, true_or, or_true])))) f10, d_sAllM := ff_at X G c (show _ ∈ fnL from (RG.in_part (RG.in_part (by unfold fnL0; simp only [List.mem_cons, true_or, or_true])))) f11, d_sJoined := ff_at X G c (show _ ∈ fnL from (RG.in_part (RG.in_part (by unfold fnL0; simp only [List.mem_cons, true_or, or_true])))) f12, d_sFilled := ff_at X G c (show _ ∈ fnL from (RG.in_part (RG.in_part (by unfold fnL0; simp only [List.mem_cons, true_or, or_true])))) f13, d_sFew := ff_at X G c (show _ ∈ fnL from (RG.in_part (RG.in_part (by unfold fnL0; simp only [List.mem_cons, true_or, or_true])))) f14, d_sNeedB := ff_at X G c (show _ ∈ fnL from (RG.in_part (RG.in_part (by unfold fnL0; simp only [List.mem_cons, true_or, or_true])))) f15, d_sNeedR := ff_at X G c (show _ ∈ fnL from (RG.in_part (RG.in_part (by unfold fnL0; simp only [List.mem_cons, true_or, or_true])))) f16, d_sFewP := ff_at X G c (show _ ∈ fnL from (RG.in_part (RG.in_part (by unfold fnL0; simp only [List.mem_cons, true_or, or_true])))) f17, d_sNexts := ff_at X G c (show _ ∈ fnL from (RG.in_part (RG.in_part (by unfold fnL0; simp only [List.mem_cons, true_or, or_true])))) f18, d_sAreM := ff_at X G c (show _ ∈ fnL from (RG.in_part (RG.in_part (by unfold fnL0; simp only [List.mem_cons, true_or, or_true])))) f19, d_sCorn := ff_at X G c (show _ ∈ fnL from (RG.in_part (RG.in_rest (by unfold fnL1; simp only [List.mem_cons, true_or, or_true])))) f20, d_sPieces := ff_at X G c (show _ ∈ fnL from (RG.in_part (RG.in_rest (by unfold fnL1; simp only [List.mem_cons, true_or, or_true])))) f21, d_sMany := ff_at X G c (show _ ∈ fnL from (RG.in_part (RG.in_rest (by unfold fnL1; simp only [List.mem_cons, true_or, or_true])))) f22, d_sAllS := ff_at X G c (show _ ∈ fnL from (RG.in_part (RG.in_rest (by unfold fnL1; simp only [List.mem_cons, true_or, or_true])))) f23, d_sCens := ff_at X G c (show _ ∈ fnL from (RG.in_part (RG.in_rest (by unfold fnL1; simp only [List.mem_cons, true_or, or_true])))) f24, d_sNeedPl := ff_at X G c (show _ ∈ fnL from (RG.in_part (RG.in_rest (by unfold fnL1; simp only [List.mem_cons, true_or, or_true])))) f25, d_sJar := ff_at X G c (show _ ∈ fnL from (RG.in_part (RG.in_rest (by unfold fnL1; simp only [List.mem_cons, true_or, or_true])))) f26, d_sDraw := ff_at X G c (show _ ∈ fnL from (RG.in_part (RG.in_rest (by unfold fnL1; simp only [List.mem_cons, true_or, or_true])))) f27, d_sPick := ff_at X G c (show _ ∈ fnL from (RG.in_part (RG.in_rest (by unfold fnL1; simp only [List.mem_cons, true_or, or_true])))) f28, d_sMixed := ff_at X G c (show _ ∈ fnL from (RG.in_part (RG.in_rest (by unfold fnL1; simp only [List.mem_cons, true_or, or_true])))) f29, d_sCut := ff_at X G c (show _ ∈ fnL from (RG.in_part (RG.in_rest (by unfold fnL1; simp only [List.mem_cons, true_or, or_true])))) f30, d_sPlain := ff_at X G c (show _ ∈ fnL from (RG.in_part (RG.in_rest (by unfold fnL1; simp only [List.mem_cons, true_or, or_true])))) f31, d_sLRims := ff_at X G c (show _ ∈ fnL from (RG.in_part (RG.in_rest (by unfold fnL1; simp only [List.mem_cons, true_or, or_true])))) f32, d_sLets := ff_at X G c (show _ ∈ fnL from (RG.in_part (RG.in_rest (by unfold fnL1; simp only [List.mem_cons, true_or, or_true])))) f33, d_sMates := ff_at X G c (show _ ∈ fnL from (RG.in_part (RG.in_rest (by unfold fnL1; simp only [List.mem_cons, true_or, or_true])))) f34, d_sBeg := ff_at X G c (show _ ∈ fnL from (RG.in_part (RG.in_rest (by unfold fnL1; simp only [List.mem_cons, true_or, or_true])))) f35, d_sMov := ff_at X G c (show _ ∈ fnL from (RG.in_part (RG.in_rest (by unfold fnL1; simp only [List.mem_cons, true_or, or_true])))) f36, d_sRen := ff_at X G c (show _ ∈ fnL from (RG.in_part (RG.in_rest (by unfold fnL1; simp only [List.mem_cons, true_or, or_true])))) f37, d_sNam := ff_at X G c (show _ ∈ fnL from (RG.in_part (RG.in_rest (by unfold fnL1; simp only [List.mem_cons, true_or, or_true])))) f38, d_sCar := ff_at X G c (show _ ∈ fnL from (RG.in_part (RG.in_rest (by unfold fnL1; simp only [List.mem_cons, true_or, or_true])))) f39, d_sLots := ff_at X G c (show _ ∈ fnL from (RG.in_rest (by unfold fnL2; simp only [List.mem_cons, true_or, or_true]))) f40, d_sLaw := ff_at X G c (show _ ∈ fnL from (RG.in_rest (by unfold fnL2; simp only [List.mem_cons, true_or, or_true]))) f41, m_sInit := fm_at c (show _ ∈ fnL from (RG.in_rest (by unfold fnL2; simp only [List.mem_cons, true_or, or_true]))) m0 m1, m_sEq := fm_at c (show _ ∈ fnL from (RG.in_rest (by unfold fnL2; simp only [List.mem_cons, true_or, or_true]))) m2 m3, m_sInitR := fm_at c (show _ ∈ fnL from (RG.in_rest (by unfold fnL2; simp only [List.mem_cons, true_or, or_true]))) m4 m5, m_sEqR := fm_at c (show _ ∈ fnL from (RG.in_rest (by unfold fnL2; simp only [List.mem_cons, true_or, or_true]))) m6 m7, m_sNextR := fm_at c (show _ ∈ fnL from (RG.in_rest (by unfold fnL2; simp only [List.mem_cons, true_or, or_true]))) m8 m9, m_sRimOf := fm_at c (show _ ∈ fnL from (RG.in_rest (by unfold fnL2; simp only [List.mem_cons, true_or, or_true]))) m10 m11, m_sInitS := fm_at c (show _ ∈ fnL from (RG.in_rest (by unfold fnL2; simp only [List.mem_cons, true_or, or_true]))) m12 m13 }
end W16
open PySem PySem.W PySem.Calls PyProof.Rows in
set_option maxRecDepth 100000 in
set_option maxHeartbeats 0 in
theorem PySem.Challenge.cw_handlerims_k16_rims_turned_contrary_and_holds : PySem.Challenge.rw_handlerims_k16_rims_turned_contrary_and.Holds := by
  w_on; o_law
  refine HandSHeadRun.head_imp (r := OpenLaw.row PySem.Challenge.rw_handlerims_k16_rims_turned_contrary_and) (q := W16.viewP) (H := W16.hk) (ob := W16.ob) (M := 20000) (loose := W16.looseN) (d := HandSHeadRun.topDef (OpenLaw.row PySem.Challenge.rw_handlerims_k16_rims_turned_contrary_and).prog 82) (kwd := []) W16.ob_eq W16.run (by kernel_rfl) (by kernel_rfl) (by kernel_rfl) (by rfl) (by first | assumption | decide +kernel) (by decide +kernel) ⟨rfl, rfl, rfl, rfl, rfl, by decide +kernel⟩ ?hw ?hc
  case hw => w_witness2
  case hc =>
    refine L2.walk_ofE (l := PySem.Challenge.rw_handlerims_k16_rims_turned_contrary_and) (n := 63) (k := 29) (x := "_law_script") (CX := L2.CX0) rfl (by decide) (by kernel_rfl) ⟨rfl, by decide, by decide⟩ ?F (fun _ _ _ _ z => z)
    intro w mg fa h Y G hmg0
    obtain ⟨K, X, c⟩ := Y
    have hmg : mg ("law" : PySem.Str) = some (.ref fa) := by
      have e : (HandSHeadRun.topDef (PySem.W.OpenLaw.row PySem.Challenge.rw_handlerims_k16_rims_turned_contrary_and).prog 82).name = ("law" : PySem.Str) := by kernel_rfl
      rw [← e]
      exact hmg0
    obtain ⟨g_FN0, g_FN1, g_FCC, g_FCCR, g_FCCS, g_FD0, g_FD1, g_FD2, g_FM0⟩ := W16.said c
    obtain ⟨fd, hb, hF⟩ := W16.at_mk (l := PySem.Challenge.rw_handlerims_k16_rims_turned_contrary_and) (w := w) X G hmg (W16.names_at X G g_FN0 g_FN1) (W16.defs_at X G c g_FD0 g_FD1 g_FD2 g_FM0) (W16.cls_atC X G g_FCC) (W16.cls_atCR X G g_FCCR) (W16.cls_atCS X G g_FCCS)
    exact ⟨K, fd, W16.spLaw K, X, hb, fun H a ns hl _ hS => ⟨a, ns, rfl, hS, hl, fun _ => rfl⟩, hF⟩
