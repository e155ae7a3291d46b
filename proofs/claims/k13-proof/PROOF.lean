import PyProof.Rows.All
import Wide.All
import OpenK.AllK
import Wide.FinOn
import HandS.ForMost
import HandS.Strs
import HandS.SetBool
import HandS.TupAny
import HandS.TupMul
import KE.KRevSl
import HandS.Exc
import HandS.TryOnly
import HandS.ExcOwn
import HandS.WordsExc
import HandS.Wide
import HandS.IsInst
import HandS.Style
import HandS.Flow
import HandS.Evl
import HandS.MakeKwOnly
import HandS.Walk
import KE.KEqSeq
import HandS.OwnEq
import HandS.More
import PyProof.InstNe
import HandS.ClsMeth
import OpenK.KDescr
import KE.KCallOwn
import PyProof.StrLawsChain
import HandS.Codes
import PyProof.ReprRoads
import HandS.SetFor
import HandS.TupSets
import HandS.SetKeys
import HandS.Dict
import HandS.Iter
import HandS.Deep
import HandS.ReCall
import HandS.Conv
import KE.GoesMore
import HandS.Gcd
import HandS.Base
import HandS.Call
import HandS.Zip
import HandS.ExcInit
import HandS.ExcField
import HandS.ExcIs
import HandS.ExcValue
import HandS.RaiseMore
import PyProof.CallFns
import HandS.Lambda
import HandS.EndTab
import KE.KNestM
import HandS.SortOrd
import HandS.SortRule
import PyProof.MakeMany
import HandS.TupLe
import PySem.Challenge.RW_handlerims_k13_all_sewings_and_their_cen
set_option Elab.async false
set_option linter.all false
namespace Fr
/-- a letter laid on what is left, its last one in front -/
def push : List Int → Int → List Int
  | [], a => [a]
  | b :: t, a => if b = -a then t else a :: b :: t
def act (s : List Int) (xs : List Int) : List Int := xs.foldl push s
/-- no neighbours are contraries -/
def Rd : List Int → Prop
  | [] => True
  | [_] => True
  | a :: b :: t => a ≠ -b ∧ Rd (b :: t)
/-- what is left of a row of letters -/
def shr (xs : List Int) : List Int := (act [] xs).reverse
/-- the contraries, the last one first -/
def con (xs : List Int) : List Int := xs.reverse.map (fun a => -a)
theorem Rd.tail {a : Int} {t : List Int} (h : Rd (a :: t)) : Rd t := by
  cases t with
  | nil => trivial
  | cons b u => exact h.2
theorem push_rd {s : List Int} (a : Int) (h : Rd s) : Rd (push s a) := by
  cases s with
  | nil => trivial
  | cons b t =>
    show Rd (if b = -a then t else a :: b :: t)
    by_cases e : b = -a
    · rw [if_pos e]; exact h.tail
    · rw [if_neg e]
      refine ⟨?_, h⟩
      omega
theorem push_push {s : List Int} (a : Int) (h : Rd s) : push (push s a) (-a) = s := by
  cases s with
  | nil => simp [push]
  | cons b t =>
    by_cases e : b = -a
    · have h1 : push (b :: t) a = t := by simp [push, e]
      rw [h1]
      cases t with
      | nil => simp [push, e]
      | cons c u =>
        have hc : c ≠ - -a := by
          intro hc
          exact h.1 (by omega)
        simp [push, e]
        omega
    · have h1 : push (b :: t) a = a :: b :: t := by simp [push, e]
      rw [h1]
      simp [push]
theorem act_cons (s : List Int) (a : Int) (t : List Int) : act s (a :: t) = act (push s a) t := rfl
theorem act_append (s xs ys : List Int) : act s (xs ++ ys) = act (act s xs) ys := List.foldl_append
theorem act_snoc (s xs : List Int) (a : Int) : act s (xs ++ [a]) = push (act s xs) a := act_append s xs [a]
theorem act_rd : ∀ {xs s : List Int}, Rd s → Rd (act s xs)
  | [], _, h => h
  | a :: t, _, h => act_rd (xs := t) (push_rd a h)
/-- two rows are one and the same when they act alike -/
def Sm (xs ys : List Int) : Prop := ∀ s, Rd s → act s xs = act s ys
theorem Sm.refl (xs : List Int) : Sm xs xs := fun _ _ => rfl
theorem Sm.symm {xs ys : List Int} (h : Sm xs ys) : Sm ys xs := fun s r => (h s r).symm
theorem Sm.trans {xs ys zs : List Int} (h : Sm xs ys) (k : Sm ys zs) : Sm xs zs := fun s r => (h s r).trans (k s r)
theorem Sm.app {xs ys us vs : List Int} (h : Sm xs ys) (k : Sm us vs) : Sm (xs ++ us) (ys ++ vs) := fun s r => by
  rw [act_append, act_append, h s r, k _ (act_rd r)]
theorem Sm.out (a : Int) : Sm [a, -a] [] := fun s r => push_push a r
theorem rd_cons {a : Int} {t : List Int} : Rd (a :: t) ↔ (∀ b, t.head? = some b → a ≠ -b) ∧ Rd t := by
  cases t with
  | nil => simp [Rd]
  | cons b u => simp [Rd]
theorem rd_append {xs ys : List Int} : Rd (xs ++ ys) ↔ Rd xs ∧ Rd ys ∧ ∀ a b, xs.getLast? = some a → ys.head? = some b → a ≠ -b := by
  induction xs with
  | nil => simp [Rd]
  | cons x t ih =>
    rw [List.cons_append, rd_cons, rd_cons, ih]
    cases t with
    | nil =>
      simp [Rd]
      constructor
      · rintro ⟨h1, h2⟩
        exact ⟨h2, fun a b ha hb => ha ▸ h1 b hb⟩
      · rintro ⟨h1, h2⟩
        exact ⟨fun b hb => h2 x b rfl hb, h1⟩
    | cons y u =>
      simp [List.getLast?_cons_cons]
      constructor
      · rintro ⟨h1, h2, h3, h4⟩
        exact ⟨⟨h1, h2⟩, h3, h4⟩
      · rintro ⟨⟨h1, h2⟩, h3, h4⟩
        exact ⟨h1, h2, h3, h4⟩
theorem rd_reverse {xs : List Int} : Rd xs.reverse ↔ Rd xs := by
  induction xs with
  | nil => simp [Rd]
  | cons x t ih =>
    rw [List.reverse_cons, rd_append, ih, rd_cons (a := x) (t := t)]
    have one : Rd [x] := trivial
    simp [one]
    constructor
    · rintro ⟨h1, h2⟩
      refine ⟨fun b hb => ?_, h1⟩
      have := h2 b hb
      omega
    · rintro ⟨h1, h2⟩
      refine ⟨h2, fun b hb => ?_⟩
      have := h1 b hb
      omega
theorem rd_shr (xs : List Int) : Rd (shr xs) := rd_reverse.2 (act_rd trivial)
theorem con_cons (a : Int) (t : List Int) : con (a :: t) = con t ++ [-a] := by simp [con]
theorem con_length (xs : List Int) : (con xs).length = xs.length := by simp [con]
/-- short, and its ends are no contraries -/
def Cy (w : List Int) : Prop := Rd w ∧ ∀ a b, w.head? = some a → w.getLast? = some b → a ≠ -b
/-- no letter is 0 -/
def NZ (xs : List Int) : Prop := ∀ a ∈ xs, a ≠ 0
theorem cy_nil : Cy [] := ⟨trivial, fun a b h => by simp at h⟩
theorem NZ.app {xs ys : List Int} (h : NZ xs) (k : NZ ys) : NZ (xs ++ ys) := fun a ha => by
  rcases List.mem_append.1 ha with h1 | h1
  · exact h a h1
  · exact k a h1
theorem push_mem {s : List Int} {a x : Int} (h : x ∈ push s a) : x = a ∨ x ∈ s := by
  cases s with
  | nil => left; simpa [push] using h
  | cons b t =>
    have h2 : x ∈ (if b = -a then t else a :: b :: t) := h
    by_cases e : b = -a
    · rw [if_pos e] at h2; exact .inr (List.mem_cons_of_mem _ h2)
    · rw [if_neg e] at h2
      rcases List.mem_cons.1 h2 with h3 | h3
      · exact .inl h3
      · exact .inr h3
theorem act_mem : ∀ {xs s : List Int} {x : Int}, x ∈ act s xs → x ∈ xs ∨ x ∈ s
  | [], _, _, h => .inr h
  | a :: t, s, x, h => by
    rw [act_cons] at h
    rcases act_mem h with h1 | h1
    · exact .inl (List.mem_cons_of_mem _ h1)
    · rcases push_mem h1 with h2 | h2
      · exact .inl (h2 ▸ List.mem_cons_self)
      · exact .inr h2
theorem shr_mem {xs : List Int} {x : Int} (h : x ∈ shr xs) : x ∈ xs := by
  unfold shr at h
  rcases act_mem (List.mem_reverse.1 h) with h1 | h1
  · exact h1
  · simp at h1
theorem NZ.shr {xs : List Int} (h : NZ xs) : NZ (shr xs) := fun a ha => h a (shr_mem ha)
/-- a row between a letter and its contrary, or one that has no such ends -/
theorem ends_or (xs : List Int) (nz : NZ xs) : (∃ a m, xs = a :: (m ++ [-a])) ∨ ∀ a b, xs.head? = some a → xs.getLast? = some b → a ≠ -b := by
  cases xs with
  | nil => right; intro a b h; simp at h
  | cons a t =>
    by_cases ht : t = []
    · subst ht
      right
      intro x y hx hy
      simp at hx hy
      have := nz a (by simp)
      omega
    · have e := List.dropLast_concat_getLast ht
      by_cases hb : t.getLast ht = -a
      · left
        refine ⟨a, t.dropLast, ?_⟩
        rw [← hb, e]
      · right
        intro x y hx hy
        rw [← e] at hy
        rw [show a :: (t.dropLast ++ [t.getLast ht]) = (a :: t.dropLast) ++ [t.getLast ht] from rfl] at hy
        rw [List.getLast?_append] at hy
        simp at hx hy
        omega
/-- every short row is a row, one that is short round, and the contrary of the first -/
theorem parted (xs : List Int) (nz : NZ xs) (r : Rd xs) : ∃ u w, xs = u ++ w ++ con u ∧ Cy w ∧ (w = [] → u = []) := by
  have gen : ∀ (n : Nat) (xs : List Int), xs.length ≤ n → NZ xs → Rd xs → ∃ u w, xs = u ++ w ++ con u ∧ Cy w ∧ (w = [] → u = []) := by
    intro n
    induction n with
    | zero =>
      intro xs h _ _
      have : xs = [] := List.length_eq_zero_iff.1 (by omega)
      subst this
      exact ⟨[], [], rfl, cy_nil, fun _ => rfl⟩
    | succ n ih =>
      intro xs h nz r
      rcases ends_or xs nz with ⟨a, m, rfl⟩ | k
      · have hr : Rd (m ++ [-a]) := r.tail
        have hm : Rd m := (rd_append.1 hr).1
        obtain ⟨u, w, e, c, z⟩ := ih m (by simp at h; omega) (fun x hx => nz x (by simp [hx])) hm
        have hne : m ≠ [] := by
          intro e0
          subst e0
          have := r.1
          simp at this
        refine ⟨a :: u, w, ?_, c, fun hw => ?_⟩
        · rw [con_cons, e]; simp
        · exfalso
          have hu := z hw
          subst hw hu
          exact hne (by simpa [con] using e)
      · exact ⟨[], xs, by simp [con], ⟨r, k⟩, fun _ => rfl⟩
  exact gen xs.length xs (Nat.le_refl _) nz r
/-- the ends off, as long as they are contraries -/
def endsN : Nat → List Int → List Int
  | 0, xs => xs
  | n + 1, xs => if 1 < xs.length ∧ xs.head? = xs.getLast?.map (fun a => -a) then endsN n xs.tail.dropLast else xs
def ends (xs : List Int) : List Int := endsN xs.length xs
theorem endsN_cy : ∀ (n : Nat) {w : List Int}, Cy w → endsN n w = w
  | 0, _, _ => rfl
  | n + 1, w, h => by
    unfold endsN
    rw [if_neg]
    rintro ⟨h1, h2⟩
    cases e : w.getLast? with
    | none =>
      rw [List.getLast?_eq_none_iff] at e
      subst e
      simp at h1
    | some b =>
      rw [e] at h2
      exact h.2 (-b) b h2 e rfl
theorem endsN_eq : ∀ (n : Nat) (u w : List Int), Cy w → u.length ≤ n → (w = [] → u = []) → endsN n (u ++ w ++ con u) = w
  | n, [], w, c, _, _ => by
    simp [con]
    exact endsN_cy n c
  | 0, a :: u, w, c, h, _ => by simp at h
  | n + 1, a :: u, w, c, h, z => by
    have e : (a :: u) ++ w ++ con (a :: u) = a :: ((u ++ w ++ con u) ++ [-a]) := by
      rw [con_cons]; simp
    rw [e]
    unfold endsN
    rw [if_pos]
    · rw [List.tail_cons, List.dropLast_concat]
      refine endsN_eq n u w c (by simp at h; exact h) fun hw => ?_
      have := z hw
      simp at this
    · constructor
      · simp only [List.length_cons, List.length_append, List.length_nil]; omega
      · rw [show a :: ((u ++ w ++ con u) ++ [-a]) = (a :: (u ++ w ++ con u)) ++ [-a] from rfl, List.getLast?_append]
        simp
theorem ends_eq {u w : List Int} (c : Cy w) (z : w = [] → u = []) : ends (u ++ w ++ con u) = w :=
  endsN_eq _ u w c (by simp) z
/-- what is left of a ring -/
def rnd (xs : List Int) : List Int := ends (shr xs)
def Trn (xs ys : List Int) : Prop := ∃ p q, xs = p ++ q ∧ ys = q ++ p
theorem Trn.refl (xs : List Int) : Trn xs xs := ⟨[], xs, rfl, by simp⟩
theorem Trn.symm {xs ys : List Int} (h : Trn xs ys) : Trn ys xs := by
  obtain ⟨p, q, e1, e2⟩ := h
  exact ⟨q, p, e2, e1⟩
theorem Trn.trans {xs ys zs : List Int} (h : Trn xs ys) (k : Trn ys zs) : Trn xs zs := by
  obtain ⟨p, q, rfl, e⟩ := h
  obtain ⟨p2, q2, e2, rfl⟩ := k
  rw [e] at e2
  rcases List.append_eq_append_iff.1 e2 with ⟨c, h1, h2⟩ | ⟨c, h1, h2⟩
  · subst h1 h2
    exact ⟨c, q2 ++ q, by simp, by simp⟩
  · subst h1 h2
    exact ⟨p ++ p2, c, by simp, by simp⟩
end Fr
set_option Elab.async false
set_option linter.all false
set_option maxRecDepth 100000
set_option maxHeartbeats 2000000
namespace WS
open PySem PySem.Spec PyProof.Rows L2 PpSet
/-- a set as it is when it is made -/
abbrev bareSet (w : World) : Obj := { cls := .type "set", dict := none, data := .set #[] 0 (.fresh 0 0 (!w.params.followText "set-order")) }
theorem bare_ok (w : World) (h : Heap) : SetR w (h.push (bareSet w)) h.objs.size (fun _ => false) 0 := by
  have led : w.params.followText "set-order" = true ∨ (!w.params.followText "set-order") = true := by
    cases w.params.followText "set-order"
    · right; rfl
    · left; rfl
  refine ⟨bareSet w, #[], 0, _, Heap.get?_push_size _ rfl, ⟨rfl, rfl, rfl⟩, rfl, ?_, ?_, ?_, by decide, rfl, rfl, List.Pairwise.nil, led⟩
  · intro e he; simp at he
  · simp
  · intro k; simp
/-- the new set at D, filled turn by turn -/
def Fills (w : World) (J : It) (g : TG) (tt : TT) (te : TE) (vs : List Nat) (σ : L2.St) (D : Addr) (Q : VK) (W : Nat → Nat → Hp → Prop) : Prop :=
  ∀ i m H, W i m H → (J.stop i H ∧ Q (.ref D) H) ∨ (J.go i H ∧ ∃ N : Hp → Prop, (∀ H', N H' → ∃ m', m' < m ∧ W (i + 1) m' H') ∧
    ∀ x H', J.yld i H x H' → g x (wipe σ vs) H' fun σ2 H2 => wipe σ2 vs = wipe σ vs ∧ tt σ2 H2 fun b H3 => if b = true then te σ2 H3 fun y H4 => rSAdd w (.ref D) [y] H4 fun _ H5 => N H5 else N H3)
def tSetI (w : World) (wi : TI) (g : TG) (tt : TT) (te : TE) (vs : List Nat) : TE := fun σ H Q => wi σ H fun J H1 => ∀ D, H1 D = none →
  ∃ W : Nat → Nat → Hp → Prop, (∃ m, W 0 m (upd H1 D (SetO w D (fun _ => false) 0))) ∧ Fills w J g tt te vs σ D Q W
section
variable {X : Cx}
/-- what a turn leaves known -/
def Known (X : Cx) (Z : Cx) (σw : L2.St) (fp : List Addr) (tn : Nat → Heap → Prop) (W : Nat → Nat → Hp → Prop) (m : Nat) (s : Shared) : Prop :=
  ∃ (i : Nat) (H : Hp), Inv Z [] σw H s ∧ tn i s.heap ∧ (∀ b ∈ fp, H b = none) ∧ W i m H
theorem fill_set {elt tg iter : Expr} {ifs : List Expr} {scope : Scope} {own : List (PySem.Str × Nat)} {pos : Pos} {g : TG} {tt : TT} {te : TE} {pins : List (Addr × Obj)} {σ : L2.St} {H3 : Hp} {s3 : Shared} {it D : Addr} {fp : List Addr} {tn : Nat → Heap → Prop} {J : It} {m0 : Nat} {W : Nat → Nat → Hp → Prop} {Q : VK}
    (calm : X.calm = true) (nod : X.N.Nodup) (blk : BlkOk X.N X.env.scope scope own)
    (target : ∀ (s : Shared) (H : Hp) (C : Addr) (cl : List (PySem.Str × Addr)) (fp : List Addr), PG (X.blk s H scope (compEnvC scope cl C X.env) fp) tg g)
    (tests : ∀ (s : Shared) (H : Hp) (C : Addr) (cl : List (PySem.Str × Addr)) (fp : List Addr), PTs (X.blk s H scope (compEnvC scope cl C X.env) fp) ifs tt)
    (item : ∀ (s : Shared) (H : Hp) (C : Addr) (cl : List (PySem.Str × Addr)) (fp : List Addr), PE (X.blk s H scope (compEnvC scope cl C X.env) fp) elt te)
    (T : Turn X.prog X.w X.K tg J fp it tn) (I3 : Inv X pins σ H3 s3) (off : ∀ b ∈ fp, FpOk X pins H3 b ∧ b < s3.heap.objs.size) (st3 : tn 0 s3.heap) (w0 : W 0 m0 H3) (turn : Fills X.w J g tt te (own.map (·.2)) σ D Q W) :
    codeAny (model X.prog X.w) X.A (.compStart (.SetComp elt [⟨tg, iter, ifs, 0⟩] scope pos) 0 (.ref it) (.ref D) (compEnvC scope (cellsFrom (s3.heap.objs.size + 1) scope.names (cloFrom X.env.cells scope.names [])) s3.heap.objs.size X.env))
      (compPost (model X.prog X.w) X.A X.xe none (EP X pins σ Q) (.ref D) s3.heap.objs.size) { s3 with heap := pushCells (s3.heap.push { cls := .type "dict", data := .dict #[] }) scope.names } := by
  have I4 := block_start I3 blk nod off
  have pg := target s3 H3 s3.heap.objs.size (cellsFrom (s3.heap.objs.size + 1) scope.names (cloFrom X.env.cells scope.names [])) fp
  have pt := tests s3 H3 s3.heap.objs.size (cellsFrom (s3.heap.objs.size + 1) scope.names (cloFrom X.env.cells scope.names [])) fp
  have pe := item s3 H3 s3.heap.objs.size (cellsFrom (s3.heap.objs.size + 1) scope.names (cloFrom X.env.cells scope.names [])) fp
  have st4 : tn 0 (pushCells (s3.heap.push { cls := .type "dict", data := .dict #[] }) scope.names) := T.keep _ _ _ st3 fun _ _ _ e => pushCells_keeps _ _ _ _ (Heap.get?_push_of_some _ e)
  obtain ⟨ce, ece⟩ : ∃ ce : Env, ce = compEnvC scope (cellsFrom (s3.heap.objs.size + 1) scope.names (cloFrom X.env.cells scope.names [])) s3.heap.objs.size X.env := ⟨_, rfl⟩
  have loc : ce.locals = s3.heap.objs.size := by rw [ece]; rfl
  rw [← ece] at I4 pg pt pe ⊢
  -- the places that the walk keeps
  have held : ∀ {σ' : L2.St} {H' : Hp} {s' : Shared}, Inv (X.blk s3 H3 scope ce fp) [] σ' H' s' → (∀ b ∈ fp, H' b = none) → ∀ b ∈ fp, FpOk (X.blk s3 H3 scope ce fp) [] H' b := by
    intro σ' H' s' I' none' b hb
    refine ⟨none' b hb, (I'.ok.exf b hb).1, I'.ok.exfs b hb, .inl hb, (I'.ok.exf b hb).2, fun p hp => ?_⟩
    simp at hp
  have all : codeAny (model X.prog X.w) X.A (.compLoop (.SetComp elt [⟨tg, iter, ifs, 0⟩] scope pos) 0 (.ref it) (.ref D) ce) (compPost (model X.prog X.w) X.A X.xe none (EP X pins σ Q) (.ref D) s3.heap.objs.size) { s3 with heap := pushCells (s3.heap.push { cls := .type "dict", data := .dict #[] }) scope.names } := by
    refine compLoopS_any (Known X (X.blk s3 H3 scope ce fp) (wipe σ (own.map (·.2))) fp tn W) (fun m s5 known => ?_) m0 ⟨0, H3, I4, st4, fun b hb => (off b hb).1.1, w0⟩
    obtain ⟨i, H5, I5, st5, none5, w5⟩ := known
    cases turn i m H5 w5 with
    | inl ended =>
      refine thnF (T.done (X.blk s3 H3 scope ce fp) rfl rfl rfl calm i [] s5 _ H5 (fun _ _ => False) I5 (held I5 none5) st5 ended.1) fun r s6 hr => ?_
      obtain ⟨rfl, I6⟩ := hr
      have back : Inv X pins σ H5 s6 := I3.call' (ch := fp) I6.os I6.base I6.hok I6.bare fun b hb => by
        obtain ⟨⟨_, f1, f2, f3, f4, f5⟩, _⟩ := off b hb
        exact ⟨f3, f1, f4, f5⟩
      have noL : H5 s3.heap.objs.size = none := by rw [← loc]; exact I6.free
      obtain ⟨mm, names, _⟩ := I6.loc
      have names' : s6.heap.Ns s3.heap.objs.size mm := by rw [← loc]; exact names
      obtain ⟨f0, f1, f2, f3, f4, f5⟩ := I3.fpOk (Nat.le_refl _) noL
      exact ⟨mm, names', fun h' same => ⟨.ref D, H5, back.turned (t' := s6.toks) (fun b o hb e => (same.2 b hb).trans e) f0 f1 f3 f4 f5, rfl, ended.2⟩⟩
    | inr goes =>
      obtain ⟨go, N, hN, step⟩ := goes
      refine thnF (T.item (X.blk s3 H3 scope ce fp) rfl rfl rfl calm i [] s5 _ H5 (fun _ _ => False) I5 (held I5 none5) st5 go) fun r s6 hr => ?_
      obtain ⟨u, rfl, h6⟩ := hr
      refine thnF h6 fun _ s7 h7 => ?_
      obtain ⟨x, H7, I7, r7, y7, st7, none7⟩ := h7
      refine thnF (pg.run _ s7 _ H7 x u _ (I7.pinned (held I7 none7) (T.obj _ _ st7)) r7 (step x H7 y7)) fun _ s8 h8 => ?_
      obtain ⟨σ8, H8, I8, wiped, q8⟩ := h8
      refine thnF (pt.run _ s8 σ8 H8 _ I8 q8) fun b s9 h9 => ?_
      obtain ⟨H9, I9, q9⟩ := h9
      have next : ∀ {s' : Shared} {H' : Hp}, Inv (X.blk s3 H3 scope ce fp) ([] ++ pinsAt fp s7.heap) σ8 H' s' → N H' → ∃ m', m' < m ∧ Known X (X.blk s3 H3 scope ce fp) (wipe σ (own.map (·.2))) fp tn W m' s' := by
        intro s' H' I' nx
        obtain ⟨m', lt, w'⟩ := hN H' nx
        have kept : ∀ b ∈ fp, ∀ o, s7.heap.get? b = some o → s'.heap.get? b = some o ∧ H' b = none := by
          intro b hb o e
          obtain ⟨z1, z2, _⟩ := I'.pin (b, o) (List.mem_append_right _ (List.mem_append_right _ (mem_pinsAt hb e)))
          exact ⟨z1, z2⟩
        have len : (wipe σ (own.map (·.2))).length = σ8.length := by rw [← wiped, wipe_length]
        refine ⟨m', lt, i + 1, H', (I'.unpinned (pins := [])).weak len (fun j v e => ?_), T.keep _ _ _ st7 fun b hb o e => (kept b hb o e).1, fun b hb => ?_, w'⟩
        · rw [← wiped] at e
          exact (wipe_some e).1
        · obtain ⟨o, e, _⟩ := T.obj _ _ st7 b hb
          exact (kept b hb o e).2
      cases b with
      | false =>
        rw [if_neg Bool.false_ne_true] at q9 ⊢
        exact next I9 q9
      | true =>
        rw [if_pos rfl] at q9 ⊢
        refine thnF (pe.run _ s9 σ8 H9 _ I9 q9) fun z s10 h10 => ?_
        obtain ⟨yv, H10, I10, r10, adds⟩ := h10
        refine thnF (mt_sadd (X := X.blk s3 H3 scope ce fp) _ s10 σ8 H10 (.ref D) [yv] (.ref D) [z] _ I10 rfl (.cons r10 .nil) adds) fun _ s11 h11 => ?_
        obtain ⟨_, H11, I11, _, nx⟩ := h11
        exact next I11 nx
  exact codeAny_compStart_set all (T.self X.A 0 _ _ _ st4 all)
theorem pe_setI {elt tg iter : Expr} {ifs : List Expr} {scope : Scope} {own : List (PySem.Str × Nat)} {pos : Pos} {wi : TI} {g : TG} {tt : TT} {te : TE} (calm : X.calm = true) (nod : X.N.Nodup) (walked : PI X tg iter wi) (blk : BlkOk X.N X.env.scope scope own)
    (target : ∀ (s : Shared) (H : Hp) (C : Addr) (cl : List (PySem.Str × Addr)) (fp : List Addr), PG (X.blk s H scope (compEnvC scope cl C X.env) fp) tg g)
    (tests : ∀ (s : Shared) (H : Hp) (C : Addr) (cl : List (PySem.Str × Addr)) (fp : List Addr), PTs (X.blk s H scope (compEnvC scope cl C X.env) fp) ifs tt)
    (item : ∀ (s : Shared) (H : Hp) (C : Addr) (cl : List (PySem.Str × Addr)) (fp : List Addr), PE (X.blk s H scope (compEnvC scope cl C X.env) fp) elt te) (plain : ∀ x, foldedSetIterable iter X.env x = pure x := by intro _; rfl) :
    PE X (.SetComp elt [⟨tg, iter, ifs, 0⟩] scope pos) (tSetI X.w wi g tt te (own.map (·.2))) := by
  refine ⟨fun pins s σ H Q I asked => ?_⟩
  rw [eval_SetComp]
  have caught : ∀ y ∈ scope.names, y.2 = .free → ∃ c, X.env.cells.lookup y.1 = some c := by
    intro y hy e
    cases blk.free y hy e with
    | inl k => exact I.ok.has _ (.inl k)
    | inr k => exact I.ok.has _ (.inr k)
  refine wpAny_comprehension_free (use := none) rfl plain (closure_ok caught) blk.kind (fun y hy e => by rw [blk.uniq y hy, e]) ?_
  refine thn (walked.run pins s σ H _ I asked) fun _ _ h1 => thn h1 fun _ s2 h2 => ?_
  obtain ⟨it, fp, tn, J, H2, rfl, I2, T, st2, off2, fill⟩ := h2
  refine newSet_ok (newEnv_comp ?_)
  have free0 : H2 s2.heap.objs.size = none := I2.hok.fresh (Nat.le_refl _)
  obtain ⟨W, ⟨m0, w0⟩, turn⟩ := fill s2.heap.objs.size free0
  have I3 : Inv X pins σ (upd H2 s2.heap.objs.size (SetO X.w s2.heap.objs.size (fun _ => false) 0)) { s2 with heap := s2.heap.push (bareSet X.w) } :=
    I2.laid (t' := s2.toks) (fun _ _ e => Heap.get?_push_of_some _ e) (Nat.le_refl _) (setO_new (bare_ok X.w s2.heap))
  have below : ∀ b ∈ fp, b < s2.heap.objs.size := by
    intro b hb
    obtain ⟨o, e, _⟩ := T.obj _ _ st2 b hb
    exact Heap.lt_size e
  have off3 : ∀ b ∈ fp, FpOk X pins (upd H2 s2.heap.objs.size (SetO X.w s2.heap.objs.size (fun _ => false) 0)) b ∧ b < (s2.heap.push (bareSet X.w)).objs.size := by
    intro b hb
    refine ⟨⟨?_, (off2 b hb).2⟩, by rw [Heap.size_push]; exact Nat.lt_succ_of_lt (below b hb)⟩
    rw [upd_ne (Nat.ne_of_lt (below b hb))]
    exact (off2 b hb).1
  exact fill_set calm nod blk target tests item T I3 off3 (T.keep _ _ _ st2 fun _ _ _ e => Heap.get?_push_of_some _ e) w0 turn
end
end WS
set_option Elab.async false
set_option linter.all false
set_option maxRecDepth 100000
set_option maxHeartbeats 2000000
namespace WR
open PySem PySem.Spec PyProof.Rows L2
/-- some tuple of these values, all else as it stood -/
def NewT (K : PySem.W.Frag) (H : Hp) (Q : VK) (xs : List V) : Prop := ∀ p H', Same H H' → SqT K H' p xs → Q (.ref p) H'
theorem same_upd {H : Hp} {p : Addr} {o : HO} (hp : H p = none) : Same H (upd H p o) := fun b u e => by
  rw [upd_ne (ne_of_none e hp)]
  exact e
theorem Same.seqT {K : PySem.W.Frag} {H H' : Hp} {a : Addr} {xs : List V} (e : Same H H') (h : SqT K H a xs) : SqT K H' a xs := by
  rcases h with h | h
  · left
    rcases h with h | ⟨o, h⟩
    · exact .inl (e _ _ h)
    · exact .inr ⟨o, e _ _ h⟩
  · exact .inr h
theorem NewT.self {K : PySem.W.Frag} {H : Hp} {Q : VK} {xs : List V} {a : Addr} (k : NewT K H Q xs) (h : SqT K H a xs) : Q (.ref a) H := k a H (Same.refl H) h
theorem NewT.new {K : PySem.W.Frag} {H : Hp} {Q : VK} {xs : List V} (k : NewT K H Q xs) {p : Addr} (hp : H p = none) : Q (.ref p) (upd H p (.tup xs)) := k p _ (same_upd hp) (SqT.of upd_same)
end WR
set_option Elab.async false
set_option linter.all false
set_option maxRecDepth 100000
set_option maxHeartbeats 1000000
namespace WB
open PySem PySem.Spec PyProof PyProof.Rows L2 WR
/-- no dict of its own -/
def Bare (H : Hp) (a : Addr) : Prop := ∃ (o : Obj) (u : HO), H a = some (.frz o u) ∧ o.dict = none
structure SqB (K : PySem.W.Frag) (H : Hp) (a : Addr) (xs : List V) : Prop where
  sq : SqT K H a xs
  bare : Bare H a
instance {K : PySem.W.Frag} {H : Hp} {a : Addr} {xs : List V} : Coe (SqB K H a xs) (SqT K H a xs) := ⟨SqB.sq⟩
theorem SqB.same {K : PySem.W.Frag} {H H' : Hp} {a : Addr} {xs : List V} (s : Same H H') (h : SqB K H a xs) : SqB K H' a xs := by
  obtain ⟨h1, h2⟩ := h
  refine ⟨WR.Same.seqT s h1, ?_⟩
  obtain ⟨o, u, e, d⟩ := h2
  exact ⟨o, u, s _ _ e, d⟩
/-- some such tuple of these values, all else as it stood -/
def NewB (K : PySem.W.Frag) (H : Hp) (Q : VK) (xs : List V) : Prop := ∀ p H', Same H H' → SqB K H' p xs → Q (.ref p) H'
theorem NewB.self {K : PySem.W.Frag} {H : Hp} {Q : VK} {xs : List V} {a : Addr} (k : NewB K H Q xs) (h : SqB K H a xs) : Q (.ref a) H := k a H (Same.refl H) h
theorem NewB.new {K : PySem.W.Frag} {H : Hp} {Q : VK} {xs : List V} (k : NewB K H Q xs) {p : Addr} (hp : H p = none) {o : Obj} (d : o.dict = none) : Q (.ref p) (upd H p (.frz o (.tup xs))) :=
  k p _ (same_upd hp) ⟨.inl (.inr ⟨o, upd_same⟩), ⟨o, _, upd_same, d⟩⟩
section
variable {X : Cx} {pins : List (Addr × Obj)} {σ : L2.St} {H : Hp} {s : Shared} {Q : VK} {xs : List V} {its : List Value}
/-- a new tuple of these -/
theorem born (I : Inv X pins σ H s) {h1 : Heap} (kp : ∀ b o, s.heap.get? b = some o → h1.get? b = some o) (r : Vals xs its) (hz : xs.length ≤ sizeLine) (k : NewB X.K H Q xs) :
    ∃ (v : V) (H2 : Hp), Inv X pins σ H2 { s with heap := h1.push { cls := .type "tuple", data := .seq its.toArray } } ∧ RelV v (.ref h1.objs.size) ∧ Q v H2 := by
  have J : Inv X pins σ H { s with heap := h1 } := I.kept (t' := s.toks) kp
  have hn := J.hok.fresh (Nat.le_refl h1.objs.size)
  have new : (h1.push { cls := .type "tuple", data := .seq its.toArray }).get? h1.objs.size = some { cls := .type "tuple", data := .seq its.toArray } := Heap.get?_push_size _ rfl
  exact ⟨.ref _, _, J.laid (t' := s.toks) (o := .frz { cls := .type "tuple", data := .seq its.toArray } (.tup xs)) (fun _ _ e => Heap.get?_push_of_some _ e) (Nat.le_refl _) ⟨new, hz, its, r, IsTup.new _ _⟩, rfl, k.new hn rfl⟩
theorem call_tupB : CallR X (.type "tuple") (fun xs H Q => ∃ p ys, xs = [.ref p] ∧ ((SqL X.K H p ys ∧ NewB X.K H Q ys) ∨ (SqB X.K H p ys ∧ Q (.ref p) H))) := by
  intro pins s σ H vs us Q I r h
  obtain ⟨p, ys, rfl, h⟩ := h
  obtain ⟨u, rfl, rx⟩ := vals1 r
  cases rx
  rcases h with ⟨hq, q⟩ | ⟨hq, q⟩
  · obtain ⟨its, rv, pl, hz⟩ := I.list hq
    exact call_tuple_list pl.isList (fun h1 kp => born I kp rv hz q) (by rw [List.size_toArray, ← rv.length]; exact hz)
  · obtain ⟨its, rv, pl, _⟩ := I.tuple hq.sq
    exact call_tuple_same pl ⟨.ref p, H, I, rfl, q⟩
/-- a display -/
theorem pe_tupB {es : List Expr} {t : TA} {pos : Pos} {x1} (h : PA X es t) : PE X (.Tuple es x1 pos) (fun σ H Q => t σ H fun xs H1 => xs.length ≤ sizeLine ∧ NewB X.K H1 Q xs) := by
  constructor
  intro pins s σ H Q I hq
  refine wpAny_Tuple_spliced (thn (h.run pos pins s σ H _ I hq) fun us s1 z => ?_)
  obtain ⟨xs, H1, I1, r, z, q⟩ := z
  exact ⟨by rw [← r.length]; exact z, born I1 (fun _ _ e => e) r z q⟩
def rSlB (K : PySem.W.Frag) : V → Option Int → Option Int → Hp → VK → Prop := fun x lo hi H Q => ∃ a xs, x = .ref a ∧ SqB K H a xs ∧ NewB K H Q (cutV xs lo hi)
theorem sl_tupB : SlR X (rSlB X.K) := by
  intro pins s σ H x v vl vu lo hi sl Q I rx hs pl pu h
  obtain ⟨a, xs, rfl, hx, k⟩ := h
  cases rx
  obtain ⟨its, r, ht, hz⟩ := I.tuple hx.sq
  have hlen : its.toArray.size = xs.length := List.size_toArray.trans r.length.symm
  refine ⟨"tuple", _, PyProof.Rows.slot_tuple_getitem.lookup, ht.typeIs, ?_⟩
  by_cases hw : HT.sIx xs.length 0 lo = 0 ∧ HT.sIx xs.length xs.length hi = xs.length
  · have e : cutV xs lo hi = xs := by
      unfold cutV
      rw [hw.1, hw.2, List.drop_zero, Nat.sub_zero, List.take_of_length_le (Nat.le_refl _)]
    rw [e] at k
    exact getItem_tuple_whole ht hs pl pu (hlen.symm ▸ hw) ⟨.ref a, H, I, rfl, k.self hx⟩
  · refine HT.getItem_tuple_cut ht hs pl pu (hlen.symm ▸ hw) ?_ (hlen.symm ▸ hz)
    rw [hlen]
    exact born I (fun _ _ e => e) ((r.drop _).take _) (Nat.le_trans (cutV_length xs lo hi) hz) k
end
end WB
set_option Elab.async false
set_option linter.all false
set_option maxRecDepth 100000
set_option maxHeartbeats 2000000
namespace W13
open PySem L2 PySem.Spec PyProof.Rows WR WB
def top (i : Nat) : Stmt := PySem.Challenge.pw_handlerims_k13_all_sewings_and_their_cen.main.body.getD i (.Pass ⟨0, 0, 0, 0⟩)
abbrev sShr : Stmt := top 13
abbrev sRnd : Stmt := top 14
theorem gen_heap {P : Hp → Prop} {H : Hp} (h : ∀ H3, H3 = H → P H3) : P H := h H rfl
theorem yes_te {σ : L2.St} {H : Hp} {A B : Hp → Prop} (h : A H) : tYes σ H (fun b H3 => if b = true then A H3 else B H3) := by
  show (if (true : Bool) = true then A H else B H)
  exact iteT h
structure Cal (P : Program) (w : World) (K : PySem.W.Frag) (mg : Str → Option Value) (base : Heap) (x : Str) (k : Nat) (ps : List Str) (sp : Sp) : Prop where
  ex : ∃ (f : Addr) (fd : FuncData), FnOk P w K mg base CX0 k f fd ps sp ∧ mg x = some (.ref f) ∧ PySem.W.keepIn K (.ref f) = true ∧ Binds K fd ps []
section
variable {X : Cx} {x : Str} {k j : Nat} {ps : List Str} {sp : Sp} {p pos : Pos} {e : Expr} {es : List Expr} {t : TA}
theorem pe_cal (C : Cal X.prog X.w X.K X.mg X.base x k ps sp) (hr : Room j X.A) (hkj : k ≤ j) (hg : Gl X x) (ha : PA X (e :: es) t) (hdb : (x == ("__debug__" : Str)) = false := by decide)
    (he : starEach (e :: es) X.env = (false, eval e X.env) :: starEach es X.env := by rfl) (hpl : (backTo pos (starEach es X.env)).any (·.1) = false := by rfl) :
    PE X (.Call (.Name x p) (e :: es) [] pos) (tCall sp [] E0 t) := by
  obtain ⟨f, fd, F, hm, hk, hb⟩ := C.ex
  exact pe_call F (hr.mono hkj) hg hm hk hb .nil pass0 ha hdb he hpl
end
theorem lc_in {wi : TI} {g : TG} {tt : TT} {te : TE} {vs : List Nat} {σ : L2.St} {H : Hp} {Q : VK} (h : wi σ H fun J H1 => tLc (fun _ H R => R J H) g tt te vs σ H1 Q) : tLc wi g tt te vs σ H Q := h
theorem lcp {J : It} {xs : List V} {G : Hp → Prop} (w : Walk J xs.length G (YAt xs)) {g : TG} {tt : TT} {te : TE} {vs : List Nat} {σ : L2.St} {H1 : Hp} {Q : VK} (f : V → Bool) (v : V → V) (hz : xs.length < 40000) (hG : ∀ H, Same H1 H → G H)
    (hs : ∀ x, x ∈ xs → ∀ H, Same H1 H → ∀ (Qy : V → Hp → Prop) (Qn : Hp → Prop), (f x = true → ∀ H', Same H H' → Qy (v x) H') → (f x = false → ∀ H', Same H H' → Qn H') →
      g x (wipe σ vs) H fun σ2 H2 => wipe σ2 vs = wipe σ vs ∧ tt σ2 H2 fun b H3 => if b = true then te σ2 H3 Qy else Qn H3)
    (hd : ∀ (D : Addr) H', H1 D = none → Same H1 H' → H' D = some (.lst ((xs.filter f).map v)) → Q (.ref D) H') : tLc (fun _ H R => R J H) g tt te vs σ H1 Q := by
  intro D hD
  refine lc_it w (fun i H => Same H1 H ∧ H D = some (.lst (((xs.take i).filter f).map v))) ⟨fun b o e => by rw [upd_ne (ne_of_none e hD)]; exact e, upd_same⟩ (fun i H _ q => hG H q.1) ?_ ?_
  · rintro i x H H' hi q ⟨rfl, hx⟩
    have hm : x ∈ xs := List.mem_of_getElem? hx
    have et : xs.take (i + 1) = xs.take i ++ [x] := by
      have hx2 : xs[i] = x := (List.getElem?_eq_some_iff.mp hx).2
      rw [List.take_succ_eq_append_getElem hi, hx2]
    refine hs x hm H' q.1 _ _ (fun hf H2 s2 => ⟨_, s2 _ _ q.2, ?_, ?_, ?_⟩) (fun hf H2 s2 => ⟨fun b o e => s2 b o (q.1 b o e), ?_⟩)
    · refine Evl.sz_lt ?_
      rw [List.length_map]
      have := List.length_filter_le f (xs.take i)
      rw [List.length_take] at this
      omega
    · intro b o e
      rw [upd_ne (ne_of_none e hD)]
      exact s2 b o (q.1 b o e)
    · rw [upd_same, et, List.filter_append, List.map_append, List.filter_cons, if_pos hf]
      rfl
    · rw [et, List.filter_append, List.filter_cons, if_neg (by rw [hf]; decide)]
      show H2 D = some (.lst (((xs.take i).filter f ++ []).map v))
      rw [List.append_nil]
      exact s2 _ _ q.2
  · intro H q
    have q2 := q.2
    rw [List.take_length] at q2
    exact hd D H hD q.1 q2
theorem iteT' {c : Bool} {A B : Prop} (hc : c = true) (h : A) : if c = true then A else B := by rw [if_pos hc]; exact h
abbrev iv (ns : List Int) : List V := ns.map V.int
def SqE (K : PySem.W.Frag) (H : Hp) (a : Addr) (xs : List V) : Prop := SqL K H a xs ∨ SqT K H a xs
theorem SqE.same {K : PySem.W.Frag} {H H' : Hp} {a : Addr} {xs : List V} (h : SqE K H a xs) (s : Same H H') : SqE K H' a xs := by
  rcases h with h | h
  · exact .inl (s.seq h)
  · exact .inr (WR.Same.seqT s h)
def SqW (K : PySem.W.Frag) (H : Hp) (a : Addr) (xs : List V) : Prop := SqL K H a xs ∨ SqB K H a xs
theorem SqW.same {K : PySem.W.Frag} {H H' : Hp} {a : Addr} {xs : List V} (h : SqW K H a xs) (s : Same H H') : SqW K H' a xs := by
  rcases h with h | h
  · exact .inl (s.seq h)
  · exact .inr (SqB.same s h)
theorem SqW.e {K : PySem.W.Frag} {H : Hp} {a : Addr} {xs : List V} (h : SqW K H a xs) : SqE K H a xs := h.imp id SqB.sq
def spShr (K : PySem.W.Frag) : Sp := fun vs H Q _ => ∃ (a : Addr) (ns : List Int), vs = [.ref a] ∧ SqE K H a (iv ns) ∧ ns.length ≤ 1000 ∧ NewB K H Q (iv (Fr.shr ns))
def spRnd (K : PySem.W.Frag) : Sp := fun vs H Q _ => ∃ (a : Addr) (ns : List Int), vs = [.ref a] ∧ SqE K H a (iv ns) ∧ ns.length ≤ 1000 ∧ Fr.NZ ns ∧ NewB K H Q (iv (Fr.rnd ns))
structure TxA (mg : Str → Option Value) : Prop where
  tuple : mg "tuple" = none
  len : mg "len" = none
section
variable {P : Program} {w : World} {K : PySem.W.Frag} {mg : Str → Option Value} {base : Heap}
theorem scShr : FnScope ["letters", "left", "letter"] ["letters"] (defScope sShr) := ⟨rfl, rfl, rfl, by decide +kernel, rfl, by decide +kernel, by decide +kernel⟩
theorem act_take {ns : List Int} {i : Nat} {x : Int} (h : ns[i]? = some x) : Fr.act [] (ns.take (i + 1)) = Fr.push (Fr.act [] (ns.take i)) x := by
  have hi : i < ns.length := (List.getElem?_eq_some_iff.mp h).1
  have hx : ns[i] = x := (List.getElem?_eq_some_iff.mp h).2
  rw [List.take_succ_eq_append_getElem hi, hx, Fr.act_snoc]
theorem act_len : ∀ (ns s : List Int), (Fr.act s ns).length ≤ s.length + ns.length
  | [], s => by simp [Fr.act]
  | a :: t, s => by
    rw [Fr.act_cons]
    have h1 := act_len t (Fr.push s a)
    have h2 : (Fr.push s a).length ≤ s.length + 1 := by
      cases s with
      | nil => simp [Fr.push]
      | cons b u =>
        show (if b = -a then u else a :: b :: u).length ≤ _
        split <;> simp <;> omega
    simp only [List.length_cons]
    omega
theorem shr_len (ns : List Int) : (Fr.shr ns).length ≤ ns.length := by
  unfold Fr.shr
  rw [List.length_reverse]
  simpa using act_len ns []
theorem ok_shr {f : Addr} {fd : FuncData} (F : Fun K "shortened_letters" "shortened_letters" sShr f fd) (T : TxA mg) : FnOk P w K mg base CX0 1 f fd ["letters"] (spShr K) := by
  refine F.ok scShr (fun vs H Q E h => ?_) (fun cdv A outer s H vs Q E hr h => ?_)
  · obtain ⟨a, ns, rfl, _⟩ := h
    rfl
  · obtain ⟨a, ns, rfl, hS, hlen, k⟩ := h
    rcases hS with hS | hS
    · refine ⟨_, pss_cons (ps_set (i := 1) scShr.nd rfl (Or.inl rfl) (pe_lst pa_nil))
        (pss_cons (ps_for PassesOwn.never rfl (pi_list (pv 0)) (pg_name (i := 2) scShr.nd rfl (Or.inl rfl))
          (pss_one (ps_if (PW.pt (pw_and (pt_truth (pv 1) (by intro _; rfl)) (pw_and1 (pt_cmpR op_eq (pe_ix ix_list (pv 1) (pe_un un_neg pe_int) (fun _ _ => rfl)) (pe_un un_neg (pv 2)) (nomark _)))))
            (pss_one (ps_expr (pe_bm0 PySem.F.plainAttrs_list PySem.F.slot_list_pop PySem.F.type_list_pop mt_pop (pv 1))))
            (pss_one (ps_expr (pe_bm PySem.F.plainAttrs_list PySem.F.slot_list_append PySem.F.type_list_append mt_append (pv 1) (pa_cons (pv 2) pa_nil)))))))
        (pss_one (ps_ret (pe_callTy call_tupB (by rfl) T.tuple (by decide +kernel) (pa_cons (pv 1) pa_nil))))), ?_⟩
      refine ⟨Nat.zero_le _, fun l hl => ?_⟩
      refine ⟨_, rfl, a, rfl, ⟨_, (by have s := same_upd (o := HO.lst []) hl; exact (s.seq hS))⟩, for_list (K := K) (a := a) (xs := iv ns) (fun i σ H1 => ∃ v, σ = [some (.ref a), some (.ref l), v] ∧ Same H H1 ∧ H1 l = some (.lst (iv (Fr.act [] (ns.take i)).reverse)))
        ⟨none, rfl, same_upd hl, by rw [upd_same]; rfl⟩ (fun i σ H1 _ ⟨_, _, s, _⟩ => (s.seq hS)) ?_ ?_⟩
      · rintro i y σ H1 hi ⟨v, rfl, sm, hL⟩
        obtain ⟨x, hx, rfl⟩ : ∃ x, ns[i]? = some x ∧ y = V.int x := by
          rw [List.getElem?_map] at hi
          cases e : ns[i]? with
          | none => rw [e] at hi; cases hi
          | some x => rw [e] at hi; exact ⟨x, rfl, (Option.some.inj hi).symm⟩
        have hi2 : i < ns.length := (List.getElem?_eq_some_iff.mp hx).1
        have nx := act_take hx
        have hsz : (Fr.act [] (ns.take i)).length ≤ 1000 := by
          have := act_len (ns.take i) []
          rw [List.length_take] at this
          simp at this
          omega
        have put : ∀ xs, Same H (L2.upd H1 l (.lst xs)) := fun xs b o e => by
          rw [upd_ne (ne_of_none e hl)]
          exact sm b o e
        refine ⟨_, rfl, _, .inl ⟨_, SqL.of hL, rfl⟩, ?_⟩
        cases est : Fr.act [] (ns.take i) with
        | nil =>
          rw [est] at hL nx
          refine iteF ?_
          refine iteF ?_
          refine ⟨_, rfl, .inl ⟨rfl, _, SqL.of hL⟩, _, rfl, l, _, _, rfl, rfl, hL, Evl.sz_lt (by simp), ?_⟩
          refine ⟨_, rfl, put _, ?_⟩
          rw [upd_same, nx]
          rfl
        | cons b t =>
          rw [est] at hL nx hsz
          have eL : iv (b :: t).reverse = iv t.reverse ++ [V.int b] := by simp [iv]
          refine iteT' (by simp [iv]) ?_
          refine ⟨_, rfl, _, rfl, l, _, _, _, rfl, rfl, SqL.of hL, (by rw [eL]; exact atI_last _ _), _, rfl, x, rfl, rfl, _, rfl, ?_⟩
          refine ite2 (fun hb => ?_) (fun hb => ?_)
          · have eb : b = -x := by
              have := of_decide_eq_true hb
              injection this
            refine ⟨_, rfl, .inl ⟨rfl, _, SqL.of hL⟩, l, _, V.int b, rfl, rfl, hL, (by rw [eL]; simp), ?_⟩
            refine ⟨_, rfl, put _, ?_⟩
            rw [upd_same, nx]
            have : Fr.push (b :: t) x = t := by simp [Fr.push, eb]
            rw [this, eL, List.dropLast_concat]
          · have eb : ¬ b = -x := fun e => hb (decide_eq_true (by rw [e]))
            refine ⟨_, rfl, .inl ⟨rfl, _, SqL.of hL⟩, _, rfl, l, _, _, rfl, rfl, hL, Evl.sz_lt (by simp [iv] at hsz ⊢; omega), ?_⟩
            refine ⟨_, rfl, put _, ?_⟩
            rw [upd_same, nx]
            have : Fr.push (b :: t) x = x :: b :: t := by simp [Fr.push, eb]
            rw [this]
            simp [iv]
      · rintro σ H1 ⟨v, rfl, sm, hL⟩
        rw [List.take_of_length_le (by simp)] at hL
        exact ⟨_, rfl, l, _, rfl, .inl ⟨SqL.of hL, fun p H3 s3 b3 => k p H3 (sm.trans s3) b3⟩⟩
    · refine ⟨_, pss_cons (ps_set (i := 1) scShr.nd rfl (Or.inl rfl) (pe_lst pa_nil))
        (pss_cons (ps_for PassesOwn.never rfl (pi_tup (pv 0)) (pg_name (i := 2) scShr.nd rfl (Or.inl rfl))
          (pss_one (ps_if (PW.pt (pw_and (pt_truth (pv 1) (by intro _; rfl)) (pw_and1 (pt_cmpR op_eq (pe_ix ix_list (pv 1) (pe_un un_neg pe_int) (fun _ _ => rfl)) (pe_un un_neg (pv 2)) (nomark _)))))
            (pss_one (ps_expr (pe_bm0 PySem.F.plainAttrs_list PySem.F.slot_list_pop PySem.F.type_list_pop mt_pop (pv 1))))
            (pss_one (ps_expr (pe_bm PySem.F.plainAttrs_list PySem.F.slot_list_append PySem.F.type_list_append mt_append (pv 1) (pa_cons (pv 2) pa_nil)))))))
        (pss_one (ps_ret (pe_callTy call_tupB (by rfl) T.tuple (by decide +kernel) (pa_cons (pv 1) pa_nil))))), ?_⟩
      refine ⟨Nat.zero_le _, fun l hl => ?_⟩
      refine ⟨_, rfl, a, rfl, ⟨_, (by have s := same_upd (o := HO.lst []) hl; exact (WR.Same.seqT s hS))⟩, for_tup (K := K) (a := a) (xs := iv ns) (fun i σ H1 => ∃ v, σ = [some (.ref a), some (.ref l), v] ∧ Same H H1 ∧ H1 l = some (.lst (iv (Fr.act [] (ns.take i)).reverse)))
        ⟨none, rfl, same_upd hl, by rw [upd_same]; rfl⟩ (fun i σ H1 _ ⟨_, _, s, _⟩ => (WR.Same.seqT s hS)) ?_ ?_⟩
      · rintro i y σ H1 hi ⟨v, rfl, sm, hL⟩
        obtain ⟨x, hx, rfl⟩ : ∃ x, ns[i]? = some x ∧ y = V.int x := by
          rw [List.getElem?_map] at hi
          cases e : ns[i]? with
          | none => rw [e] at hi; cases hi
          | some x => rw [e] at hi; exact ⟨x, rfl, (Option.some.inj hi).symm⟩
        have hi2 : i < ns.length := (List.getElem?_eq_some_iff.mp hx).1
        have nx := act_take hx
        have hsz : (Fr.act [] (ns.take i)).length ≤ 1000 := by
          have := act_len (ns.take i) []
          rw [List.length_take] at this
          simp at this
          omega
        have put : ∀ xs, Same H (L2.upd H1 l (.lst xs)) := fun xs b o e => by
          rw [upd_ne (ne_of_none e hl)]
          exact sm b o e
        refine ⟨_, rfl, _, .inl ⟨_, SqL.of hL, rfl⟩, ?_⟩
        cases est : Fr.act [] (ns.take i) with
        | nil =>
          rw [est] at hL nx
          refine iteF ?_
          refine iteF ?_
          refine ⟨_, rfl, .inl ⟨rfl, _, SqL.of hL⟩, _, rfl, l, _, _, rfl, rfl, hL, Evl.sz_lt (by simp), ?_⟩
          refine ⟨_, rfl, put _, ?_⟩
          rw [upd_same, nx]
          rfl
        | cons b t =>
          rw [est] at hL nx hsz
          have eL : iv (b :: t).reverse = iv t.reverse ++ [V.int b] := by simp [iv]
          refine iteT' (by simp [iv]) ?_
          refine ⟨_, rfl, _, rfl, l, _, _, _, rfl, rfl, SqL.of hL, (by rw [eL]; exact atI_last _ _), _, rfl, x, rfl, rfl, _, rfl, ?_⟩
          refine ite2 (fun hb => ?_) (fun hb => ?_)
          · have eb : b = -x := by
              have := of_decide_eq_true hb
              injection this
            refine ⟨_, rfl, .inl ⟨rfl, _, SqL.of hL⟩, l, _, V.int b, rfl, rfl, hL, (by rw [eL]; simp), ?_⟩
            refine ⟨_, rfl, put _, ?_⟩
            rw [upd_same, nx]
            have : Fr.push (b :: t) x = t := by simp [Fr.push, eb]
            rw [this, eL, List.dropLast_concat]
          · have eb : ¬ b = -x := fun e => hb (decide_eq_true (by rw [e]))
            refine ⟨_, rfl, .inl ⟨rfl, _, SqL.of hL⟩, _, rfl, l, _, _, rfl, rfl, hL, Evl.sz_lt (by simp [iv] at hsz ⊢; omega), ?_⟩
            refine ⟨_, rfl, put _, ?_⟩
            rw [upd_same, nx]
            have : Fr.push (b :: t) x = x :: b :: t := by simp [Fr.push, eb]
            rw [this]
            simp [iv]
      · rintro σ H1 ⟨v, rfl, sm, hL⟩
        rw [List.take_of_length_le (by simp)] at hL
        exact ⟨_, rfl, l, _, rfl, .inl ⟨SqL.of hL, fun p H3 s3 b3 => k p H3 (sm.trans s3) b3⟩⟩
end
end W13
set_option Elab.async false
set_option linter.all false
set_option maxRecDepth 100000
set_option maxHeartbeats 2000000
namespace W13
open PySem L2 PySem.Spec PyProof.Rows WR WB
section
variable {P : Program} {w : World} {K : PySem.W.Frag} {mg : Str → Option Value} {base : Heap}
theorem iteF' {c : Bool} {A B : Prop} (hc : c = false) (h : B) : if c = true then A else B := by rw [if_neg (by rw [hc]; exact Bool.false_ne_true)]; exact h
theorem iv_get {ns : List Int} {i : Nat} {x : Int} (h : ns[i]? = some x) : (iv ns)[i]? = some (V.int x) := by
  rw [List.getElem?_map, h]
  rfl
theorem con_get {u : List Int} {j : Nat} (h : j < u.length) : (Fr.con u)[u.length - 1 - j]? = some (-u[j]) := by
  unfold Fr.con
  rw [List.getElem?_map, List.getElem?_reverse (by omega)]
  have e : u.length - 1 - (u.length - 1 - j) = j := by omega
  rw [e, List.getElem?_eq_getElem h]
  rfl
theorem whole_len (u w : List Int) : (u ++ w ++ Fr.con u).length = 2 * u.length + w.length := by
  rw [List.length_append, List.length_append, Fr.con_length]
  omega
theorem whole_lo {u w : List Int} {j : Nat} (h : j < u.length) : (u ++ w ++ Fr.con u)[j]? = some u[j] := by
  rw [List.append_assoc, List.getElem?_append_left h, List.getElem?_eq_getElem h]
theorem whole_hi {u w : List Int} {j : Nat} (h : j < u.length) : (u ++ w ++ Fr.con u)[2 * u.length + w.length - 1 - j]? = some (-u[j]) := by
  rw [List.getElem?_append_right (by rw [List.length_append]; omega), List.length_append]
  have e : 2 * u.length + w.length - 1 - j - (u.length + w.length) = u.length - 1 - j := by omega
  rw [e, con_get h]
theorem mid_lo {u w : List Int} (hw : w ≠ []) : (u ++ w ++ Fr.con u)[u.length]? = w.head? := by
  have : 0 < w.length := List.length_pos_iff.mpr hw
  rw [List.append_assoc, List.getElem?_append_right (Nat.le_refl _), Nat.sub_self, List.getElem?_append_left this, List.head?_eq_getElem?]
theorem mid_hi {u w : List Int} (hw : w ≠ []) : (u ++ w ++ Fr.con u)[2 * u.length + w.length - 1 - u.length]? = w.getLast? := by
  have : 0 < w.length := List.length_pos_iff.mpr hw
  rw [List.append_assoc, List.getElem?_append_right (by omega)]
  have e : 2 * u.length + w.length - 1 - u.length - u.length = w.length - 1 := by omega
  rw [e, List.getElem?_append_left (by omega), List.getLast?_eq_getElem?]
theorem whole_cut (u w : List Int) : ((u ++ w ++ Fr.con u).drop u.length).take w.length = w := by
  rw [List.append_assoc, List.drop_left, List.take_left]
theorem scRnd : FnScope ["letters", "left", "skipped"] ["letters"] (defScope sRnd) := ⟨rfl, rfl, rfl, by decide +kernel, rfl, by decide +kernel, by decide +kernel⟩
theorem cut_nat {xs : List V} {i j : Nat} (hi : i ≤ xs.length) (hj : j ≤ xs.length) : cutV xs (some (i : Int)) (some (j : Int)) = (xs.drop i).take (j - i) := by
  unfold cutV
  rw [HT.sIx_nat, HT.sIx_nat, Nat.min_eq_left hi, Nat.min_eq_left hj]
theorem ok_rnd {f : Addr} {fd : FuncData} (F : Fun K "rounded_letters" "rounded_letters" sRnd f fd) (GS : Cal P w K mg base "shortened_letters" 1 ["letters"] (spShr K)) (T : TxA mg) : FnOk P w K mg base CX0 2 f fd ["letters"] (spRnd K) := by
  refine F.ok scRnd (fun vs H Q E h => ?_) (fun cdv A outer s H vs Q E hr h => ?_)
  · obtain ⟨a, ns, rfl, _⟩ := h
    rfl
  · obtain ⟨a, ns, rfl, hS, hlen, nz, k⟩ := h
    refine ⟨_, pss_cons (ps_set (i := 1) scRnd.nd rfl (Or.inl rfl) (pe_cal GS hr (by decide) (by rfl) (pa_cons (pv 0) pa_nil)))
      (pss_cons (ps_set (i := 2) scRnd.nd rfl (Or.inl rfl) pe_int)
      (pss_cons (ps_while PassesOwn.never (PW.pt (pw_and (pt_cmpR op_lt (pe_op op_mul pe_int (pv 2)) (pe_callB call_len_seq (by rfl) T.len PySem.boot_len (pa_cons (pv 1) pa_nil)) (nomark _))
          (pw_and1 (pt_cmpR op_eq (pe_ix ix_tup (pv 1) (pv 2) (fun _ _ => rfl)) (pe_un un_neg (pe_ix ix_tup (pv 1) (pe_op op_sub (pe_op op_sub (pe_callB call_len_seq (by rfl) T.len PySem.boot_len (pa_cons (pv 1) pa_nil)) pe_int) (pv 2)) (fun _ _ => rfl))) (nomark _)))))
        (pss_one (ps_aug (i := 2) scRnd.nd rfl (Or.inl rfl) pe_int ip_add)))
      (pss_one (ps_ret (pe_slice sl_tupB (pv 1) (po_some (pv 2)) (po_some (pe_op op_sub (pe_callB call_len_seq (by rfl) T.len PySem.boot_len (pa_cons (pv 1) pa_nil)) (pv 2)))))))), ?_⟩
    refine ⟨_, rfl, a, ns, rfl, hS, hlen, fun p H1 sm hPB => ?_⟩
    obtain ⟨u, m, e, c, z⟩ := Fr.parted (Fr.shr ns) nz.shr (Fr.rd_shr ns)
    have er : Fr.rnd ns = m := by
      unfold Fr.rnd
      rw [e, Fr.ends_eq c z]
    rw [er] at k
    have hl := shr_len ns
    rw [e] at hPB hl
    have hP := hPB.sq
    rw [whole_len] at hl
    have L : (iv (u ++ m ++ Fr.con u)).length = 2 * u.length + m.length := by rw [List.length_map, whole_len]
    refine ⟨fun n σ H' => ∃ j, n = u.length - j ∧ j ≤ u.length ∧ σ = [some (.ref a), some (.ref p), some (.int ((j : Nat) : Int))] ∧ H' = H1, ⟨_, 0, rfl, Nat.zero_le _, rfl, rfl⟩, ?_⟩
    rintro n σ H' ⟨j, rfl, hj, rfl, rfl⟩
    refine ⟨_, rfl, _, _, rfl, rfl, .inl ⟨by decide, by decide⟩, _, rfl, p, _, rfl, .inr hP, _, _, rfl, rfl, _, rfl, ?_⟩
    have hback : ((iv (u ++ m ++ Fr.con u)).length : Int) - 1 - (j : Int) = ((2 * u.length + m.length - 1 - j : Nat) : Int) ∨ 2 * u.length + m.length = 0 := by
      rw [L]
      by_cases h0 : 2 * u.length + m.length = 0
      · exact .inr h0
      · left; omega
    by_cases hlt : j < u.length
    · refine iteT' (decide_eq_true (by rw [L]; omega)) ?_
      have hb := hback.resolve_right (by omega)
      refine ⟨_, rfl, _, rfl, p, _, _, _, rfl, rfl, hP, atI_nat (iv_get (whole_lo hlt)), ?_⟩
      refine ⟨_, rfl, _, rfl, p, _, rfl, .inr hP, _, _, rfl, rfl, _, rfl, _, _, rfl, rfl, p, _, _, _, rfl, rfl, hP, (by rw [hb]; exact atI_nat (iv_get (whole_hi hlt))), _, rfl, rfl, _, rfl, ?_⟩
      refine iteT' (decide_eq_true (by show V.int _ = V.int (- -_); rw [Int.neg_neg])) ?_
      refine ⟨fun σ' H'' => ∃ j', u.length - (j + 1) = u.length - j' ∧ j' ≤ u.length ∧ σ' = [some (.ref a), some (.ref p), some (.int ((j' : Nat) : Int))] ∧ H'' = H', fun σ' H'' ⟨j', q1, q2, q3, q4⟩ => ⟨_, by omega, j', q1, q2, q3, q4⟩, ?_⟩
      refine ⟨_, rfl, _, _, rfl, rfl, ?_⟩
      exact ⟨j + 1, rfl, hlt, by rfl, rfl⟩
    · have hj2 : j = u.length := by omega
      subst hj2
      have fin : NewB K H' Q (cutV (iv (u ++ m ++ Fr.con u)) (some ((u.length : Nat) : Int)) (some (((iv (u ++ m ++ Fr.con u)).length : Int) - ((u.length : Nat) : Int)))) := by
        have e1 : ((iv (u ++ m ++ Fr.con u)).length : Int) - ((u.length : Nat) : Int) = ((u.length + m.length : Nat) : Int) := by rw [L]; omega
        rw [e1, cut_nat (by rw [L]; omega) (by rw [L]; omega)]
        have e2 : u.length + m.length - u.length = m.length := by omega
        rw [e2]
        have e3 : ((iv (u ++ m ++ Fr.con u)).drop u.length).take m.length = iv m := by
          rw [← List.map_drop, ← List.map_take, whole_cut]
        rw [e3]
        exact fun q H2 s2 h2 => k q H2 (sm.trans s2) h2
      by_cases hm : m = []
      · have hu := z hm
        refine iteF' (decide_eq_false (by rw [L, hm, hu]; simp)) ?_
        refine iteF ?_
        exact ⟨_, rfl, _, rfl, _, rfl, _, rfl, p, _, rfl, .inr hP, _, rfl, _, _, rfl, rfl, _, rfl, p, _, rfl, hPB, fin⟩
      · refine iteT' (decide_eq_true (by have := List.length_pos_iff.mpr hm; rw [L]; omega)) ?_
        have hb := hback.resolve_right (by have := List.length_pos_iff.mpr hm; omega)
        obtain ⟨x, hx⟩ : ∃ x, m.head? = some x := by
          cases m with
          | nil => exact absurd rfl hm
          | cons x t => exact ⟨x, rfl⟩
        obtain ⟨y, hy⟩ : ∃ y, m.getLast? = some y := ⟨_, List.getLast?_eq_some_getLast hm⟩
        have lo := (mid_lo (u := u) hm).trans hx
        have hi := (mid_hi (u := u) hm).trans hy
        refine ⟨_, rfl, _, rfl, p, _, _, _, rfl, rfl, hP, atI_nat (iv_get lo), ?_⟩
        refine ⟨_, rfl, _, rfl, p, _, rfl, .inr hP, _, _, rfl, rfl, _, rfl, _, _, rfl, rfl, p, _, _, _, rfl, rfl, hP, (by rw [hb]; exact atI_nat (iv_get hi)), _, rfl, rfl, _, rfl, ?_⟩
        refine iteF' (decide_eq_false fun q => ?_) ?_
        · have q2 : V.int x = V.int (-y) := q
          injection q2 with q3
          exact c.2 x y hx hy q3
        exact ⟨_, rfl, _, rfl, _, rfl, _, rfl, p, _, rfl, .inr hP, _, rfl, _, _, rfl, rfl, _, rfl, p, _, rfl, hPB, fin⟩
end
end W13
set_option Elab.async false
set_option linter.all false
set_option maxRecDepth 100000
set_option maxHeartbeats 2000000
namespace W13
open PySem L2 PySem.Spec PyProof.Rows WR WS WR WB
abbrev sKinds : Stmt := top 15
theorem pigeon : ∀ (m : Nat) (L : List Int), L.Nodup → (∀ k ∈ L, 1 ≤ k ∧ k ≤ (m : Int)) → L.length ≤ m
  | 0, L, _, h => by
    cases L with
    | nil => simp
    | cons a t =>
      have := h a (by simp)
      omega
  | m + 1, L, nd, h => by
    by_cases hm : ((m + 1 : Nat) : Int) ∈ L
    · have ih := pigeon m (L.erase ((m + 1 : Nat) : Int)) (nd.erase _) fun k hk => by
        have h1 := (nd.mem_erase_iff).mp hk
        have h2 := h k h1.2
        have h3 := h1.1
        omega
      rw [List.length_erase_of_mem hm] at ih
      omega
    · have ih := pigeon m L nd fun k hk => by
        have h2 := h k hk
        have : k ≠ ((m + 1 : Nat) : Int) := fun e => hm (e ▸ hk)
        omega
      omega
theorem sci {w : World} {J : It} {xs : List V} {G : Hp → Prop} (wk : Walk J xs.length G (YAt xs)) {g : TG} {tt : TT} {te : TE} {vs : List Nat} {σ : L2.St} {H1 : Hp} {Q : VK} (v : V → Int)
    (hv : ∀ x ∈ xs, 1 ≤ v x ∧ v x ≤ 26) (hG : ∀ H, Same H1 H → G H)
    (hs : ∀ x, x ∈ xs → ∀ H, Same H1 H → ∀ (Qy : V → Hp → Prop) (Qn : Hp → Prop), Qy (.int (v x)) H →
      g x (wipe σ vs) H fun σ2 H2 => wipe σ2 vs = wipe σ vs ∧ tt σ2 H2 fun b H3 => if b = true then te σ2 H3 Qy else Qn H3)
    (hd : ∀ (D : Addr) (S : Int → Bool) (n : Nat) H', H1 D = none → Same H1 H' → H' D = some (SetO w D S n) → n ≤ 26 → (∀ k, S k = true ↔ ∃ x ∈ xs, k = v x) → Q (.ref D) H') : tSetI w (fun _ H R => R J H) g tt te vs σ H1 Q := by
  intro D hD
  refine ⟨fun i m H => m = xs.length - i ∧ i ≤ xs.length ∧ Same H1 H ∧ ∃ (S : Int → Bool) (L : List Int), H D = some (SetO w D S L.length) ∧ L.Nodup ∧ (∀ k, S k = true ↔ k ∈ L) ∧ ∀ k, k ∈ L ↔ ∃ x ∈ xs.take i, k = v x, ?_, ?_⟩
  · refine ⟨_, rfl, Nat.zero_le _, same_upd hD, fun _ => false, [], by rw [upd_same]; rfl, List.nodup_nil, fun k => by simp, fun k => by simp⟩
  · rintro i m H ⟨rfl, hi, sm, S, L, hS, nd, hL, hm⟩
    have bound : L.length ≤ 26 := pigeon 26 L nd fun k hk => by
      obtain ⟨x, hx, e⟩ := (hm k).mp hk
      have := hv x (List.mem_of_mem_take hx)
      omega
    by_cases hlt : i < xs.length
    · right
      refine ⟨wk.goes i H hlt (hG H sm), fun H' => Same H1 H' ∧ ∃ (S : Int → Bool) (L : List Int), H' D = some (SetO w D S L.length) ∧ L.Nodup ∧ (∀ k, S k = true ↔ k ∈ L) ∧ ∀ k, k ∈ L ↔ ∃ x ∈ xs.take (i + 1), k = v x, ?_, ?_⟩
      · rintro H' ⟨s2, q⟩
        exact ⟨xs.length - (i + 1), by omega, rfl, hlt, s2, q⟩
      · intro x H' hy
        obtain ⟨rfl, hx⟩ := wk.yields i H x H' hlt (hG H sm) hy
        have hmem : x ∈ xs := List.mem_of_getElem? hx
        have et : xs.take (i + 1) = xs.take i ++ [x] := by
          have hx2 : xs[i] = x := (List.getElem?_eq_some_iff.mp hx).2
          rw [List.take_succ_eq_append_getElem hlt, hx2]
        refine hs x hmem H' sm _ _ ?_
        refine ⟨D, v x, S, L.length, rfl, rfl, hS, ?_, ?_⟩
        · have : scanBound = 40000 ∨ 64 < scanBound := by right; decide
          have h64 : 64 < scanBound := by decide
          omega
        refine ⟨fun b o e => by rw [upd_ne (ne_of_none e hD)]; exact sm b o e, fun j => S j || decide (j = v x), if S (v x) = true then L else v x :: L, ?_, ?_, ?_, ?_⟩
        · rw [upd_same]
          by_cases c : S (v x) = true
          · rw [if_pos c, if_pos c]
          · rw [if_neg c, if_neg c]; rfl
        · by_cases c : S (v x) = true
          · rw [if_pos c]; exact nd
          · rw [if_neg c]
            exact List.nodup_cons.mpr ⟨fun h => c ((hL _).mpr h), nd⟩
        · intro k
          rw [Bool.or_eq_true, decide_eq_true_eq]
          by_cases c : S (v x) = true
          · rw [if_pos c, ← hL]
            constructor
            · rintro (h | rfl)
              · exact h
              · exact c
            · exact .inl
          · rw [if_neg c, List.mem_cons, ← hL]
            exact or_comm
        · intro k
          have e : (k ∈ if S (v x) = true then L else v x :: L) ↔ (k = v x ∨ k ∈ L) := by
            by_cases c : S (v x) = true
            · rw [if_pos c]
              constructor
              · exact .inr
              · rintro (rfl | h)
                · exact (hL _).mp c
                · exact h
            · rw [if_neg c, List.mem_cons]
          rw [e, hm, et]
          constructor
          · rintro (rfl | ⟨y, hy, rfl⟩)
            · exact ⟨x, by simp, rfl⟩
            · exact ⟨y, by simp [hy], rfl⟩
          · rintro ⟨y, hy, rfl⟩
            rw [List.mem_append, List.mem_singleton] at hy
            rcases hy with hy | rfl
            · exact .inr ⟨y, hy, rfl⟩
            · exact .inl rfl
    · left
      have hi2 : i = xs.length := by omega
      subst hi2
      rw [List.take_length] at hm
      exact ⟨wk.stops H (hG H sm), hd D S L.length H hD sm hS bound fun k => (hL k).trans (hm k)⟩
def kindsOk (ns ks : List Int) : Prop := ks.Pairwise (· < ·) ∧ ∀ k : Int, k ∈ ks ↔ ∃ x ∈ ns, k = (x.natAbs : Int)
/-- every letter of a kind from 1 to 26 -/
def Lts (ns : List Int) : Prop := ∀ x ∈ ns, 1 ≤ x.natAbs ∧ x.natAbs ≤ 26
def spKinds (K : PySem.W.Frag) : Sp := fun vs H Q _ => ∃ (a : Addr) (ns : List Int), vs = [.ref a] ∧ SqE K H a (iv ns) ∧ ns.length ≤ 1000 ∧ Lts ns ∧ ∀ ks, kindsOk ns ks → NewT K H Q (iv ks)
structure TxB (mg : Str → Option Value) : Prop where
  sorted : mg "sorted" = none
  abs : mg "abs" = none
section
variable {P : Program} {w : World} {K : PySem.W.Frag} {mg : Str → Option Value} {base : Heap}
theorem scKinds : FnScope ["letters", "letter"] ["letters"] (defScope sKinds) := ⟨rfl, rfl, rfl, by decide +kernel, rfl, by decide +kernel, by decide +kernel⟩
theorem ok_kinds {f : Addr} {fd : FuncData} (F : Fun K "kinds_of" "kinds_of" sKinds f fd) (T : TxA mg) (T2 : TxB mg) : FnOk P w K mg base CX0 1 f fd ["letters"] (spKinds K) := by
  refine F.ok scKinds (fun vs H Q E h => ?_) (fun cdv A outer s H vs Q E hr h => ?_)
  · obtain ⟨a, ns, rfl, _⟩ := h
    rfl
  · obtain ⟨a, ns, rfl, hS, hlen, hk, k⟩ := h
    have fin : ∀ (D : Addr) (S : Int → Bool) (n : Nat) H', H D = none → Same H H' → H' D = some (SetO w D S n) → n ≤ 26 → (∀ k, S k = true ↔ ∃ x ∈ iv ns, k = (match x with | .int i => (i.natAbs : Int) | _ => 0)) →
        rSortedSet w [.ref D] H' fun x H2 => ∃ p ys, [x] = [V.ref p] ∧ ((SqL K H2 p ys ∧ ∀ l, H2 l = none → Q (.ref l) (L2.upd H2 l (.tup ys))) ∨ (SqT K H2 p ys ∧ Q (.ref p) H2)) := by
      intro D S n H' hD sm hS hn hm
      refine ⟨D, S, n, rfl, hS, by omega, fun ks p up mem _ hp => ?_⟩
      refine ⟨p, _, rfl, .inl ⟨SqL.of upd_same, fun l hl => ?_⟩⟩
      refine k ks ⟨up, fun j => ?_⟩ l _ ((sm.trans (same_upd hp)).trans (same_upd hl)) (SqT.of upd_same)
      rw [mem, hm]
      constructor
      · rintro ⟨x, hx, e⟩
        obtain ⟨i, hi, rfl⟩ := List.mem_map.mp hx
        exact ⟨i, hi, e⟩
      · rintro ⟨i, hi, e⟩
        exact ⟨_, List.mem_map_of_mem hi, e⟩
    have turn : ∀ x, x ∈ iv ns → ∀ H2, Same H H2 → ∀ (Qy : V → Hp → Prop) (Qn : Hp → Prop), Qy (.int (match x with | .int i => (i.natAbs : Int) | _ => 0)) H2 →
        gName 1 x (wipe [some (.ref a), none] [1]) H2 fun σ2 H2 => wipe σ2 [1] = wipe [some (.ref a), none] [1] ∧ tYes σ2 H2 fun b H3 => if b = true then tCB (fun xs H Q => ∃ i, xs = [.int i] ∧ Q (.int (if i < 0 then -i else i)) H) (tCons (tVar 1) tNil) σ2 H3 Qy else Qn H3 := by
      intro x hx H2 s2 Qy Qn ky
      obtain ⟨i, hi, rfl⟩ := List.mem_map.mp hx
      refine ⟨rfl, yes_te ⟨_, rfl, i, rfl, ?_⟩⟩
      have e : (if i < 0 then -i else i) = (i.natAbs : Int) := by split <;> omega
      rw [e]
      exact ky
    have bd : ∀ x ∈ iv ns, 1 ≤ (match x with | .int i => (i.natAbs : Int) | _ => 0) ∧ (match x with | .int i => (i.natAbs : Int) | _ => 0) ≤ 26 := by
      intro x hx
      obtain ⟨i, hi, rfl⟩ := List.mem_map.mp hx
      have := hk i hi
      show 1 ≤ (i.natAbs : Int) ∧ (i.natAbs : Int) ≤ 26
      omega
    rcases hS with hS | hS
    · refine ⟨_, pss_one (ps_ret (pe_callTy call_tuple_of (by rfl) T.tuple (by decide +kernel) (pa_cons (pe_callB (cr_sortedSet rfl) (by rfl) T2.sorted (by decide +kernel) (pa_cons (pe_setI (own := [("letter", 1)]) (g := gName 1) (tt := tYes) rfl scKinds.nd (pi_list (pv 0))
        (blkOk_by (N := ["letters", "letter"]) (sc := defScope sKinds) (by decide +kernel)) (fun _ _ _ _ _ => pg_name (i := 1) scKinds.nd rfl (Or.inl rfl)) (fun _ _ _ _ _ => pts_nil)
        (fun _ _ _ _ _ => pe_callB call_abs (by rfl) T2.abs (by decide +kernel) (pa_cons (pv 1) pa_nil))) pa_nil)) pa_nil))), ?_⟩
      refine ⟨_, rfl, a, rfl, ⟨_, hS⟩, ?_⟩
      exact sci (walk_list (xs := iv ns)) _ bd (fun H2 s2 => s2.seq hS) turn fin
    · refine ⟨_, pss_one (ps_ret (pe_callTy call_tuple_of (by rfl) T.tuple (by decide +kernel) (pa_cons (pe_callB (cr_sortedSet rfl) (by rfl) T2.sorted (by decide +kernel) (pa_cons (pe_setI (own := [("letter", 1)]) (g := gName 1) (tt := tYes) rfl scKinds.nd (pi_tup (pv 0))
        (blkOk_by (N := ["letters", "letter"]) (sc := defScope sKinds) (by decide +kernel)) (fun _ _ _ _ _ => pg_name (i := 1) scKinds.nd rfl (Or.inl rfl)) (fun _ _ _ _ _ => pts_nil)
        (fun _ _ _ _ _ => pe_callB call_abs (by rfl) T2.abs (by decide +kernel) (pa_cons (pv 1) pa_nil))) pa_nil)) pa_nil))), ?_⟩
      refine ⟨_, rfl, a, rfl, ⟨_, hS⟩, ?_⟩
      exact sci (walk_tup (xs := iv ns)) _ bd (fun H2 s2 => WR.Same.seqT s2 hS) turn fin
end
end W13
set_option Elab.async false
set_option linter.all false
set_option maxRecDepth 100000
set_option maxHeartbeats 2000000
namespace W13
open PySem L2 PySem.Spec PyProof.Rows WR WB
abbrev sIsInt : Stmt := top 20
abbrev sWithin : Stmt := top 21
abbrev sLetter : Stmt := top 22
abbrev sListed : Stmt := top 23
abbrev sFew : Stmt := top 39
inductive Typ (H : Hp) : V → String → Prop
  | int (i : Int) : Typ H (.int i) "int"
  | bl (b : Bool) : Typ H (.bl b) "bool"
  | str (z : Str) : Typ H (.str z) "str"
  | non : Typ H .non "NoneType"
  | lst {p : Addr} {xs : List V} (e : H p = some (.lst xs)) : Typ H (.ref p) "list"
  | tup {p : Addr} {xs : List V} (e : H p = some (.tup xs)) : Typ H (.ref p) "tuple"
  | dct {p : Addr} {kvs : List (Key × V)} (e : H p = some (.dK kvs)) : Typ H (.ref p) "dict"
def isI : V → Bool
  | .int _ => true
  | _ => false
def isB : V → Bool
  | .bl _ => true
  | _ => false
theorem Typ.same {H H' : Hp} {x : V} {t : String} (h : Typ H x t) (s : Same H H') : Typ H' x t := by
  cases h with
  | int i => exact .int i
  | bl b => exact .bl b
  | str z => exact .str z
  | non => exact .non
  | lst e => exact .lst (s _ _ e)
  | tup e => exact .tup (s _ _ e)
  | dct e => exact .dct (s _ _ e)
theorem Typ.ty {K : PySem.W.Frag} {H : Hp} {x : V} {t : String} (h : Typ H x t) : TyX K H x (.type t) := by
  cases h with
  | int i => exact .base (.int i)
  | bl b => exact .base (.bl b)
  | str z => exact .base (.str z)
  | non => exact .base .non
  | lst e => exact .base (.lst e)
  | tup e => exact .base (.tup e)
  | dct e => exact .base (.dK e)
theorem Typ.kInt {K : PySem.W.Frag} {H : Hp} {x : V} {t : String} (h : Typ H x t) : PySem.W.kitOne K (.type t) (.type "int") = some (isI x || isB x) := by
  cases h <;> first | exact kit_ty (show kitB _ _ = some true by decide +kernel) | exact kit_ty (show kitB _ _ = some false by decide +kernel)
theorem Typ.kBool {K : PySem.W.Frag} {H : Hp} {x : V} {t : String} (h : Typ H x t) : PySem.W.kitOne K (.type t) (.type "bool") = some (isB x) := by
  cases h <;> first | exact kit_ty (show kitB _ _ = some true by decide +kernel) | exact kit_ty (show kitB _ _ = some false by decide +kernel)
theorem Typ.kTup {K : PySem.W.Frag} {H : Hp} {x : V} {t : String} (h : Typ H x t) : PySem.W.kitOne K (.type t) (.type "tuple") = some (t == "tuple") := by
  cases h <;> first | exact kit_ty (show kitB _ _ = some true by decide +kernel) | exact kit_ty (show kitB _ _ = some false by decide +kernel)
theorem Typ.kList {K : PySem.W.Frag} {H : Hp} {x : V} {t : String} (h : Typ H x t) : PySem.W.kitOne K (.type t) (.type "list") = some (t == "list") := by
  cases h <;> first | exact kit_ty (show kitB _ _ = some true by decide +kernel) | exact kit_ty (show kitB _ _ = some false by decide +kernel)
theorem Typ.kSeq {K : PySem.W.Frag} {H : Hp} {x : V} {t : String} (h : Typ H x t) : PySem.W.kitAny K (.type t) [.type "list", .type "tuple"] = some (t == "list" || t == "tuple") := by
  refine kitAny_cons h.kList (fun e => ?_) (fun e => by rw [e]; rfl)
  refine kitAny_cons h.kTup (fun e2 => ?_) (fun e2 => by rw [e2]; simp)
  rw [kitAny_nil, e, e2]
  rfl
def spIsInt : Sp := fun vs H Q _ => ∃ (x : V) (t : String), vs = [x] ∧ Typ H x t ∧ Q (.bl (isI x)) H
structure TxI (mg : Str → Option Value) : Prop where
  isin : mg "isinstance" = none
  int : mg "int" = none
  bool : mg "bool" = none
  str : mg "str" = none
  list : mg "list" = none
  tuple : mg "tuple" = none
section
variable {P : Program} {w : World} {K : PySem.W.Frag} {mg : Str → Option Value} {base : Heap}
theorem scIsInt : FnScope ["value"] ["value"] (defScope sIsInt) := ⟨rfl, rfl, rfl, by decide +kernel, rfl, by decide +kernel, by decide +kernel⟩
theorem ok_isInt {f : Addr} {fd : FuncData} (F : Fun K "is_integer" "is_integer" sIsInt f fd) (T : TxI mg) : FnOk P w K mg base CX0 1 f fd ["value"] spIsInt := by
  refine F.ok scIsInt (fun vs H Q E h => ?_) (fun cdv A outer s H vs Q E hr h => ?_)
  · obtain ⟨x, t, rfl, _⟩ := h
    rfl
  · obtain ⟨x, t, rfl, ht, k⟩ := h
    refine ⟨_, pss_one (ps_ret (pe_and (pe_callB call_isi (by rfl) T.isin (by decide +kernel) (pa_cons (pv 0) (pa_cons (pe_bltn (v := .ty "int") (by rfl) T.int (by decide +kernel) rfl) pa_nil)))
      (pe_one (pe_not (pe_callB call_isi (by rfl) T.isin (by decide +kernel) (pa_cons (pv 0) (pa_cons (pe_bltn (v := .ty "bool") (by rfl) T.bool (by decide +kernel) rfl) pa_nil))))))), ?_⟩
    refine ⟨_, rfl, x, _, _, _, _, rfl, .ty _, ht.ty, ht.kInt, _, rfl, ?_⟩
    refine ite2 (fun hi => ?_) (fun hn => ?_)
    · refine ⟨_, rfl, x, _, _, _, _, rfl, .ty _, ht.ty, ht.kBool, _, rfl, ?_⟩
      have e : (!isB x) = isI x := by cases ht <;> first | rfl | exact absurd hi Bool.false_ne_true
      show Q (.bl (!isB x)) H
      rw [e]
      exact k
    · have e : isI x = false := by cases ht <;> first | rfl | exact absurd rfl hn
      show Q (.bl false) H
      rw [← e]
      exact k
end
def Bnd (v : V) : Prop := v = .non ∨ ∃ i, v = .int i
def geB (i : Int) : V → Bool
  | .int a => decide (a ≤ i)
  | _ => true
def leB (i : Int) : V → Bool
  | .int b => decide (i ≤ b)
  | _ => true
def within : V → V → V → Bool
  | .int i, l, m => geB i l && leB i m
  | _, _, _ => false
def spWithin : Sp := fun vs H Q _ => ∃ (x l m : V) (t : String), vs = [x, l, m] ∧ Typ H x t ∧ Bnd l ∧ Bnd m ∧ Q (.bl (within x l m)) H
def letterB : V → Bool
  | .int i => (decide (-26 ≤ i) && decide (i ≤ 26)) && !decide (i = 0)
  | _ => false
def spLetter : Sp := fun vs H Q _ => ∃ (x : V) (t : String), vs = [x] ∧ Typ H x t ∧ Q (.bl (letterB x)) H
structure TxC (mg : Str → Option Value) : Prop where
  kind : ∃ t, mg "MOST_KIND" = some (.int 26 t)
  all : mg "all" = none
section
variable {P : Program} {w : World} {K : PySem.W.Frag} {mg : Str → Option Value} {base : Heap}
theorem scWithin : FnScope ["value", "least", "most"] ["value", "least", "most"] (defScope sWithin) := ⟨rfl, rfl, rfl, by decide +kernel, rfl, by decide +kernel, by decide +kernel⟩
theorem ok_within {f : Addr} {fd : FuncData} (F : Fun K "is_within" "is_within" sWithin f fd) (GI : Cal P w K mg base "is_integer" 1 ["value"] spIsInt) : FnOk P w K mg base CX0 2 f fd ["value", "least", "most"] spWithin := by
  refine F.ok scWithin (fun vs H Q E h => ?_) (fun cdv A outer s H vs Q E hr h => ?_)
  · obtain ⟨x, l, m, t, rfl, _⟩ := h
    rfl
  · obtain ⟨x, l, m, t, rfl, ht, hl, hm, k⟩ := h
    refine ⟨_, pss_cons (ps_if (pt_not (pt_val (pe_cal GI hr (by decide) (by rfl) (pa_cons (pv 0) pa_nil)))) (pss_one (ps_ret pe_bl)) pss_nil)
      (pss_one (ps_ret (pe_and (pe_or (pe_cmpR op_isN (pv 1) pe_non (nomark _)) (pe_one (pe_cmpR op_ge (pv 0) (pv 1) (nomark _)))) (pe_one (pe_or (pe_cmpR op_isN (pv 2) pe_non (nomark _)) (pe_one (pe_cmpR op_le (pv 0) (pv 2) (nomark _)))))))), ?_⟩
    refine ⟨_, rfl, x, t, rfl, ht, _, rfl, ?_⟩
    refine ite2 (fun hn => ?_) (fun hi => ?_)
    · have e : within x l m = false := by cases ht <;> first | rfl | exact absurd hn Bool.false_ne_true
      rw [e] at k
      exact k
    · obtain ⟨i, rfl⟩ : ∃ i, x = .int i := by cases ht <;> first | exact ⟨_, rfl⟩ | exact absurd rfl hi
      -- the second half, whatever the first one says
      have half : ∀ H1 : Hp, H1 = H → ∀ Q1 : VK, Q1 (.bl (leB i m)) H1 → tOrV (tOp (fun x y H Q => y = .non ∧ Q (.bl (decide (x = .non))) H) (tVar 2) (tC .non)) (tOp (rI0 fun i j => .bl (decide (i ≤ j))) (tVar 0) (tVar 2)) [some (.int i), some l, some m] H1 Q1 := by
        intro H1 _ Q1 q
        rcases hm with rfl | ⟨b, rfl⟩
        · exact ⟨_, rfl, rfl, _, rfl, iteT q⟩
        · exact ⟨_, rfl, rfl, _, rfl, iteF ⟨_, rfl, _, rfl, _, _, rfl, rfl, q⟩⟩
      rcases hl with rfl | ⟨a, rfl⟩
      · refine ⟨_, rfl, rfl, _, rfl, iteT ⟨_, rfl, iteT (half H rfl _ ?_)⟩⟩
        exact k
      · refine ⟨_, rfl, rfl, _, rfl, iteF ⟨_, rfl, _, rfl, _, _, rfl, rfl, _, rfl, ?_⟩⟩
        refine ite2 (fun hg => half H rfl _ ?_) (fun hg => ?_)
        · have e : within (.int i) (.int a) m = leB i m := by
            show (decide (a ≤ i) && leB i m) = leB i m
            rw [hg]
            rfl
          rw [e] at k
          exact k
        · have e : within (.int i) (.int a) m = false := by
            show (decide (a ≤ i) && leB i m) = false
            rw [Bool.eq_false_iff.mpr hg]
            rfl
          rw [e] at k
          exact k
theorem scLetter : FnScope ["value"] ["value"] (defScope sLetter) := ⟨rfl, rfl, rfl, by decide +kernel, rfl, by decide +kernel, by decide +kernel⟩
theorem ok_letter {f : Addr} {fd : FuncData} (F : Fun K "is_letter" "is_letter" sLetter f fd) (GW : Cal P w K mg base "is_within" 2 ["value", "least", "most"] spWithin) (T : TxC mg) : FnOk P w K mg base CX0 3 f fd ["value"] spLetter := by
  refine F.ok scLetter (fun vs H Q E h => ?_) (fun cdv A outer s H vs Q E hr h => ?_)
  · obtain ⟨x, t, rfl, _⟩ := h
    rfl
  · obtain ⟨x, t, rfl, ht, k⟩ := h
    obtain ⟨tk, mK⟩ := T.kind
    refine ⟨_, pss_one (ps_ret (pe_and (pe_cal GW hr (by decide) (by rfl) (pa_cons (pv 0) (pa_cons (pe_un un_neg (pe_glob (v := .int 26) (by rfl) mK ⟨_, rfl⟩)) (pa_cons (pe_glob (v := .int 26) (by rfl) mK ⟨_, rfl⟩) pa_nil)))) (pe_one (pe_cmpR op_ne (pv 0) pe_int (nomark _))))), ?_⟩
    refine ⟨_, rfl, _, rfl, x, _, _, t, rfl, ht, .inr ⟨_, rfl⟩, .inr ⟨_, rfl⟩, _, rfl, ?_⟩
    refine ite2 (fun hi => ?_) (fun hn => ?_)
    · obtain ⟨i, rfl⟩ : ∃ i, x = .int i := by cases ht <;> first | exact ⟨_, rfl⟩ | exact absurd hi Bool.false_ne_true
      refine ⟨_, rfl, rfl, ?_⟩
      have e : letterB (.int i) = !decide (V.int i = V.int 0) := by
        have h2 : (decide (-26 ≤ i) && decide (i ≤ 26)) = true := hi
        show ((decide (-26 ≤ i) && decide (i ≤ 26)) && !decide (i = 0)) = _
        rw [h2, Bool.true_and]
        congr 1
        by_cases h0 : i = 0
        · subst h0; rfl
        · rw [decide_eq_false h0, decide_eq_false (fun q => h0 (by injection q))]
      rw [e] at k
      exact k
    · have e : letterB x = false := by
        cases ht with
        | int i =>
          have h2 : (decide (-26 ≤ i) && decide (i ≤ 26)) = false := Bool.eq_false_iff.mpr hn
          show ((decide (-26 ≤ i) && decide (i ≤ 26)) && !decide (i = 0)) = false
          rw [h2]
          rfl
        | _ => rfl
      rw [e] at k
      exact k
theorem scListed : FnScope ["value"] ["value"] (defScope sListed) := ⟨rfl, rfl, rfl, by decide +kernel, rfl, by decide +kernel, by decide +kernel⟩
end
end W13
set_option Elab.async false
set_option linter.all false
set_option maxRecDepth 100000
set_option maxHeartbeats 2000000
namespace W13
open PySem L2 PySem.Spec PyProof.Rows WR WB
abbrev sInit : Stmt := inClass (top 40) 0
theorem SqL.tyx {K : PySem.W.Frag} {H : Hp} {a : Addr} {xs : List V} (h : SqL K H a xs) : TyX K H (.ref a) (.type "list") := by
  rcases h with h | ⟨o, its, n, e, c, _⟩
  · rcases h with h | ⟨o, h⟩
    · exact .base (.lst h)
    · exact .base (.frz h)
  · exact .kList e c
theorem SqT.tyx {K : PySem.W.Frag} {H : Hp} {a : Addr} {xs : List V} (h : SqT K H a xs) : TyX K H (.ref a) (.type "tuple") := by
  rcases h with h | ⟨o, its, n, e, c, _⟩
  · rcases h with h | ⟨o, h⟩
    · exact .base (.tup h)
    · exact .fTuple h
  · exact .kTuple e c
def spListE (K : PySem.W.Frag) : Sp := fun vs H Q _ => ∃ (a : Addr) (xs : List V), vs = [.ref a] ∧ SqE K H a xs ∧ ∀ H', Same H H' → Q (.bl true) H'
def spFew : Sp := fun vs H Q _ => ∃ n : Int, vs = [.int n] ∧ n ≤ 500 ∧ Q .non H
structure TxW (K : PySem.W.Frag) (mg : Str → Option Value) (C : Addr) : Prop where
  cl : Cls K C
  nL : NoAttr K C "letters"
  nN : NoAttr K C "length"
  nK : NoAttr K C "kinds"
  nS : NoAttr K C "is_short"
  nR : NoAttr K C "is_short_round"
  ca : PySem.W.findIn K (.ref C) "__class__" = some (some (.builtin "object.__class__"))
  cn : PySem.W.specialIn K (.builtin "object.__class__") "__get__" = some (some (.builtin "getset_descriptor.__get__"))
  ct : PySem.W.takesIn K (.builtin "object.__class__") = some true
  cm : PySem.W.mroIn K C (.type "object") = some true
  mgW : mg "Word" = some (.ref C)
  most : ∃ t, mg "MOST_LETTERS" = some (.int 500 t)
  isin : mg "isinstance" = none
  all : mg "all" = none
def wf (tl : Addr) (n : Nat) (tk : Addr) (b1 b2 : Bool) : List (Str × V) := [("letters", .ref tl), ("length", .int (n : Int)), ("kinds", .ref tk), ("is_short", .bl b1), ("is_short_round", .bl b2)]
theorem ne1 : ¬ (("letters" : Str) = "length") := by decide +kernel
theorem ne2 : ¬ (("letters" : Str) = "kinds") := by decide +kernel
theorem ne3 : ¬ (("letters" : Str) = "is_short") := by decide +kernel
theorem ne4 : ¬ (("letters" : Str) = "is_short_round") := by decide +kernel
theorem ne5 : ¬ (("length" : Str) = "kinds") := by decide +kernel
theorem ne6 : ¬ (("length" : Str) = "is_short") := by decide +kernel
theorem ne7 : ¬ (("length" : Str) = "is_short_round") := by decide +kernel
theorem ne8 : ¬ (("kinds" : Str) = "is_short") := by decide +kernel
theorem ne9 : ¬ (("kinds" : Str) = "is_short_round") := by decide +kernel
theorem ne10 : ¬ (("is_short" : Str) = "is_short_round") := by decide +kernel
theorem lk_eq {k : Str} {v : V} {t : List (Str × V)} : List.lookup k ((k, v) :: t) = some v := by
  rw [List.lookup_cons, beq_self_eq_true k]
theorem lk_ne {k g : Str} {v : V} {t : List (Str × V)} (h : ¬ k = g) : List.lookup k ((g, v) :: t) = List.lookup k t := by
  rw [List.lookup_cons, show (k == g) = false from beq_eq_false_iff_ne.mpr h]
theorem pf_ne {k g : Str} {v x : V} {t : List (Str × V)} (h : ¬ g = k) : putF k v ((g, x) :: t) = (g, x) :: putF k v t := by
  show (if g = k then _ else _) = _
  rw [if_neg h]
theorem wf_letters {tl tk n b1 b2} : (wf tl n tk b1 b2).lookup ("letters" : Str) = some (.ref tl) := lk_eq
theorem wf_length {tl tk n b1 b2} : (wf tl n tk b1 b2).lookup ("length" : Str) = some (.int (n : Int)) := by
  unfold wf
  rw [lk_ne fun e => ne1 e.symm, lk_eq]
theorem wf_round {tl tk n b1 b2} : (wf tl n tk b1 b2).lookup ("is_short_round" : Str) = some (.bl b2) := by
  unfold wf
  rw [lk_ne fun e => ne4 e.symm, lk_ne fun e => ne7 e.symm, lk_ne fun e => ne9 e.symm, lk_ne fun e => ne10 e.symm, lk_eq]
theorem wf_no {tl tk n b1 b2} {m : Str} (h1 : ¬ m = "letters") (h2 : ¬ m = "length") (h3 : ¬ m = "kinds") (h4 : ¬ m = "is_short") (h5 : ¬ m = "is_short_round") : (wf tl n tk b1 b2).lookup m = none := by
  unfold wf
  rw [lk_ne h1, lk_ne h2, lk_ne h3, lk_ne h4, lk_ne h5]
  rfl
def WordAt (K : PySem.W.Frag) (C : Addr) (H : Hp) (p : Addr) (ns : List Int) : Prop :=
  ∃ (dx tl tk : Addr) (ks : List Int), H p = some (.ins C dx (wf tl ns.length tk (decide (Fr.shr ns = ns)) (decide (Fr.rnd ns = ns)))) ∧ SqB K H tl (iv ns) ∧ SqT K H tk (iv ks) ∧ kindsOk ns ks
theorem WordAt.same {K : PySem.W.Frag} {C : Addr} {H H' : Hp} {p : Addr} {ns : List Int} (h : WordAt K C H p ns) (s : Same H H') : WordAt K C H' p ns := by
  obtain ⟨dx, tl, tk, ks, h1, h2, h3, h4⟩ := h
  exact ⟨dx, tl, tk, ks, s _ _ h1, SqB.same s h2, WR.Same.seqT s h3, h4⟩
theorem Lts.nz {ns : List Int} (h : Lts ns) : Fr.NZ ns := fun a ha => by
  have := h a ha
  omega
def spInit (K : PySem.W.Frag) (C : Addr) : Sp := fun vs H Q _ => ∃ (H0 : Hp) (p dx a : Addr) (ns : List Int), vs = [.ref p, .ref a] ∧ Same H0 H ∧ H0 p = none ∧ H p = some (.ins C dx []) ∧ SqW K H0 a (iv ns) ∧ ns.length ≤ 500 ∧ Lts ns ∧
  ∀ H', Same H0 H' → WordAt K C H' p ns → Q .non H'
theorem dp_iv {K : PySem.W.Frag} {H : Hp} : ∀ ns : List Int, DpAll K H (iv ns) (ns.map PyData.int)
  | [] => .nil
  | n :: r => .cons (.int n) (dp_iv r)
theorem eqvAll_ints : ∀ ns ms : List Int, PyData.eqvAll (ns.map PyData.int) (ms.map PyData.int) = decide (ns = ms)
  | [], [] => rfl
  | [], b :: r => rfl
  | a :: r, [] => rfl
  | a :: r, b :: q => by
    have ih := eqvAll_ints r q
    show (PyData.eqv (.int a) (.int b) && PyData.eqvAll (r.map PyData.int) (q.map PyData.int)) = _
    rw [ih]
    have : PyData.eqv (.int a) (.int b) = decide (a = b) := by
      simp only [PyData.eqv]
      exact Bool.eq_iff_iff.mpr (by simp)
    rw [this]
    by_cases e1 : a = b <;> by_cases e2 : r = q <;> simp [e1, e2]
theorem eqv_ints (ns ms : List Int) : PyData.eqv (.tuple (ns.map .int)) (.tuple (ms.map .int)) = decide (ns = ms) := by
  show PyData.eqvAll _ _ = _
  exact eqvAll_ints ns ms
theorem lay_ints : ∀ ns : List Int, PyData.canLayAll0 (ns.map PyData.int) = true ∧ PyData.depthAll (ns.map PyData.int) = 0
  | [] => ⟨rfl, rfl⟩
  | n :: r => by
    obtain ⟨h1, h2⟩ := lay_ints r
    exact ⟨by simp [PyData.canLayAll0, PyData.canLay0, h1], by simp [PyData.depthAll, PyData.depth, h2]⟩
theorem shaped_ints (ns : List Int) : SeqAt.shaped (.tuple (ns.map .int)) = true := by
  obtain ⟨h1, h2⟩ := lay_ints ns
  simp [SeqAt.shaped, PyData.canLay0, PyData.depth, h1, h2]
section
variable {P : Program} {w : World} {K : PySem.W.Frag} {mg : Str → Option Value} {base : Heap}
theorem ok_listE {f : Addr} {fd : FuncData} (F : Fun K "is_listed" "is_listed" sListed f fd) (T : TxI mg) : FnOk P w K mg base CX0 1 f fd ["value"] (spListE K) := by
  refine F.ok scListed (fun vs H Q E h => ?_) (fun cdv A outer s H vs Q E hr h => ?_)
  · obtain ⟨a, xs, rfl, _⟩ := h
    rfl
  · obtain ⟨a, xs, rfl, hS, k⟩ := h
    refine ⟨_, pss_one (ps_ret (pe_callB call_isiT (by rfl) T.isin (by decide +kernel) (pa_cons (pv 0) (pa_cons (pe_tup (pa_cons (pe_bltn (v := .ty "list") (by rfl) T.list (by decide +kernel) rfl) (pa_cons (pe_bltn (v := .ty "tuple") (by rfl) T.tuple (by decide +kernel) rfl) pa_nil))) pa_nil)))), ?_⟩
    refine ⟨_, rfl, (by show 2 ≤ sizeLine; decide), fun p hp => ?_⟩
    have sm : Same H (upd H p (.tup [.ty "list", .ty "tuple"])) := same_upd hp
    rcases hS.same sm with hS | hS
    · exact ⟨_, p, _, _, _, _, rfl, upd_same, .cons (.ty _) (.cons (.ty _) .nil), SqL.tyx hS, (by rfl), k _ sm⟩
    · exact ⟨_, p, _, _, _, _, rfl, upd_same, .cons (.ty _) (.cons (.ty _) .nil), SqT.tyx hS, (Typ.tup (H := fun _ => some (.tup [])) (p := a) (xs := []) rfl).kSeq, k _ sm⟩
theorem scFew : FnScope ["many"] ["many"] (defScope sFew) := ⟨rfl, rfl, rfl, by decide +kernel, rfl, by decide +kernel, by decide +kernel⟩
theorem ok_few {C : Addr} {f : Addr} {fd : FuncData} (F : Fun K "need_few_letters" "need_few_letters" sFew f fd) (T : TxW K mg C) : FnOk P w K mg base CX0 1 f fd ["many"] spFew := by
  refine F.ok scFew (fun vs H Q E h => ?_) (fun cdv A outer s H vs Q E hr h => ?_)
  · obtain ⟨n, rfl, _⟩ := h
    rfl
  · obtain ⟨n, rfl, hn, k⟩ := h
    obtain ⟨tk, mM⟩ := T.most
    refine ⟨_, pss_one (ps_if (pt_cmpR op_gt (pv 0) (pe_glob (v := .int 500) (by rfl) mM ⟨_, rfl⟩) (nomark _)) (pss_one ps_never) pss_nil), ?_⟩
    refine ⟨_, rfl, _, _, rfl, rfl, _, rfl, ?_⟩
    exact iteF' (decide_eq_false (by omega)) k
end
end W13
set_option Elab.async false
set_option linter.all false
set_option maxRecDepth 100000
set_option maxHeartbeats 2000000
namespace W13
open PySem L2 PySem.Spec PyProof.Rows WR WB
theorem SqT.put {K : PySem.W.Frag} {H : Hp} {a p C dx : Addr} {fs : List (Str × V)} {o : HO} {xs : List V} (h : SqT K H a xs) (hp : H p = some (.ins C dx fs)) : SqT K (L2.upd H p o) a xs := by
  rcases h with h | h
  · left
    have ne : ∀ u, H a = some u → (∀ C dx fs, u ≠ .ins C dx fs) → a ≠ p := fun u e q z => by
      rw [z, hp] at e
      exact q _ _ _ (Option.some.inj e).symm
    rcases h with h | ⟨o', h⟩
    · exact .inl (by rw [upd_ne (ne _ h fun _ _ _ => by intro z; cases z)]; exact h)
    · exact .inr ⟨o', by rw [upd_ne (ne _ h fun _ _ _ => by intro z; cases z)]; exact h⟩
  · exact .inr h
theorem SqB.put {K : PySem.W.Frag} {H : Hp} {a p C dx : Addr} {fs : List (Str × V)} {o : HO} {xs : List V} (h : SqB K H a xs) (hp : H p = some (.ins C dx fs)) : SqB K (L2.upd H p o) a xs := by
  obtain ⟨h1, h2⟩ := h
  refine ⟨SqT.put h1 hp, ?_⟩
  obtain ⟨o', u, e, d⟩ := h2
  exact ⟨o', u, by rw [upd_ne (fun z => by rw [z, hp] at e; cases e)]; exact e, d⟩
theorem same_put {H0 H : Hp} {p : Addr} {o : HO} (s : Same H0 H) (hp : H0 p = none) : Same H0 (L2.upd H p o) := fun b u e => by
  have : b ≠ p := fun z => by rw [z, hp] at e; cases e
  rw [upd_ne this]
  exact s _ _ e
theorem letter_ok {i : Int} (h : 1 ≤ i.natAbs ∧ i.natAbs ≤ 26) : letterB (.int i) = true := by
  show ((decide (-26 ≤ i) && decide (i ≤ 26)) && !decide (i = 0)) = true
  rw [decide_eq_true (by omega), decide_eq_true (by omega), decide_eq_false (by omega)]
  rfl
theorem all_ok {ns : List Int} (h : Lts ns) : ((ns.map fun i => letterB (.int i)).all id) = true := by
  rw [List.all_eq_true]
  intro b hb
  obtain ⟨i, hi, rfl⟩ := List.mem_map.mp hb
  exact letter_ok (h i hi)
theorem not_lc {r : List V → Hp → VK → Prop} {wi : TI} {g : TG} {tt : TT} {te : TE} {vs : List Nat} {σ : L2.St} {H : Hp} {Q : Bool → Hp → Prop}
    (h : wi σ H fun J H1 => tLc (fun _ H R => R J H) g tt te vs σ H1 fun x H2 => r [x] H2 fun v H3 => ∃ c, v = .bl c ∧ Q (!c) H3) :
    tNot (fun σ H Q => tCB r (tCons (tLc wi g tt te vs) tNil) σ H fun x H1 => ∃ c, x = .bl c ∧ Q c H1) σ H Q := h
abbrev nInit : List Str := ["self", "letters", "letter"]
section
variable {P : Program} {w : World} {K : PySem.W.Frag} {mg : Str → Option Value} {base : Heap}
theorem scInit : FnScope nInit ["self", "letters"] (defScope sInit) := ⟨rfl, rfl, rfl, by decide +kernel, rfl, by decide +kernel, by decide +kernel⟩
theorem ok_init {C f : Addr} {fd : FuncData} (F : Fun K "__init__" "Word.__init__" sInit f fd) (T : TxW K mg C) (TA : TxA mg) (GL : Cal P w K mg base "is_listed" 1 ["value"] (spListE K)) (GX : Cal P w K mg base "is_letter" 3 ["value"] spLetter)
    (GF : Cal P w K mg base "need_few_letters" 1 ["many"] spFew) (GK : Cal P w K mg base "kinds_of" 1 ["letters"] (spKinds K)) (GS : Cal P w K mg base "shortened_letters" 1 ["letters"] (spShr K)) (GR : Cal P w K mg base "rounded_letters" 2 ["letters"] (spRnd K)) :
    FnOk P w K mg base CX0 4 f fd ["self", "letters"] (spInit K C) := by
  refine F.ok scInit (fun vs H Q E h => ?_) (fun cdv A outer s H vs Q E hr h => ?_)
  · obtain ⟨H0, p, dx, a, ns, rfl, _⟩ := h
    rfl
  · obtain ⟨H0, p, dx, a, ns, rfl, s0, p0, hp, hS, hlen, hl, k⟩ := h
    rcases hS with hS | hS
    · refine ⟨_, pss_cons (ps_if (PW.pt (pw_or (pt_not (pt_val (pe_cal GL hr (by decide) (by rfl) (pa_cons (pv 1) pa_nil)))) (pw_or1 (pt_not (pt_val (pe_callB (cr_all rfl) (by rfl) T.all (by decide +kernel) (pa_cons (pe_lc (own := [("letter", 2)]) (g := gName 2) (tt := tYes) rfl scInit.nd (pi_list (pv 1))
          (blkOk_by (N := nInit) (sc := defScope sInit) (by decide +kernel)) (fun _ _ _ _ _ => pg_name (i := 2) scInit.nd rfl (Or.inl rfl)) (fun _ _ _ _ _ => pts_nil)
          (fun _ _ _ _ _ => pe_cal GX hr (by decide) (by rfl) (pa_cons (pv 2) pa_nil))) pa_nil))))))) (pss_one ps_never) pss_nil)
        (pss_cons (ps_expr (pe_cal GF hr (by decide) (by rfl) (pa_cons (pe_callB call_len_seq (by rfl) TA.len PySem.boot_len (pa_cons (pv 1) pa_nil)) pa_nil)))
        (pss_cons (ps_fld (pv 0) (pe_callTy call_tupB (by rfl) TA.tuple (by decide +kernel) (pa_cons (pv 1) pa_nil)) rfl)
        (pss_cons (ps_fld (pv 0) (pe_callB call_len_seq (by rfl) TA.len PySem.boot_len (pa_cons (pv 1) pa_nil)) rfl)
        (pss_cons (ps_fld (pv 0) (pe_cal GK hr (by decide) (by rfl) (pa_cons (pv 1) pa_nil)) rfl)
        (pss_cons (ps_fld (pv 0) (pe_cmpR (op_eqD hr.units) (pe_cal GS hr (by decide) (by rfl) (pa_cons (pv 1) pa_nil)) (pe_fld (pv 0) rfl) (nomark _)) rfl)
        (pss_one (ps_fld (pv 0) (pe_cmpR (op_eqD hr.units) (pe_cal GR hr (by decide) (by rfl) (pa_cons (pv 1) pa_nil)) (pe_fld (pv 0) rfl) (nomark _)) rfl))))))), ?_⟩
      have E0 : SqE K H0 a (iv ns) := .inl hS
      refine ⟨_, rfl, a, _, rfl, E0.same s0, fun H1 s1 => ⟨_, rfl, ?_⟩⟩
      have s01 := s0.trans s1
      refine iteF ?_
      refine not_lc ?_
      refine ⟨_, rfl, a, rfl, ⟨_, (s01.seq hS)⟩, ?_⟩
      refine lcp (walk_list (xs := iv ns)) (fun _ => true) (fun x => .bl (letterB x)) (by simp; omega) (fun H2 s2 => (s01.trans s2).seq hS) ?_ ?_
      · intro x hx H2 s2 Qy Qn ky kn
        obtain ⟨i, hi, rfl⟩ := List.mem_map.mp hx
        exact ⟨rfl, yes_te ⟨_, rfl, .int i, _, rfl, .int i, ky rfl H2 (fun _ _ e => e)⟩⟩
      intro D H2 hD s2 h2
      have s02 := s01.trans s2
      refine ⟨D, ns.map fun i => letterB (.int i), rfl, SqL.of (by
        rw [h2, List.filter_eq_self.mpr (fun _ _ => rfl), List.map_map, List.map_map]
        rfl), ?_⟩
      rw [all_ok hl]
      refine ⟨_, rfl, iteF ?_⟩
      -- not too many
      refine ⟨_, rfl, a, _, rfl, E0.same s02, ((iv ns).length : Int), rfl, by rw [List.length_map]; omega, ?_⟩
      have hp2 : H2 p = some (.ins C dx []) := s2 _ _ (s1 _ _ hp)
      -- its letters
      refine ⟨_, rfl, a, _, rfl, .inl ⟨s02.seq hS, fun tl H3 s23 t3 => ?_⟩⟩
      have s3 := s02.trans s23
      have hp3 := s23 _ _ hp2
      refine ⟨_, rfl, p, C, dx, _, rfl, hp3, T.cl, T.nL, (by show 0 < 1000; decide), ?_⟩
      have hp4 : L2.upd H3 p (.ins C dx (putF "letters" (.ref tl) [])) p = some (.ins C dx [("letters", .ref tl)]) := by rw [upd_same]; rfl
      have s4 := same_put (o := .ins C dx (putF "letters" (.ref tl) [])) s3 p0
      have t4 := SqB.put (o := .ins C dx (putF "letters" (.ref tl) [])) t3 hp3
      refine gen_heap fun H4 e4 => ?_
      rw [← e4] at hp4 s4 t4
      -- how many
      refine ⟨_, rfl, a, _, rfl, E0.same s4, _, rfl, p, C, dx, _, rfl, hp4, T.cl, T.nN, (by show 1 < 1000; decide), ?_⟩
      have hp5 : L2.upd H4 p (.ins C dx (putF "length" (.int ((iv ns).length : Nat)) [("letters", .ref tl)])) p = some (.ins C dx [("letters", .ref tl), ("length", .int (ns.length : Nat))]) := by
        rw [upd_same, pf_ne ne1, List.length_map]
        rfl
      have s5 := same_put (o := .ins C dx (putF "length" (.int ((iv ns).length : Nat)) [("letters", .ref tl)])) s4 p0
      have t5 := SqB.put (o := .ins C dx (putF "length" (.int ((iv ns).length : Nat)) [("letters", .ref tl)])) t4 hp4
      refine gen_heap fun H5 e5 => ?_
      rw [← e5] at hp5 s5 t5
      -- its kinds
      refine ⟨_, rfl, a, ns, rfl, E0.same s5, by omega, hl, fun ks hk tk H6 s6 tk6 => ?_⟩
      have hp6 := s6 _ _ hp5
      have s06 := s5.trans s6
      have t6 := SqB.same s6 t5
      refine ⟨_, rfl, p, C, dx, _, rfl, hp6, T.cl, T.nK, (by show 2 < 1000; decide), ?_⟩
      have hp7 : L2.upd H6 p (.ins C dx (putF "kinds" (.ref tk) [("letters", .ref tl), ("length", .int (ns.length : Nat))])) p = some (.ins C dx [("letters", .ref tl), ("length", .int (ns.length : Nat)), ("kinds", .ref tk)]) := by
        rw [upd_same, pf_ne ne2, pf_ne ne5]
        rfl
      have s7 := same_put (o := .ins C dx (putF "kinds" (.ref tk) [("letters", .ref tl), ("length", .int (ns.length : Nat))])) s06 p0
      have t7 := SqB.put (o := .ins C dx (putF "kinds" (.ref tk) [("letters", .ref tl), ("length", .int (ns.length : Nat))])) t6 hp6
      have k7 := SqT.put (o := .ins C dx (putF "kinds" (.ref tk) [("letters", .ref tl), ("length", .int (ns.length : Nat))])) tk6 hp6
      refine gen_heap fun H7 e7 => ?_
      rw [← e7] at hp7 s7 t7 k7
      -- short
      refine ⟨_, rfl, a, ns, rfl, E0.same s7, by omega, fun q H8 s8 q8 => ?_⟩
      have hp8 := s8 _ _ hp7
      have s08 := s7.trans s8
      have t8 := SqB.same s8 t7
      have k8 := WR.Same.seqT s8 k7
      refine ⟨_, rfl, p, C, dx, _, _, rfl, hp8, T.cl, T.nL, lk_eq, ?_⟩
      refine ⟨_, _, .tup q8.sq (dp_iv _), .tup t8.sq (dp_iv _), shaped_ints _, shaped_ints _, ?_⟩
      rw [eqv_ints]
      refine ⟨_, rfl, p, C, dx, _, rfl, hp8, T.cl, T.nS, (by show 3 < 1000; decide), ?_⟩
      have hp9 : L2.upd H8 p (.ins C dx (putF "is_short" (.bl (decide (Fr.shr ns = ns))) [("letters", .ref tl), ("length", .int (ns.length : Nat)), ("kinds", .ref tk)])) p = some (.ins C dx [("letters", .ref tl), ("length", .int (ns.length : Nat)), ("kinds", .ref tk), ("is_short", .bl (decide (Fr.shr ns = ns)))]) := by
        rw [upd_same, pf_ne ne3, pf_ne ne6, pf_ne ne8]
        rfl
      have s9 := same_put (o := .ins C dx (putF "is_short" (.bl (decide (Fr.shr ns = ns))) [("letters", .ref tl), ("length", .int (ns.length : Nat)), ("kinds", .ref tk)])) s08 p0
      have t9 := SqB.put (o := .ins C dx (putF "is_short" (.bl (decide (Fr.shr ns = ns))) [("letters", .ref tl), ("length", .int (ns.length : Nat)), ("kinds", .ref tk)])) t8 hp8
      have k9 := SqT.put (o := .ins C dx (putF "is_short" (.bl (decide (Fr.shr ns = ns))) [("letters", .ref tl), ("length", .int (ns.length : Nat)), ("kinds", .ref tk)])) k8 hp8
      refine gen_heap fun H9 e9 => ?_
      rw [← e9] at hp9 s9 t9 k9
      -- short round
      refine ⟨_, rfl, a, ns, rfl, E0.same s9, by omega, hl.nz, fun q2 Ha sa qa => ?_⟩
      have hpa := sa _ _ hp9
      have s0a := s9.trans sa
      have ta := SqB.same sa t9
      have ka := WR.Same.seqT sa k9
      refine ⟨_, rfl, p, C, dx, _, _, rfl, hpa, T.cl, T.nL, lk_eq, ?_⟩
      refine ⟨_, _, .tup qa.sq (dp_iv _), .tup ta.sq (dp_iv _), shaped_ints _, shaped_ints _, ?_⟩
      rw [eqv_ints]
      refine ⟨_, rfl, p, C, dx, _, rfl, hpa, T.cl, T.nR, (by show 4 < 1000; decide), ?_⟩
      refine k _ (same_put s0a p0) ⟨dx, tl, tk, ks, ?_, SqB.put ta hpa, SqT.put ka hpa, hk⟩
      rw [upd_same, pf_ne ne4, pf_ne ne7, pf_ne ne9, pf_ne ne10]
      rfl
    · refine ⟨_, pss_cons (ps_if (PW.pt (pw_or (pt_not (pt_val (pe_cal GL hr (by decide) (by rfl) (pa_cons (pv 1) pa_nil)))) (pw_or1 (pt_not (pt_val (pe_callB (cr_all rfl) (by rfl) T.all (by decide +kernel) (pa_cons (pe_lc (own := [("letter", 2)]) (g := gName 2) (tt := tYes) rfl scInit.nd (pi_tup (pv 1))
          (blkOk_by (N := nInit) (sc := defScope sInit) (by decide +kernel)) (fun _ _ _ _ _ => pg_name (i := 2) scInit.nd rfl (Or.inl rfl)) (fun _ _ _ _ _ => pts_nil)
          (fun _ _ _ _ _ => pe_cal GX hr (by decide) (by rfl) (pa_cons (pv 2) pa_nil))) pa_nil))))))) (pss_one ps_never) pss_nil)
        (pss_cons (ps_expr (pe_cal GF hr (by decide) (by rfl) (pa_cons (pe_callB call_len_seq (by rfl) TA.len PySem.boot_len (pa_cons (pv 1) pa_nil)) pa_nil)))
        (pss_cons (ps_fld (pv 0) (pe_callTy call_tupB (by rfl) TA.tuple (by decide +kernel) (pa_cons (pv 1) pa_nil)) rfl)
        (pss_cons (ps_fld (pv 0) (pe_callB call_len_seq (by rfl) TA.len PySem.boot_len (pa_cons (pv 1) pa_nil)) rfl)
        (pss_cons (ps_fld (pv 0) (pe_cal GK hr (by decide) (by rfl) (pa_cons (pv 1) pa_nil)) rfl)
        (pss_cons (ps_fld (pv 0) (pe_cmpR (op_eqD hr.units) (pe_cal GS hr (by decide) (by rfl) (pa_cons (pv 1) pa_nil)) (pe_fld (pv 0) rfl) (nomark _)) rfl)
        (pss_one (ps_fld (pv 0) (pe_cmpR (op_eqD hr.units) (pe_cal GR hr (by decide) (by rfl) (pa_cons (pv 1) pa_nil)) (pe_fld (pv 0) rfl) (nomark _)) rfl))))))), ?_⟩
      have E0 : SqE K H0 a (iv ns) := .inr hS
      refine ⟨_, rfl, a, _, rfl, E0.same s0, fun H1 s1 => ⟨_, rfl, ?_⟩⟩
      have s01 := s0.trans s1
      refine iteF ?_
      refine not_lc ?_
      refine ⟨_, rfl, a, rfl, ⟨_, (WR.Same.seqT s01 hS.sq)⟩, ?_⟩
      refine lcp (walk_tup (xs := iv ns)) (fun _ => true) (fun x => .bl (letterB x)) (by simp; omega) (fun H2 s2 => WR.Same.seqT (s01.trans s2) hS.sq) ?_ ?_
      · intro x hx H2 s2 Qy Qn ky kn
        obtain ⟨i, hi, rfl⟩ := List.mem_map.mp hx
        exact ⟨rfl, yes_te ⟨_, rfl, .int i, _, rfl, .int i, ky rfl H2 (fun _ _ e => e)⟩⟩
      intro D H2 hD s2 h2
      have s02 := s01.trans s2
      refine ⟨D, ns.map fun i => letterB (.int i), rfl, SqL.of (by
        rw [h2, List.filter_eq_self.mpr (fun _ _ => rfl), List.map_map, List.map_map]
        rfl), ?_⟩
      rw [all_ok hl]
      refine ⟨_, rfl, iteF ?_⟩
      -- not too many
      refine ⟨_, rfl, a, _, rfl, E0.same s02, ((iv ns).length : Int), rfl, by rw [List.length_map]; omega, ?_⟩
      have hp2 : H2 p = some (.ins C dx []) := s2 _ _ (s1 _ _ hp)
      -- its letters
      refine ⟨_, rfl, a, _, rfl, .inr ⟨SqB.same s02 hS, ?_⟩⟩
      have s3 := s02
      have hp3 := hp2
      have t3 : SqB K H2 a (iv ns) := SqB.same s02 hS
      refine gen_heap fun H3 e3 => ?_
      rw [← e3] at s3 hp3 t3
      refine ⟨_, rfl, p, C, dx, _, rfl, hp3, T.cl, T.nL, (by show 0 < 1000; decide), ?_⟩
      have hp4 : L2.upd H3 p (.ins C dx (putF "letters" (.ref a) [])) p = some (.ins C dx [("letters", .ref a)]) := by rw [upd_same]; rfl
      have s4 := same_put (o := .ins C dx (putF "letters" (.ref a) [])) s3 p0
      have t4 := SqB.put (o := .ins C dx (putF "letters" (.ref a) [])) t3 hp3
      refine gen_heap fun H4 e4 => ?_
      rw [← e4] at hp4 s4 t4
      -- how many
      refine ⟨_, rfl, a, _, rfl, E0.same s4, _, rfl, p, C, dx, _, rfl, hp4, T.cl, T.nN, (by show 1 < 1000; decide), ?_⟩
      have hp5 : L2.upd H4 p (.ins C dx (putF "length" (.int ((iv ns).length : Nat)) [("letters", .ref a)])) p = some (.ins C dx [("letters", .ref a), ("length", .int (ns.length : Nat))]) := by
        rw [upd_same, pf_ne ne1, List.length_map]
        rfl
      have s5 := same_put (o := .ins C dx (putF "length" (.int ((iv ns).length : Nat)) [("letters", .ref a)])) s4 p0
      have t5 := SqB.put (o := .ins C dx (putF "length" (.int ((iv ns).length : Nat)) [("letters", .ref a)])) t4 hp4
      refine gen_heap fun H5 e5 => ?_
      rw [← e5] at hp5 s5 t5
      -- its kinds
      refine ⟨_, rfl, a, ns, rfl, E0.same s5, by omega, hl, fun ks hk tk H6 s6 tk6 => ?_⟩
      have hp6 := s6 _ _ hp5
      have s06 := s5.trans s6
      have t6 := SqB.same s6 t5
      refine ⟨_, rfl, p, C, dx, _, rfl, hp6, T.cl, T.nK, (by show 2 < 1000; decide), ?_⟩
      have hp7 : L2.upd H6 p (.ins C dx (putF "kinds" (.ref tk) [("letters", .ref a), ("length", .int (ns.length : Nat))])) p = some (.ins C dx [("letters", .ref a), ("length", .int (ns.length : Nat)), ("kinds", .ref tk)]) := by
        rw [upd_same, pf_ne ne2, pf_ne ne5]
        rfl
      have s7 := same_put (o := .ins C dx (putF "kinds" (.ref tk) [("letters", .ref a), ("length", .int (ns.length : Nat))])) s06 p0
      have t7 := SqB.put (o := .ins C dx (putF "kinds" (.ref tk) [("letters", .ref a), ("length", .int (ns.length : Nat))])) t6 hp6
      have k7 := SqT.put (o := .ins C dx (putF "kinds" (.ref tk) [("letters", .ref a), ("length", .int (ns.length : Nat))])) tk6 hp6
      refine gen_heap fun H7 e7 => ?_
      rw [← e7] at hp7 s7 t7 k7
      -- short
      refine ⟨_, rfl, a, ns, rfl, E0.same s7, by omega, fun q H8 s8 q8 => ?_⟩
      have hp8 := s8 _ _ hp7
      have s08 := s7.trans s8
      have t8 := SqB.same s8 t7
      have k8 := WR.Same.seqT s8 k7
      refine ⟨_, rfl, p, C, dx, _, _, rfl, hp8, T.cl, T.nL, lk_eq, ?_⟩
      refine ⟨_, _, .tup q8.sq (dp_iv _), .tup t8.sq (dp_iv _), shaped_ints _, shaped_ints _, ?_⟩
      rw [eqv_ints]
      refine ⟨_, rfl, p, C, dx, _, rfl, hp8, T.cl, T.nS, (by show 3 < 1000; decide), ?_⟩
      have hp9 : L2.upd H8 p (.ins C dx (putF "is_short" (.bl (decide (Fr.shr ns = ns))) [("letters", .ref a), ("length", .int (ns.length : Nat)), ("kinds", .ref tk)])) p = some (.ins C dx [("letters", .ref a), ("length", .int (ns.length : Nat)), ("kinds", .ref tk), ("is_short", .bl (decide (Fr.shr ns = ns)))]) := by
        rw [upd_same, pf_ne ne3, pf_ne ne6, pf_ne ne8]
        rfl
      have s9 := same_put (o := .ins C dx (putF "is_short" (.bl (decide (Fr.shr ns = ns))) [("letters", .ref a), ("length", .int (ns.length : Nat)), ("kinds", .ref tk)])) s08 p0
      have t9 := SqB.put (o := .ins C dx (putF "is_short" (.bl (decide (Fr.shr ns = ns))) [("letters", .ref a), ("length", .int (ns.length : Nat)), ("kinds", .ref tk)])) t8 hp8
      have k9 := SqT.put (o := .ins C dx (putF "is_short" (.bl (decide (Fr.shr ns = ns))) [("letters", .ref a), ("length", .int (ns.length : Nat)), ("kinds", .ref tk)])) k8 hp8
      refine gen_heap fun H9 e9 => ?_
      rw [← e9] at hp9 s9 t9 k9
      -- short round
      refine ⟨_, rfl, a, ns, rfl, E0.same s9, by omega, hl.nz, fun q2 Ha sa qa => ?_⟩
      have hpa := sa _ _ hp9
      have s0a := s9.trans sa
      have ta := SqB.same sa t9
      have ka := WR.Same.seqT sa k9
      refine ⟨_, rfl, p, C, dx, _, _, rfl, hpa, T.cl, T.nL, lk_eq, ?_⟩
      refine ⟨_, _, .tup qa.sq (dp_iv _), .tup ta.sq (dp_iv _), shaped_ints _, shaped_ints _, ?_⟩
      rw [eqv_ints]
      refine ⟨_, rfl, p, C, dx, _, rfl, hpa, T.cl, T.nR, (by show 4 < 1000; decide), ?_⟩
      refine k _ (same_put s0a p0) ⟨dx, a, tk, ks, ?_, SqB.put ta hpa, SqT.put ka hpa, hk⟩
      rw [upd_same, pf_ne ne4, pf_ne ne7, pf_ne ne9, pf_ne ne10]
      rfl
end
end W13
set_option Elab.async false
set_option linter.all false
set_option maxRecDepth 100000
set_option maxHeartbeats 2000000
namespace W13
open PySem L2 PySem.Spec PyProof.Rows WR WB
abbrev sEq : Stmt := inClass (top 40) 1
def spEq (K : PySem.W.Frag) (C : Addr) : Sp := fun vs H Q _ => ∃ (p q : Addr) (ns ms : List Int), vs = [.ref p, .ref q] ∧ WordAt K C H p ns ∧ WordAt K C H q ms ∧ Q (.bl (decide (ns = ms))) H
theorem Lts.app {ns ms : List Int} (h : Lts ns) (k : Lts ms) : Lts (ns ++ ms) := fun x hx => by
  rcases List.mem_append.mp hx with e | e
  · exact h x e
  · exact k x e
theorem Lts.shr {ns : List Int} (h : Lts ns) : Lts (Fr.shr ns) := fun x hx => h x (Fr.shr_mem hx)
theorem WordAt.tyx {K : PySem.W.Frag} {mg : Str → Option Value} {C : Addr} {H : Hp} {p : Addr} {ns : List Int} (h : WordAt K C H p ns) (T : TxW K mg C) : TyX K H (.ref p) (.ref C) := by
  obtain ⟨dx, tl, tk, ks, h1, _⟩ := h
  exact .base (.ins h1 T.cl T.ca T.cn T.ct T.cm)
theorem kit_self {K : PySem.W.Frag} (C : Addr) : PySem.W.kitOne K (.ref C) (.ref C) = some true := by
  unfold PySem.W.kitOne
  rw [if_pos (by simp)]
structure MkW (P : Program) (w : World) (K : PySem.W.Frag) (mg : Str → Option Value) (base : Heap) (C : Addr) : Prop where
  ex : ∃ (f : Addr) (fd : FuncData), Mk K C f ∧ FnOk P w K mg base CX0 4 f fd ["self", "letters"] (spInit K C) ∧ Binds K fd ["self", "letters"] []
section
variable {X : Cx} {C : Addr} {p pos : Pos} {e : Expr} {es : List Expr} {t : TA} {j : Nat}
theorem pe_word (M : MkW X.prog X.w X.K X.mg X.base C) (T : TxW X.K X.mg C) (hr : Room j X.A) (hkj : 5 ≤ j) (hg : Gl X "Word") (ha : PA X (e :: es) t)
    (he : starEach (e :: es) X.env = (false, eval e X.env) :: starEach es X.env := by rfl) (hpl : (backTo pos (starEach es X.env)).any (·.1) = false := by rfl) :
    PE X (.Call (.Name "Word" p) (e :: es) [] pos) (tMake C (spInit X.K C) [] E0 t) := by
  obtain ⟨f, fd, M, F, hb⟩ := M.ex
  exact pe_make M F (hr.mono hkj) hg T.mgW hb .nil pass0 ha (by decide) he hpl
end
section
variable {P : Program} {w : World} {K : PySem.W.Frag} {mg : Str → Option Value} {base : Heap}
theorem scEq : FnScope ["self", "other"] ["self", "other"] (defScope sEq) := ⟨rfl, rfl, rfl, by decide +kernel, rfl, by decide +kernel, by decide +kernel⟩
theorem ok_eq {C f : Addr} {fd : FuncData} (F : Fun K "__eq__" "Word.__eq__" sEq f fd) (T : TxW K mg C) : FnOk P w K mg base CX0 1 f fd ["self", "other"] (spEq K C) := by
  refine F.ok scEq (fun vs H Q E h => ?_) (fun cdv A outer s H vs Q E hr h => ?_)
  · obtain ⟨p, q, ns, ms, rfl, _⟩ := h
    rfl
  · obtain ⟨p, q, ns, ms, rfl, W1, W2, k⟩ := h
    refine ⟨_, pss_one (ps_ret (pe_and (pe_callB call_isi (by rfl) T.isin (by decide +kernel) (pa_cons (pv 1) (pa_cons (pe_glob (v := .ref C) (by rfl) T.mgW rfl) pa_nil)))
      (pe_one (pe_cmpR (op_eqD hr.units) (pe_fld (pv 0) rfl) (pe_fld (pv 1) rfl) (nomark _))))), ?_⟩
    refine ⟨_, rfl, _, _, _, _, _, rfl, .own C, W2.tyx T, kit_self C, _, rfl, ?_⟩
    refine iteT ?_
    obtain ⟨dx, tl, tk, ks, h1, h2, h3, h4⟩ := W1
    obtain ⟨dx', tl', tk', ks', h1', h2', h3', h4'⟩ := W2
    refine ⟨_, rfl, p, C, dx, _, _, rfl, h1, T.cl, T.nL, wf_letters, _, rfl, q, C, dx', _, _, rfl, h1', T.cl, T.nL, wf_letters, ?_⟩
    refine ⟨_, _, .tup h2.sq (dp_iv _), .tup h2'.sq (dp_iv _), shaped_ints _, shaped_ints _, ?_⟩
    rw [eqv_ints]
    exact k
end
end W13
set_option Elab.async false
set_option linter.all false
set_option maxRecDepth 100000
set_option maxHeartbeats 2000000
namespace W13
open PySem L2 WR WB
abbrev sJar : Stmt := top 62
abbrev sDraw : Stmt := top 63
/-- at a: a hand, of which at most n cells were begun -/
def HandAt (H : Hp) (a c : Addr) (n : Nat) : Prop := ∃ (ns : List Int) (i r : Int), H a = some (.lst [.ref c, .int i, .int r]) ∧ H c = some (.lst (ns.map V.int)) ∧ c ≠ a ∧ ns.length ≤ 1000 ∧ 0 ≤ i ∧ i ≤ (n : Int) ∧ 0 ≤ r
/-- all but what is at a stands as it did -/
def Kept (a : Addr) (H H' : Hp) : Prop := ∀ b o, b ≠ a → H b = some o → H' b = some o
theorem Kept.refl {a : Addr} {H : Hp} : Kept a H H := fun _ _ _ e => e
theorem Kept.trans {a : Addr} {H H1 H2 : Hp} (h1 : Kept a H H1) (h2 : Kept a H1 H2) : Kept a H H2 := fun b o n e => h2 b o n (h1 b o n e)
theorem Kept.upd {a : Addr} {H : Hp} {o : HO} : Kept a H (upd H a o) := fun b u n e => by rw [upd_ne n]; exact e
theorem Kept.new {a p : Addr} {H H' : Hp} {o : HO} (k : Kept a H H') (hp : H' p = none) : Kept a H (L2.upd H' p o) := fun b u n e => by
  rw [upd_ne (ne_of_none (k b u n e) hp)]
  exact k b u n e
theorem HandAt.put {H : Hp} {a c : Addr} {ns : List Int} {i r : Int} {n : Nat} (hC : H c = some (.lst (ns.map V.int))) (hca : c ≠ a) (hl : ns.length ≤ 1000) (i0 : 0 ≤ i) (hi : i ≤ (n : Int)) (r0 : 0 ≤ r) :
    HandAt (L2.upd H a (.lst [.ref c, .int i, .int r])) a c n := ⟨ns, i, r, upd_same, by rw [upd_ne hca]; exact hC, hca, hl, i0, hi, r0⟩
def spHand (K : PySem.W.Frag) : Sp := fun vs H Q _ => ∃ (a : Addr) (ns : List Int), vs = [.ref a] ∧ SqL K H a (ns.map V.int) ∧ ns.length ≤ 1000 ∧
  ∀ (H' : Hp) (p c : Addr), Same H H' → H p = none → H c = none → HandAt H' p c 0 → Q (.ref p) H'
def spTake : Sp := fun vs H Q _ => ∃ (a c : Addr) (m : Int) (n : Nat), vs = [.ref a, .int m] ∧ HandAt H a c n ∧ n ≤ 10000 ∧ 0 < m ∧ m.natAbs < 2 ^ 200 ∧
  ∀ (H' : Hp) (q : Int), 0 ≤ q → q < m → HandAt H' a c (n + 1) → Kept a H H' → Q (.int q) H'
theorem dpInts {K : PySem.W.Frag} {H : Hp} : ∀ ns : List Int, DpAll K H (ns.map V.int) (ns.map PyData.int)
  | [] => .nil
  | n :: r => .cons (.int n) (dpInts r)
structure TxL (mg : Str → Option Value) : Prop where
  int : mg "int" = none
  len : mg "len" = none
  abs : mg "abs" = none
section
variable {P : Program} {w : World} {K : PySem.W.Frag} {mg : Str → Option Value} {base : Heap}
theorem scHand : FnScope ["_law_script", "_law_cell"] ["_law_script"] (defScope sJar) := ⟨rfl, rfl, rfl, by decide +kernel, rfl, by decide +kernel, by decide +kernel⟩
theorem ok_hand {f : Addr} {fd : FuncData} (F : Fun K "_law_pen" "_law_pen" sJar f fd) (T : TxL mg) : FnOk P w K mg base CX0 1 f fd ["_law_script"] (spHand K) := by
  refine F.ok scHand (fun vs H Q E h => ?_) (fun cdv A outer s H vs Q E hr h => ?_)
  · obtain ⟨a, ns, rfl, _⟩ := h
    rfl
  · obtain ⟨a, ns, rfl, hS, hlen, k⟩ := h
    refine ⟨_, pss_one (ps_ret (pe_lst (pa_cons (pe_lc (own := [("_law_cell", 1)]) (g := gName 1) (tt := tYes) rfl scHand.nd (pi_list (pe_slice sl_list (pv 0) po_none (po_some pe_int)))
      (blkOk_by (N := ["_law_script", "_law_cell"]) (sc := defScope sJar) (by decide +kernel)) (fun _ _ _ _ _ => pg_name (i := 1) scHand.nd rfl (Or.inl rfl)) (fun _ _ _ _ _ => pts_nil)
      (fun _ _ _ _ _ => pe_callTy call_int1 (by rfl) T.int (by decide +kernel) (pa_cons (pv 1) pa_nil))) (pa_cons pe_int (pa_cons pe_int pa_nil))))), ?_⟩
    refine ⟨_, rfl, 62, rfl, a, ns.map V.int, rfl, hS, fun p hp => ?_⟩
    refine ⟨p, rfl, ⟨_, SqL.of upd_same⟩, fun D hD => ?_⟩
    have hDp : D ≠ p := fun e => by
      rw [e, upd_same] at hD
      cases hD
    have hD0 : H D = none := by
      rw [upd_ne hDp] at hD
      exact hD
    have hc : cutV (ns.map V.int) none (some 62) = (ns.take 62).map V.int := by
      unfold cutV
      rw [List.map_take, List.length_map]
      have e0 : HT.sIx ns.length 0 none = 0 := rfl
      rw [e0, List.drop_zero]
      have e1 : HT.sIx ns.length ns.length (some 62) = min 62 ns.length := by
        unfold HT.sIx
        simp
        try omega
      rw [e1, Nat.sub_zero]
      by_cases h : 62 ≤ ns.length
      · rw [Nat.min_eq_left h]
      · rw [Nat.min_eq_right (by omega), List.take_of_length_le (by simp), List.take_of_length_le (by simp; omega)]
    refine lc_list (K := K) (a := p) (xs := (ns.take 62).map V.int) (fun i H' => H' D = some (.lst (((ns.take 62).take i).map V.int)) ∧ H' p = some (.lst ((ns.take 62).map V.int)) ∧ Same H H') ⟨upd_same, ?_, ?_⟩ (fun i H' _ q => SqL.of q.2.1) ?_ ?_
    · rw [upd_ne hDp.symm, upd_same, hc]
    · intro b o e
      rw [upd_ne (ne_of_none e hD0), upd_ne (ne_of_none e hp)]
      exact e
    · intro i x H' hi q
      obtain ⟨z, hz, rfl⟩ : ∃ z, (ns.take 62)[i]? = some z ∧ x = V.int z := by
        rw [List.getElem?_map] at hi
        cases e : (ns.take 62)[i]? with
        | none =>
          rw [e] at hi
          cases hi
        | some z =>
          rw [e] at hi
          exact ⟨z, rfl, (Option.some.inj hi).symm⟩
      have hli : i < (ns.take 62).length := (List.getElem?_eq_some_iff.mp hz).1
      have hl60 : (ns.take 62).length ≤ 62 := by rw [List.length_take]; omega
      refine ⟨rfl, ?_⟩
      refine yes_te ?_
      refine ⟨_, rfl, .inl ⟨z, rfl, _, q.1, Evl.sz_lt (by rw [List.length_map, List.length_take]; omega), ?_⟩⟩
      refine ⟨?_, ?_, ?_⟩
      · rw [upd_same]
        congr 2
        have ez : (ns.take 62)[i] = z := (List.getElem?_eq_some_iff.mp hz).2
        rw [List.take_succ_eq_append_getElem hli, ez, List.map_append]
        rfl
      · rw [upd_ne hDp.symm]
        exact q.2.1
      · intro b o e
        rw [upd_ne (ne_of_none e hD0)]
        exact q.2.2 b o e
    · intro H' q
      refine ⟨by show 3 ≤ sizeLine; decide, fun l hl => ?_⟩
      have hlD : D ≠ l := ne_of_none q.1 hl
      have hl0 : H l = none := by
        cases e : H l with
        | none => rfl
        | some o => rw [q.2.2 l o e] at hl; cases hl
      refine k _ l D (fun b o e => by rw [upd_ne (ne_of_none e hl0)]; exact q.2.2 b o e) hl0 hD0 ?_
      have q1 := q.1
      rw [List.length_map, List.take_length] at q1
      exact ⟨ns.take 62, 0, 0, upd_same, by rw [upd_ne hlD]; exact q1, hlD, by rw [List.length_take]; omega, Int.le_refl _, Int.le_refl _, Int.le_refl _⟩
theorem scTake : FnScope ["_law_pen_here", "_law_many", "_law_rest", "_law_at", "_law_cell", "_law_mixed_here"] ["_law_pen_here", "_law_many"] (defScope sDraw) := ⟨rfl, rfl, rfl, by decide +kernel, rfl, by decide +kernel, by decide +kernel⟩
theorem ok_take {f : Addr} {fd : FuncData} (F : Fun K "_law_draw" "_law_draw" sDraw f fd) (T : TxL mg) : FnOk P w K mg base CX0 1 f fd ["_law_pen_here", "_law_many"] spTake := by
  refine F.ok scTake (fun vs H Q E h => ?_) (fun cdv A outer s H vs Q E hr h => ?_)
  · obtain ⟨a, c, m, n, rfl, _⟩ := h
    rfl
  · obtain ⟨a, c, m, n, rfl, ⟨ns, i, r, hA, hC, hca, hlen, i0, hi, r0⟩, hn, m0, hm, k⟩ := h
    refine ⟨_, pss_cons (ps_if (pt_cmpR op_gt (pe_ix ix_list (pv 0) pe_int (fun _ _ => rfl)) pe_int (nomark _))
        (pss_cons (ps_set (i := 2) scTake.nd rfl (Or.inl rfl) (pe_callTy call_int1 (by rfl) T.int (by decide +kernel) (pa_cons (pe_ix ix_list (pv 0) pe_int (fun _ _ => rfl)) pa_nil)))
        (pss_cons (ps_asg (pe_op op_fdivW (pv 2) (pv 1)) (pg_sub (pv 0) pe_int set_list))
        (pss_one (ps_ret (pe_op op_mod (pe_callTy call_int1 (by rfl) T.int (by decide +kernel) (pa_cons (pv 2) pa_nil)) (pv 1)))))) pss_nil)
      (pss_cons (ps_set (i := 3) scTake.nd rfl (Or.inl rfl) (pe_ix ix_list (pv 0) pe_int (fun _ _ => rfl)))
      (pss_cons (ps_asg (pe_op op_add (pv 3) pe_int) (pg_sub (pv 0) pe_int set_list))
      (pss_cons (ps_set (i := 4) scTake.nd rfl (Or.inl rfl) (pe_op op_add (pe_op op_mul pe_int (pv 3)) pe_int))
      (Evl.pss_cut (ps_if (pt_cmpR (op_neD hr.units) (pe_ix ix_list (pv 0) pe_int (fun _ _ => rfl)) (pe_lst pa_nil) (nomark _))
        (pss_one (ps_set (i := 4) scTake.nd rfl (Or.inl rfl) (pe_ix ix_list (pe_ix ix_list (pv 0) pe_int (fun _ _ => rfl)) (pe_op op_mod (pe_callTy call_int1 (by rfl) T.int (by decide +kernel) (pa_cons (pv 3) pa_nil)) (pe_callB call_len_seq (by rfl) T.len PySem.boot_len (pa_cons (pe_ix ix_list (pv 0) pe_int (fun _ _ => rfl)) pa_nil))) (fun _ _ => rfl)))) pss_nil)
      (Evl.pss_cut (ps_if (PW.pt (pw_and (pt_cmpR op_lt (pv 3) (pe_callB call_len_seq (by rfl) T.len PySem.boot_len (pa_cons (pe_ix ix_list (pv 0) pe_int (fun _ _ => rfl)) pa_nil)) (nomark _)) (pw_and1 (pt_cmpR op_ge (pe_callB call_abs (by rfl) T.abs (by decide +kernel) (pa_cons (pv 4) pa_nil)) (pe_op op_pow pe_int pe_int) (nomark _)))))
        (pss_cons (ps_set (i := 2) scTake.nd rfl (Or.inl rfl) (pe_op op_add (pe_op op_mul pe_int (pe_op op_sub (pe_callB call_abs (by rfl) T.abs (by decide +kernel) (pa_cons (pv 4) pa_nil)) (pe_op op_pow pe_int pe_int))) (pe_callTy call_int1 (by rfl) T.int (by decide +kernel) (pa_cons (pe_cmpR op_lt (pv 4) pe_int (nomark _)) pa_nil))))
        (pss_cons (ps_asg (pe_op op_fdivW (pe_callTy call_int1 (by rfl) T.int (by decide +kernel) (pa_cons (pv 2) pa_nil)) (pv 1)) (pg_sub (pv 0) pe_int set_list))
        (pss_one (ps_ret (pe_op op_mod (pe_callTy call_int1 (by rfl) T.int (by decide +kernel) (pa_cons (pv 2) pa_nil)) (pv 1)))))) pss_nil)
      (pss_cons (ps_set (i := 5) scTake.nd rfl (Or.inl rfl) (pe_op op_mod (pe_callTy call_int1 (by rfl) T.int (by decide +kernel) (pa_cons (pe_op op_pow (pe_op op_add (pe_op op_add (pe_op op_mod (pe_callTy call_int1 (by rfl) T.int (by decide +kernel) (pa_cons (pv 4) pa_nil)) pe_int) (pe_op op_mul pe_int (pv 3))) pe_int) pe_int) pa_nil)) pe_int))
      (pss_cons (ps_set (i := 5) scTake.nd rfl (Or.inl rfl) (pe_op op_mod (pe_callTy call_int1 (by rfl) T.int (by decide +kernel) (pa_cons (pe_op op_pow (pe_op op_add (pe_op op_add (pe_op op_mul (pv 5) (pe_op op_add (pe_op op_mul pe_int (pv 3)) pe_int)) (pe_op op_mul (pe_op op_mul pe_int (pv 3)) (pv 3))) pe_int) pe_int) pa_nil)) pe_int))
      (pss_one (ps_ret (pe_op op_mod (pe_callTy call_int1 (by rfl) T.int (by decide +kernel) (pa_cons (pe_op op_fdiv (pv 5) pe_int) pa_nil)) (pv 1)))))))))))
      , ?_⟩
    have hdv : ∀ x : Int, CDivW x m := fun x => wide_div m0 hm (by decide) (by decide)
    -- if hand[2] > 0
    refine ⟨_, rfl, a, _, 2, _, rfl, rfl, SqL.of hA, rfl, _, _, rfl, rfl, _, rfl, ?_⟩
    refine ite2 (fun hp => ?_) (fun _ => ?_)
    · refine ⟨_, rfl, a, _, 2, _, rfl, rfl, SqL.of hA, rfl, .inl ⟨_, rfl, ?_⟩⟩
      refine ⟨_, rfl, _, rfl, _, _, rfl, rfl, hdv _, _, rfl, a, _, 2, 2, rfl, rfl, hA, rfl, ?_⟩
      refine ⟨_, rfl, .inl ⟨_, rfl, _, rfl, _, _, rfl, rfl, m0, ?_⟩⟩
      exact k _ (r % m) (Int.emod_nonneg _ (by omega)) (Int.emod_lt_of_pos _ m0) (HandAt.put hC hca hlen i0 (by omega) (Int.ediv_nonneg r0 (by omega))) Kept.upd
    -- at = hand[1]; hand[1] = at + 1; cell = ..
    refine ⟨_, rfl, a, _, 1, _, rfl, rfl, SqL.of hA, rfl, ?_⟩
    refine ⟨_, rfl, _, _, rfl, rfl, _, rfl, a, _, 1, 1, rfl, rfl, hA, rfl, ?_⟩
    refine ⟨_, rfl, _, _, rfl, rfl, .inl ⟨by decide, by decide⟩, _, _, rfl, rfl, ?_⟩
    -- H1: the heap behind this
    obtain ⟨H1, eH1⟩ : ∃ H1, H1 = upd H a (.lst [.ref c, .int (i + 1), .int r]) := ⟨_, rfl⟩
    have kH : Kept a H H1 := by rw [eH1]; exact Kept.upd
    have hA1 : H1 a = some (.lst [.ref c, .int (i + 1), .int r]) := by rw [eH1]; exact upd_same
    have hC1 : H1 c = some (.lst (ns.map V.int)) := by rw [eH1, upd_ne hca]; exact hC
    show Evl.tCut _ _ _ _ (upd H a (.lst [.ref c, .int (i + 1), .int r]))
    rw [← eH1]
    refine ⟨fun σ' H' => Same H1 H' ∧ ∃ cell : Int, σ' = [some (.ref a), some (.int m), none, some (.int i), some (.int cell), none], ?_, ?_⟩
    · refine ⟨_, rfl, a, _, 0, _, rfl, rfl, SqL.of hA1, rfl, Nat.zero_le _, fun p hp => ?_⟩
      have hcp : c ≠ p := ne_of_none hC1 hp
      have hap : a ≠ p := ne_of_none hA1 hp
      have sm : Same H1 (upd H1 p (.lst [])) := fun b o e => by rw [upd_ne (ne_of_none e hp)]; exact e
      refine ⟨.list (ns.map PyData.int), .list [], .lst (SqL.of (sm _ _ hC1)) (dpInts ns), .lst (SqL.of upd_same) .nil, PySem.W.ke_shaped_ints ns, rfl, _, rfl, ?_⟩
      refine ite2 (fun hne => ?_) (fun _ => ?_)
      · have hn0 : 0 < ns.length := by
          cases ns with
          | nil => exact absurd hne (by decide)
          | cons x xs => exact Nat.succ_pos _
        have hl0 : (0 : Int) < (((ns.map V.int).length : Nat) : Int) := by rw [List.length_map]; omega
        have hj0 : 0 ≤ i % (((ns.map V.int).length : Nat) : Int) := Int.emod_nonneg _ (by omega)
        have hj1 : i % (((ns.map V.int).length : Nat) : Int) < (((ns.map V.int).length : Nat) : Int) := Int.emod_lt_of_pos _ hl0
        obtain ⟨j, hj⟩ : ∃ j : Nat, i % (((ns.map V.int).length : Nat) : Int) = (j : Int) := ⟨(i % (((ns.map V.int).length : Nat) : Int)).toNat, by omega⟩
        have hjl : j < ns.length := by rw [List.length_map] at hj1 hj; omega
        refine ⟨_, rfl, a, _, 0, _, rfl, rfl, SqL.of (sm _ _ hA1), rfl, _, rfl, .inl ⟨_, rfl, ?_⟩⟩
        refine ⟨_, rfl, a, _, 0, _, rfl, rfl, SqL.of (sm _ _ hA1), rfl, c, _, rfl, .inl (SqL.of (sm _ _ hC1)), _, _, rfl, rfl, hl0, c, _, _, .int ns[j], rfl, rfl, SqL.of (sm _ _ hC1), ?_, ?_⟩
        · rw [hj]
          exact atI_nat (by rw [List.getElem?_map, List.getElem?_eq_getElem hjl]; rfl)
        · exact ⟨sm, ns[j], rfl⟩
      · exact ⟨sm, _, rfl⟩
    · rintro σ' H2 ⟨sm, cell, rfl⟩
      have hA2 := sm _ _ hA1
      have hC2 := sm _ _ hC1
      have kH2 : Kept a H H2 := fun b o e q => sm b o (kH b o e q)
      -- a great cell: what is left of it
      refine ⟨fun σ' H' => σ' = [some (.ref a), some (.int m), none, some (.int i), some (.int cell), none] ∧ H' = H2, ?_, ?_⟩
      · refine ⟨_, rfl, _, rfl, a, _, 0, _, rfl, rfl, SqL.of hA2, rfl, c, _, rfl, .inl (SqL.of hC2), _, _, rfl, rfl, _, rfl, ?_⟩
        refine ite2 (fun _ => ?_) (fun _ => ?_)
        · refine ⟨_, rfl, cell, rfl, _, _, rfl, rfl, ⟨by decide, by decide, by decide⟩, _, _, rfl, rfl, _, rfl, ?_⟩
          refine ite2 (fun hge => ?_) (fun _ => ⟨rfl, rfl⟩)
          have hge' := of_decide_eq_true hge
          refine ⟨_, rfl, cell, rfl, _, _, rfl, rfl, ⟨by decide, by decide, by decide⟩, _, _, rfl, rfl, _, _, rfl, rfl, .inl ⟨by decide, by decide⟩, _, rfl, _, _, rfl, rfl, .inr ⟨_, rfl, _, _, rfl, rfl, ?_⟩⟩
          have hr2 : ∀ b : Bool, 0 ≤ 2 * ((if cell < 0 then -cell else cell) - (10 : Int) ^ Int.toNat 18) + (if b = true then 1 else 0) := by
            intro b
            have e1 : (if b = true then (1 : Int) else 0) ≥ 0 := by cases b <;> decide
            have e2 : (10 : Int) ^ Int.toNat 18 ≤ (if cell < 0 then -cell else cell) := hge'
            omega
          refine ⟨_, rfl, .inl ⟨_, rfl, _, rfl, _, _, rfl, rfl, hdv _, _, rfl, a, _, 2, 2, rfl, rfl, hA2, rfl, ?_⟩⟩
          refine ⟨_, rfl, .inl ⟨_, rfl, _, rfl, _, _, rfl, rfl, m0, ?_⟩⟩
          exact k _ _ (Int.emod_nonneg _ (by omega)) (Int.emod_lt_of_pos _ m0) (HandAt.put hC2 hca hlen (by omega) (by omega) (Int.ediv_nonneg (hr2 _) (by omega))) (kH2.trans Kept.upd)
        · exact ⟨rfl, rfl⟩
      · rintro σ' H3 ⟨rfl, rfl⟩
        have hin : i ≤ 10000 := by omega
        have b1 : 0 ≤ cell % 2147483587 := Int.emod_nonneg _ (by decide)
        have b2 : cell % 2147483587 < 2147483587 := Int.emod_lt_of_pos _ (by decide)
        refine ⟨_, rfl, .inl ⟨_, rfl, _, _, rfl, rfl, (by decide : (0 : Int) < 2147483587), _, rfl, _, _, rfl, rfl, .inl ⟨by decide, by decide⟩, _, _, rfl, rfl, _, _, rfl, rfl, _, _, rfl, rfl, ⟨by decide, by decide, ?_⟩, ?_⟩⟩
        · show (cell % 2147483587 + 40127 * i + 7129).natAbs < 2 ^ 64
          have e : (2 : Nat) ^ 64 = 18446744073709551616 := by decide
          rw [e]
          omega
        have hb : ∀ x : Int, ((x % 2147483563) * (2 * i + 2213) + 56123 * i * i + 60029).natAbs < 2 ^ 64 := by
          intro x
          have b3 : 0 ≤ x % 2147483563 := Int.emod_nonneg _ (by decide)
          have b4 : x % 2147483563 < 2147483563 := Int.emod_lt_of_pos _ (by decide)
          have e : (2 : Nat) ^ 64 = 18446744073709551616 := by decide
          have c1 : 0 ≤ (x % 2147483563) * (2 * i + 2213) := Int.mul_nonneg b3 (by omega)
          have c2 : (x % 2147483563) * (2 * i + 2213) ≤ 2147483563 * 22213 := Int.mul_le_mul (by omega) (by omega) (by omega) (by omega)
          have c3 : 0 ≤ 56123 * i * i := Int.mul_nonneg (by omega) i0
          have c4 : 56123 * i * i ≤ 561230000 * 10000 := Int.mul_le_mul (by omega) hin i0 (by omega)
          rw [e]
          omega
        have hc : ∀ x : Int, CMul (x % 2147483563) (2 * i + 2213) := by
          intro x
          have b3 : 0 ≤ x % 2147483563 := Int.emod_nonneg _ (by decide)
          have b4 : x % 2147483563 < 2147483563 := Int.emod_lt_of_pos _ (by decide)
          exact .inl ⟨by omega, by omega⟩
        refine .inl ⟨_, rfl, _, _, rfl, rfl, (by decide : (0 : Int) < 2147483563), ?_⟩
        refine ⟨_, rfl, _, rfl, _, _, rfl, rfl, .inl ⟨by decide, by decide⟩, _, _, rfl, rfl, _, _, rfl, rfl, hc _, _, rfl, _, _, rfl, rfl, .inl ⟨by decide, by decide⟩, _, rfl, _, _, rfl, rfl, .inl ⟨by omega, by omega⟩, _, _, rfl, rfl, _, _, rfl, rfl, _, _, rfl, rfl, ⟨by decide, by decide, hb _⟩, ?_⟩
        refine .inl ⟨_, rfl, _, _, rfl, rfl, (by decide : (0 : Int) < 2147483629), ?_⟩
        refine ⟨_, rfl, _, _, rfl, rfl, ⟨by decide, by decide⟩, .inl ⟨_, rfl, _, rfl, _, _, rfl, rfl, m0, ?_⟩⟩
        exact k _ _ (Int.emod_nonneg _ (by omega)) (Int.emod_lt_of_pos _ m0) ⟨ns, i + 1, r, hA2, hC2, hca, hlen, by omega, by omega, r0⟩ kH2
end
end W13
set_option Elab.async false
set_option linter.all false
set_option maxRecDepth 100000
set_option maxHeartbeats 2000000
namespace W13
open PySem L2 PySem.Spec PyProof.Rows WR WB
structure EqW (P : Program) (w : World) (K : PySem.W.Frag) (mg : Str → Option Value) (base : Heap) (C : Addr) : Prop where
  ex : ∃ (f : Addr) (fd : FuncData), FnOk P w K mg base CX0 1 f fd ["self", "other"] (spEq K C) ∧ PySem.W.findIn K (.ref C) "__eq__" = some (some (.ref f)) ∧ PySem.W.isFn K (.ref f) = true ∧ Binds K fd ["self", "other"] []
end W13
set_option Elab.async false
set_option linter.all false
set_option maxRecDepth 100000
set_option maxHeartbeats 2000000
namespace NeK
open PySem PySem.Spec PyProof.Rows PySem.SeqAt
section
variable {M : Model} {prog : Program} {w : World} {A : Around} {E : Value → Shared → Prop} {s : Shared} {K : PySem.W.Frag} {x y f C : Addr} {ox oy : Obj} {od od' : Option Obj}
theorem ne_entry (hu : A.units < cLine) (X : K.In s.heap) (I : PySem.W.InstAt s.heap x ox C od) (hs : PySem.W.findIn K (.ref C) "__eq__" = some (some (.ref f))) (hf : PySem.W.isFn K (.ref f) = true) {Q : Fin → Shared → Prop}
    (hcall : wpAny (model prog w) A (call (.ref f) [.ref x, .ref y]) (fun v s' => ∃ b, v = .bool b ∧ Q (.done (.ret (.bool (!b)))) s') E s) :
    wpAny (model prog w) A (Builtin.«object.__ne__» ⟨[.ref x, .ref y], []⟩) Q E s := by
  unfold Builtin.«object.__ne__»
  repeat (first
    | with_reducible refine wpAny_cRoomFor hu ?_
    | (refine wpAny_bind (m := callSpecialIfBound? (.ref x) (Str.ofString "__eq__") [.ref y])
        (PySem.W.ifBound_K X I hs hf (wpAny_mono hcall (fun r s' hr => by
          obtain ⟨b, rfl, hq⟩ := hr
          repeat (first | exact hq | exact wpAny_pure hq | exact wpAny_truthy_bool hq | (refine wpAny_bind (m := truthy (.bool _)) (wpAny_truthy_bool ?_)) | wp_step)) fun _ _ e => e)))
    | wp_step)
theorem ifBound_ne {args : List Value} {Q : Option Value → Shared → Prop} (X : K.In s.heap) (I : PySem.W.InstAt s.heap x ox C od) (hs : PySem.W.findIn K (.ref C) "__ne__" = some (some (.builtin "object.__ne__")))
    (h : wpAny M A (call (.builtin "object.__ne__") (.ref x :: args)) (fun v => Q (some v)) E s) : wpAny M A (callSpecialIfBound? (.ref x) "__ne__" args) Q E s := by
  simp only [callSpecialIfBound?, bindSpecialIfBound?]
  refine wpAny_holding (wpAny_bind (wpAny_bind (wpAny_bind (I.type.here ((PySem.W.looks_findIn X hs).here ?_)))))
  refine wpAny_bind (wpAny_askSetting (wpAny_ite ?_))
  have fin : wpAny M A (call (.builtin "object.__ne__") ([.ref x] ++ args) >>= fun v => pure (some v)) Q E s := wpAny_bind (wpAny_mono h (fun v s' h' => wpAny_pure h') fun _ _ h' => h')
  split
  · exact wpAny_bind (wpAny_of_eq (F.cmp_object.ne.bind _) (wpAny_pure (by exact fin)))
  · exact wpAny_tryCatch (wpAny_bind (wpAny_of_eq (F.cmp_object.ne.bind _) (wpAny_pure (by exact fin))))
theorem rc_ne (hu : A.units + 1 < cLine) (X : K.In s.heap) (I : PySem.W.InstAt s.heap x ox C od) (I' : PySem.W.InstAt s.heap y oy C od') (hm : PySem.W.mroIn K C (.type "object") = some true) (hs : PySem.W.findIn K (.ref C) "__eq__" = some (some (.ref f))) (hf : PySem.W.isFn K (.ref f) = true)
    (hn : PySem.W.findIn K (.ref C) "__ne__" = some (some (.builtin "object.__ne__"))) {Q : Value → Shared → Prop}
    (hcall : wpAny (model prog w) A.in1 (call (.ref f) [.ref x, .ref y]) (fun v s' => ∃ b, v = .bool b ∧ Q (.bool (!b)) s') E s) :
    wpAny (model prog w) A (richCompare .NotEq (.ref x) (.ref y)) Q E s := by
  have one : wpAny (model prog w) A (tryCompare (.ref x) "__ne__" (.ref y)) (fun r s' => ∃ b, r = some (.bool b) ∧ Q (.bool b) s') E s := by
    unfold tryCompare
    refine wpAny_bind (ifBound_ne X I hn (wpAny_call (codeAny_call_builtin F.cmp_object.ne.plain F.cmpEntry_ne (PySem.W.check_slot F.cmpKind_ne F.cmpSplit_ne (I.type.andThen (PySem.W.looks_mroIn X hm)) (F.cmpArgs_ne _ _)
      (ne_entry (A := A.in1) hu X I hs hf (wpAny_mono hcall (fun v s' hv => ?_) fun _ _ e => e))))))
    obtain ⟨b, rfl, hq⟩ := hv
    first | exact ⟨b, rfl, wpAny_pure ⟨_, rfl, hq⟩⟩ | exact ⟨b, rfl, wpAny_pure (wpAny_pure ⟨_, rfl, hq⟩)⟩ | exact ⟨b, rfl, _, rfl, hq⟩
  unfold richCompare
  simp only [oneThing_ref]
  refine wpAny_holding (wpAny_bind (wpAny_cRoomFor (Nat.lt_of_succ_lt hu) ?_))
  rw [cmpInfo_NotEq]
  dsimp only
  refine wpAny_bind (I.type.here (wpAny_bind (I'.type.here ?_)))
  rw [show (Value.ref C != Value.ref C) = false from by simp]
  simp only [Bool.false_eq_true, if_false]
  refine wpAny_bind (wpAny_pure ?_)
  simp only [Bool.false_eq_true, if_false]
  refine wpAny_bind (wpAny_mono one (fun v s' hv => ?_) fun _ _ e => e)
  obtain ⟨b, rfl, hq⟩ := hv
  first | exact wpAny_pure hq | exact wpAny_pure (wpAny_pure hq) | exact hq
end
end NeK
namespace W13
open PySem L2 PySem.Spec PyProof.Rows WR WB
end W13
set_option Elab.async false
set_option linter.all false
set_option maxRecDepth 100000
set_option maxHeartbeats 2000000
namespace W13
open PySem L2 PySem.Spec PyProof.Rows WR WB
abbrev sPick : Stmt := top 64
def Drew (a c : Addr) (n : Nat) (H H' : Hp) : Prop := HandAt H' a c n ∧ Kept a H H'
theorem HandAt.mono {H : Hp} {a c : Addr} {m n : Nat} (h : HandAt H a c m) (l : m ≤ n) : HandAt H a c n := by
  obtain ⟨ns, i, r, h1, h2, h3, h4, h5, h6, h7⟩ := h
  exact ⟨ns, i, r, h1, h2, h3, h4, h5, by omega, h7⟩
theorem HandAt.off {H : Hp} {a c p : Addr} {n : Nat} {o : HO} (h : HandAt H a c n) (h1 : p ≠ a) (h2 : p ≠ c) : HandAt (L2.upd H p o) a c n := by
  obtain ⟨ns, i, r, h3, h4, h5⟩ := h
  exact ⟨ns, i, r, by rw [upd_ne h1.symm]; exact h3, by rw [upd_ne h2.symm]; exact h4, h5⟩
theorem HandAt.ne {H : Hp} {a c p : Addr} {n : Nat} (h : HandAt H a c n) (hp : H p = none) : p ≠ a := by
  obtain ⟨ns, i, r, h1, _⟩ := h
  exact (ne_of_none h1 hp).symm
theorem HandAt.neC {H : Hp} {a c p : Addr} {n : Nat} (h : HandAt H a c n) (hp : H p = none) : p ≠ c := by
  obtain ⟨ns, i, r, h1, h2, _⟩ := h
  exact (ne_of_none h2 hp).symm
theorem HandAt.new {H : Hp} {a c p : Addr} {n : Nat} {o : HO} (h : HandAt H a c n) (hp : H p = none) : HandAt (L2.upd H p o) a c n := h.off (h.ne hp) (h.neC hp)
theorem Drew.refl {a c : Addr} {n : Nat} {H : Hp} (h : HandAt H a c n) : Drew a c n H H := ⟨h, Kept.refl⟩
theorem Drew.trans {a c : Addr} {m n : Nat} {H H1 H2 : Hp} (h1 : Drew a c m H H1) (h2 : Drew a c n H1 H2) : Drew a c n H H2 := ⟨h2.1, h1.2.trans h2.2⟩
theorem Drew.new {a c p : Addr} {n : Nat} {H H1 : Hp} {o : HO} (h : Drew a c n H H1) (hp : H1 p = none) : Drew a c n H (L2.upd H1 p o) := ⟨h.1.new hp, h.2.new hp⟩
theorem Drew.mono {a c : Addr} {m n : Nat} {H H1 : Hp} (h : Drew a c m H H1) (l : m ≤ n) : Drew a c n H H1 := ⟨h.1.mono l, h.2⟩
/-- an object that was not there at first may change -/
theorem Drew.put {a c p : Addr} {n : Nat} {H H1 : Hp} {o : HO} (h : Drew a c n H H1) (h0 : H p = none) (h1 : p ≠ a) (h2 : p ≠ c) : Drew a c n H (L2.upd H1 p o) :=
  ⟨h.1.off h1 h2, fun b u nb e => by rw [upd_ne (ne_of_none e h0)]; exact h.2 b u nb e⟩
theorem Drew.back {a c p : Addr} {n : Nat} {H H1 : Hp} (h : Drew a c n H H1) (hp : H1 p = none) : H p = none := by
  cases e : H p with
  | none => rfl
  | some o =>
    have q := h.2 p o (h.1.ne hp) e
    rw [hp] at q
    cases q
theorem HandAt.same {H H' : Hp} {a c : Addr} {n : Nat} (h : HandAt H a c n) (s : Same H H') : HandAt H' a c n := by
  obtain ⟨ns, i, r, h1, h2, h3⟩ := h
  exact ⟨ns, i, r, s _ _ h1, s _ _ h2, h3⟩
theorem Drew.same {a c : Addr} {n : Nat} {H H1 H2 : Hp} (h : Drew a c n H H1) (s : Same H1 H2) : Drew a c n H H2 := ⟨h.1.same s, fun b o nb e => s b o (h.2 b o nb e)⟩
def spPick : Sp := fun vs H Q _ => ∃ (a c p : Addr) (xs : List V) (n : Nat), vs = [.ref a, .ref p] ∧ HandAt H a c n ∧ n ≤ 10000 ∧ p ≠ a ∧ H p = some (.lst xs) ∧ 0 < xs.length ∧ xs.length ≤ 1000 ∧ ∀ v ∈ xs, ∀ H', Drew a c (n + 1) H H' → Q v H'
section
variable {P : Program} {w : World} {K : PySem.W.Frag} {mg : Str → Option Value} {base : Heap}
theorem scPick : FnScope ["_law_pen_here", "_law_some"] ["_law_pen_here", "_law_some"] (defScope sPick) := ⟨rfl, rfl, rfl, by decide +kernel, rfl, by decide +kernel, by decide +kernel⟩
theorem ok_pick {f : Addr} {fd : FuncData} (F : Fun K "_law_pick" "_law_pick" sPick f fd) (GT : Cal P w K mg base "_law_draw" 1 ["_law_pen_here", "_law_many"] spTake) (T : TxL mg) : FnOk P w K mg base CX0 2 f fd ["_law_pen_here", "_law_some"] spPick := by
  refine F.ok scPick (fun vs H Q E h => ?_) (fun cdv A outer s H vs Q E hr h => ?_)
  · obtain ⟨a, c, p, xs, n, rfl, _⟩ := h
    rfl
  · obtain ⟨a, c, p, xs, n, rfl, hH, hn, hpa, hp, h0, h1, k⟩ := h
    refine ⟨_, pss_one (ps_ret (pe_ix ix_list (pv 1) (pe_cal GT hr (by decide) (by rfl) (pa_cons (pv 0) (pa_cons (pe_callB call_len_seq (by rfl) T.len PySem.boot_len (pa_cons (pv 1) pa_nil)) pa_nil))) (fun _ _ => rfl))), ?_⟩
    refine ⟨_, rfl, _, rfl, _, rfl, p, _, rfl, .inl (SqL.of hp), a, c, _, n, rfl, hH, hn, by omega, ?_, ?_⟩
    · have : (((xs.length : Nat) : Int)).natAbs ≤ 1000 := by omega
      exact Nat.lt_of_le_of_lt this (by decide)
    · intro H' q q0 q1 hH' hK
      obtain ⟨j, rfl⟩ : ∃ j : Nat, q = (j : Int) := ⟨q.toNat, by omega⟩
      have hj : j < xs.length := by omega
      refine ⟨p, xs, _, xs[j], rfl, rfl, SqL.of (hK _ _ hpa hp), atI_nat (List.getElem?_eq_getElem hj), ?_⟩
      exact k _ (List.getElem_mem hj) H' ⟨hH', hK⟩
end
end W13
set_option Elab.async false
set_option linter.all false
set_option maxRecDepth 100000
set_option maxHeartbeats 2000000
set_option Elab.async false
set_option linter.all false
set_option maxRecDepth 100000
set_option maxHeartbeats 2000000
set_option Elab.async false
set_option linter.all false
set_option maxRecDepth 100000
set_option maxHeartbeats 2000000
namespace MText
open PySem PySem.StrLaws Builtin Builtin.Str
/-- the places of c -/
def places (x : Str) (c a n : Nat) : List Nat := (List.range' a n).filter fun i => decide (x.cps.toList[i]? = some c)
end MText
set_option Elab.async false
set_option linter.all false
set_option maxRecDepth 100000
set_option maxHeartbeats 4000000
namespace W13
open PySem L2 PySem.Spec PyProof.Rows WR
end W13
set_option Elab.async false
set_option linter.all false
set_option maxRecDepth 100000
set_option maxHeartbeats 1000000
namespace RG
open PySem L2 PySem.Spec PyProof.Rows
/-- a def's promise where no repr is under way -/
structure FnG (P : Program) (w : World) (K : PySem.W.Frag) (mg : Str → Option Value) (base : Heap) (k : Nat) (f : Addr) (fd : FuncData) (ps : List Str) (sp : Sp) : Prop where
  many : ∀ zs G R S, sp zs G R S → zs.length = ps.length
  does : ∀ (B : Around) (fr : List Env) (t : Shared) (G : Hp) (as : Args) (us : List Value) (zs : List V) (R : VK) (S : XK), B.guards = some [] → Room k B → Env0 P w K mg base B fr t G → BindsTo t fd as (ps.zip us) → Vals zs us → sp zs G R S →
    codeAny (model P w) B (.call (.ref f) as) (CR CX0 fr P w G t R S) t
theorem FnG.mono {P : Program} {w : World} {K : PySem.W.Frag} {mg : Str → Option Value} {base : Heap} {j k : Nat} {f : Addr} {fd : FuncData} {ps : List Str} {sp : Sp} (F : FnG P w K mg base j f fd ps sp) (h : j ≤ k) : FnG P w K mg base k f fd ps sp :=
  ⟨F.many, fun B fr t G as us zs R S g room => F.does B fr t G as us zs R S g (room.mono h)⟩
theorem fnG_of {P : Program} {w : World} {K : PySem.W.Frag} {mg : Str → Option Value} {base : Heap} {k : Nat} {f : Addr} {nm qual : Str} {params : Arguments} {body : List Stmt} {scope : Scope} {dV kV doc pm cdv ct oc : Value} {an od : Option Addr} {osl : Array (Option Value)} {N ps : List Str} {sp : Sp}
    (lk : K.lookup f = some ⟨oc, od, .func (PySem.W.fnOf nm qual params body scope dV kV doc pm an cdv ct), osl⟩) (cd : PySem.W.codeIn K cdv qual = true) (S : FnScope N ps scope) (many : ∀ zs G R E, sp zs G R E → zs.length = ps.length)
    (B0 : ∀ (B : Around) (fr : List Env) (t : Shared) (G : Hp) (zs : List V) (R : VK) (E : XK), B.guards = some [] → Room k (B.deeper (envOfC qual scope t.heap.objs.size f cdv)) → sp zs G R E →
      ∃ tb, PSs (cxOf CX0 P w K mg base N qual scope f cdv B fr t G E) body tb ∧ tb { nx := fun _ G' => R .non G', rt := R } (L2.start N zs) G) :
    FnG P w K mg base (k + 1) f (PySem.W.fnOf nm qual params body scope dV kV doc pm an cdv ct) ps sp where
  many := many
  does := by
    intro B fr t G as us zs R E hg room e0 bind rel asked
    have n1 := many _ _ _ _ asked
    have old : ∀ b o, base.get? b = some o → t.heap.get? b = some o := fun b o e => (e0.bs b o e).1
    have KX := e0.mod.kin.keeps old
    have names : ∀ y ∈ ps.zip us, scope.names.lookup y.1 = some .local ∨ (scope.names.lookup y.1 = some .cell ∧ ((cellsFrom (t.heap.objs.size + 1) scope.names []).lookup y.1).isSome = true) := by
      rintro ⟨a, b⟩ hy
      exact (S.par a (List.of_mem_zip hy).1).imp id fun c => ⟨c, PySem.W.cellsFrom_some _ _ _ (Or.inl c)⟩
    refine codeAny_call_function room.depth (KX _ _ lk) rfl S.co S.gen rfl (PySem.W.codeRec_of KX cd) (bind _ _ _ _ (wpAny_newFunctionEnv_cells S.kind names fun env he t1 x => ?_))
    subst he
    refine ⟨(e0.mod.nolimit.keeps old).keeps x.toInCall.keep, codeAny_func ?_⟩
    obtain ⟨tb, run, read⟩ := B0 B fr t G zs R E hg (room.deeper _) asked
    have I0 := inv_start (CX := CX0) (P := P) (w := w) (E := E) S room.hd e0 n1 rel x
    refine wpAny_mono (run.run [] t1 _ G _ I0 read) ?_ fun _ _ z => z
    intro fl t2 z
    cases fl with
    | next =>
      obtain ⟨τ, G2, J, q⟩ := z
      exact ⟨.non, G2, J.os, J.bare, J.base, J.hok, rfl, q⟩
    | ret u =>
      obtain ⟨v, τ, G2, J, rv, q⟩ := z
      exact ⟨v, G2, J.os, J.bare, J.base, J.hok, rv, q⟩
    | brk => exact z.elim fun _ z => z.elim fun _ z => False.elim z.2
    | cont => exact z.elim fun _ z => z.elim fun _ z => False.elim z.2
theorem Fun.okG {P : Program} {w : World} {K : PySem.W.Frag} {mg : Str → Option Value} {base : Heap} {x qual : Str} {st : Stmt} {f : Addr} {fd : FuncData} {N ps : List Str} {k : Nat} {sp : Sp} (F : L2.Fun K x qual st f fd) (S : FnScope N ps (defScope st)) (many : ∀ zs G R E, sp zs G R E → zs.length = ps.length)
    (B0 : ∀ (cdv : Value) (B : Around) (fr : List Env) (t : Shared) (G : Hp) (zs : List V) (R : VK) (E : XK), B.guards = some [] → Room k (B.deeper (envOfC qual (defScope st) t.heap.objs.size f cdv)) → sp zs G R E →
      ∃ tb, PSs (cxOf CX0 P w K mg base N qual (defScope st) f cdv B fr t G E).nox (defBody st) tb ∧ tb { nx := fun _ G' => R .non G', rt := R } (L2.start N zs) G) : FnG P w K mg base (k + 1) f fd ps sp := by
  obtain ⟨oc, od, kV, doc, pm, an, cdv, ct, osl, rfl, lk, cd⟩ := F.ex
  refine fnG_of lk cd S many fun B fr t G zs R E hg room asked => ?_
  obtain ⟨tb, run, read⟩ := B0 cdv B fr t G zs R E hg room asked
  exact ⟨tb, run.nox, read⟩
/-- a def that the module's name x holds -/
structure CalG (P : Program) (w : World) (K : PySem.W.Frag) (mg : Str → Option Value) (base : Heap) (x : Str) (k : Nat) (ps : List Str) (sp : Sp) : Prop where
  ex : ∃ (f : Addr) (fd : FuncData), FnG P w K mg base k f fd ps sp ∧ mg x = some (.ref f) ∧ PySem.W.keepIn K (.ref f) = true ∧ Binds K fd ps []
section
variable {X : Cx} {x : Str} {k j : Nat} {ps : List Str} {sp : Sp} {p pos : Pos} {e : Expr} {es : List Expr} {ta : TA}
theorem pe_calG (C : CalG X.prog X.w X.K X.mg X.base x k ps sp) (hg : X.A.guards = some []) (room : Room j X.A) (hkj : k ≤ j) (gl : Gl X x) (ha : PA X (e :: es) ta) (hdb : (x == ("__debug__" : Str)) = false := by decide)
    (h1 : starEach (e :: es) X.env = (false, eval e X.env) :: starEach es X.env := by rfl) (h2 : (backTo pos (starEach es X.env)).any (·.1) = false := by rfl) : PE X (.Call (.Name x p) (e :: es) [] pos) (tCall sp [] E0 ta) := by
  obtain ⟨f, fd, F, at_, kp, bn⟩ := C.ex
  constructor
  intro pins s σ H Q I ask
  refine wpAny_Call_Name_kw (ld_glob I gl at_ (PySem.W.callWith_K (h₀ := X.base) I.mod.kin kp (thn (ha.run pos pins s σ H _ I ask) fun us s1 z => ?_) h1 h2) hdb)
  obtain ⟨zs, H1, I1, rel, q⟩ := z
  have q : sp (zs ++ []) H1 Q E0 := q
  rw [List.append_nil] at q
  have lu : us.length = ps.length := by rw [← rel.length]; exact F.many _ _ _ _ q
  have bd := bn s1 us I1.kIn (by rw [List.append_nil]; exact lu)
  rw [List.append_nil] at bd
  refine ⟨I1.kIn, wpAny_call (codeAny_mono ((F.mono hkj).does X.A X.stack s1 H1 ⟨us, []⟩ us zs Q E0 hg room I1.env0 bd rel q) ?_)⟩
  intro r s2 hq
  match r, hq with
  | .ok (.ret u), hq => exact I1.after hq
/-- repr of data -/
def rRepr (K : PySem.W.Frag) : List V → Hp → VK → Prop := fun xs H Q => ∃ (a : Addr) (d : PyData), xs = [.ref a] ∧ Dp K H (.ref a) d ∧ d.showable = true ∧ d.hasDict = false ∧ d.depth ≤ 30 ∧ d.shown.length ≤ sizeLine ∧ Q (.str d.shown) H
theorem call_repr (hg : X.A.guards = some []) (hu : X.A.units + 40 < cLine) : CallR X (.builtin "repr") (rRepr X.K) := by
  intro pins s σ H xs us Q I rel ask
  obtain ⟨a, d, rfl, hd, hs, hn, hdep, hz, q⟩ := ask
  obtain ⟨u, rfl, ru⟩ := vals1 rel
  cases ru
  obtain ⟨as, rd⟩ := Dp.reads I d _ _ hd rfl
  exact repr_of_reads' rd hs (fun z => by rw [hn] at z; cases z) hg (by omega) (fun _ _ e => e) (fun h' u tk hk => ⟨.str _, H, I.kept hk, ⟨u, rfl⟩, q⟩) hz
end
end RG
set_option Elab.async false
set_option linter.all false
set_option maxRecDepth 100000
set_option maxHeartbeats 1000000
namespace RG
open PySem L2 PySem.Spec PyProof.Rows
section
variable {P : Program} {w : World} {K : PySem.W.Frag} {s : Shared} {a : Addr} {vs : List Value} {ns : List Int}
/-- the list that the script is -/
def scriptO (vs : List Value) : Obj := { cls := .type "list", data := .seq vs.toArray }
/-- the script is told, if the module has it not -/
def startH (K : PySem.W.Frag) (a : Addr) (vs : List Value) (ns : List Int) : Hp := fun b => if b = a ∧ K.lookup a = none then some (.frz (scriptO vs) (.lst (ns.map V.int))) else none
theorem startH_some {b : Addr} {u : HO} (h : startH K a vs ns b = some u) : b = a ∧ K.lookup a = none ∧ u = .frz (scriptO vs) (.lst (ns.map V.int)) := by
  unfold startH at h
  split at h
  · rename_i c
    exact ⟨c.1, c.2, (Option.some.inj h).symm⟩
  · cases h
theorem startH_seq (KX : K.In s.heap) (at_ : s.heap.get? a = some (scriptO vs)) (whole : IntsAre vs ns) (few : ns.length ≤ sizeLine) : SqL K (startH K a vs ns) a (ns.map V.int) := by
  cases hk : K.lookup a with
  | none => exact Or.inl (Or.inr ⟨scriptO vs, if_pos ⟨rfl, hk⟩⟩)
  | some o =>
    have same : o = scriptO vs := Option.some.inj ((KX a o hk).symm.trans at_)
    subst same
    exact Or.inr ⟨_, vs.toArray, _, hk, rfl, rfl, rfl, by rw [List.size_toArray, whole.length]; exact few, by simpa using vals_ints whole⟩
end
end RG
set_option Elab.async false
set_option linter.all false
set_option maxRecDepth 100000
set_option maxHeartbeats 4000000
namespace WS
open PySem PySem.Spec PyProof.Rows L2
section
variable {P : Program} {w : World} {A : Around} {E : Value → Shared → Prop} {s : Shared}
/-- the heap with the new set, and with the walk of the list besides -/
abbrev hSet (w : World) (s : Shared) : Heap := s.heap.push (bareSet w)
abbrev hWalk (w : World) (s : Shared) (l : Addr) : Heap := (hSet w s).push { cls := .type "list_iterator", data := .fields #[.ref l, .int 0 0] }
theorem bare_zero {h : Heap} {a : Addr} {ns : List Int} (e : h.get? a = some (bareSet w)) : SetR w h a (fun j => decide (j ∈ ns.take 0)) 0 := setR_new_at e
/-- what set.__init__ leaves -/
def Filled (w : World) (s : Shared) (ns : List Int) (t : Shared) : Prop :=
  ∃ (g : Heap) (k m : Nat), t = { s with heap := g, toks := k } ∧ SetR w g s.heap.objs.size (fun j => decide (j ∈ ns)) m ∧ m ≤ ns.length ∧ ∀ b o, s.heap.get? b = some o → g.get? b = some o
theorem init_list {l : Addr} {its : Array Value} {ns : List Int} (quiet : A.handled = none) (hl : s.heap.IsList l its) (hit : IntsAre its.toList ns) (few : ns.length + 1 < scanBound) :
    wpAny (model P w) A (Builtin.«set.__init__» ⟨[.ref s.heap.objs.size, .ref l], []⟩) (fun r t => r = .done (.ret .none) ∧ Filled w s ns t) E { s with heap := hSet w s } := by
  have many : its.size = ns.length := by have z := hit.length; rwa [Array.length_toList] at z
  have new : (hSet w s).get? s.heap.objs.size = some (bareSet w) := Heap.get?_push_size _ rfl
  have old : ∀ {b o}, s.heap.get? b = some o → (hSet w s).get? b = some o := fun e => Heap.get?_push_of_some _ e
  have ty : Shared.TypeIs { s with heap := hSet w s } (.ref s.heap.objs.size) "set" := ⟨_, new, rfl⟩
  have hl1 : (hSet w s).IsList l its := hl.push _
  have lo : l < s.heap.objs.size := by obtain ⟨_, e, _⟩ := hl; exact Heap.lt_size e
  have sz : (hSet w s).objs.size = s.heap.objs.size + 1 := Heap.size_push ..
  obtain ⟨⟨c0, d0, x0, o0⟩, at0, cls0, n0, dat0⟩ := id hl1
  simp only at cls0 dat0
  subst cls0 dat0
  have u1 := PySem.F.sub_list_set
  have u2 := PySem.F.sub_list_frozenset
  have u3 : (Value.type "list" == Value.type "dict") = false := rfl
  unfold Builtin.«set.__init__» noKeywords Builtin.Frozenset.updateFrom
  generalize hid : pyIter = it
  wp_walk
  subst hid
  refine wpAny_pyIter_list hl1 (wpAny_bind (wpAny_runValue ?_))
  have off : s.heap.objs.size ∉ [(hSet w s).objs.size, l] := by
    intro m
    rcases List.mem_cons.mp m with m | m
    · exact absurd (m.trans sz) (Nat.ne_of_lt (Nat.lt_succ_self _))
    · exact absurd (List.mem_singleton.mp m).symm (Nat.ne_of_lt lo)
  have apart : l ≠ (hSet w s).objs.size := fun e => absurd (e.trans sz) (Nat.ne_of_lt (Nat.lt_succ_of_lt lo))
  refine set_update_ints (Walks.list (by simpa using quiet) _ l apart its).toS _ off ns many few (fun i v q => ?_) (its.size - 0) 0 { s with heap := hWalk w s l } (by omega) (Nat.zero_le _) ⟨⟨_, Heap.get?_push_size _ rfl, rfl, rfl⟩, hl1.push _⟩ ⟨0, Nat.le_refl 0, bare_zero (Heap.get?_push_of_some _ new)⟩ fun t m mv le S => ?_
  · have lt : i < ns.length := by rw [← many]; exact (Array.getElem?_eq_some_iff.mp q).1
    obtain ⟨k, e⟩ := hit.int_at i v (by rw [Array.getElem?_toList]; exact q)
    rw [List.getD_eq_getElem?_getD, List.getElem?_eq_getElem lt] at e
    exact ⟨_, k, List.getElem?_eq_getElem lt, e⟩
  · obtain ⟨g, q, d, k, z⟩ := t
    obtain rfl : q = s.gens := mv.gens
    obtain rfl : d = s.drawn := mv.drawn
    obtain rfl : z = s.os := mv.os
    refine wpAny_pure (wpAny_pure ⟨rfl, g, k, m, rfl, S, by rw [← many]; exact le, fun b o e => ?_⟩)
    have lb : b < s.heap.objs.size := Heap.lt_size e
    refine mv.heap b o (fun h => ?_) (Heap.get?_push_of_some _ (old e))
    rcases List.mem_cons.mp h with h | h
    · exact absurd h (Nat.ne_of_lt lb)
    · exact absurd ((List.mem_singleton.mp h).trans sz) (Nat.ne_of_lt (Nat.lt_succ_of_lt lb))
/-- set(xs) of a list of ints -/
theorem set_list {l : Addr} {its : Array Value} {ns : List Int} {Q : Value → Shared → Prop} (quiet : A.handled = none) (hl : s.heap.IsList l its) (hit : IntsAre its.toList ns) (few : ns.length + 1 < scanBound)
    (fin : ∀ t, Filled w s ns t → Q (.ref s.heap.objs.size) t) : wpAny (model P w) A (call (.type "set") [.ref l]) Q E s := by
  have F := PySem.F.called_set
  obtain ⟨top, below, mro⟩ := F.mro
  have f1 := F.made; have f2 := F.sub; have f3 := F.notType; have f4 := F.canCreate
  have f5 := PySem.F.typeCall_set_1 (.ref l)
  have new : (hSet w s).get? s.heap.objs.size = some (bareSet w) := Heap.get?_push_size _ rfl
  have ty : Shared.TypeIs { s with heap := hSet w s } (.ref s.heap.objs.size) "set" := ⟨_, new, rfl⟩
  have f6 := F.init.lookup; have f7 := F.init.bind (.ref s.heap.objs.size)
  refine wpAny_call (codeAny_of_tree (show wpAny _ _ (callAny (.type "set") _) _ _ _ from wpAny_pure ⟨Code.quiet_builtin _ (by decide +kernel), codeAny_builtin PySem.F.entry_type_call ?_⟩))
  rw [Around.under_plain (weight_type_call_type "set" [.ref l] []) rfl]
  repeat (any_goals (first | assumption | wp_step))
  refine codeAny_mono (code_set_led1 (.ref l) (E := E) (Q₁ := fun v t => v = .ref s.heap.objs.size ∧ t = { s with heap := hSet w s }) ⟨rfl, rfl⟩) ?_
  rintro (e | fl) t ht
  · exact ht
  cases fl with
  | next => exact ht.elim
  | brk => exact ht.elim
  | cont => exact ht.elim
  | ret v =>
  obtain ⟨rfl, rfl⟩ := ht
  repeat (any_goals (first | assumption | wp_step))
  refine codeAny_mono (codeAny_call_builtin (R := wants (fun v t => v = .none ∧ Filled w s ns t) E) F.init.plain PySem.F.entry_set_init (check_set_init_1 ty ?_)) ?_
  · refine wpAny_mono (init_list (by simpa using quiet) hl hit few) ?_ fun _ _ z => z
    rintro _ t ⟨rfl, z⟩
    exact ⟨rfl, z⟩
  rintro (e | fl) t ht
  · exact ht
  cases fl with
  | next => exact ht.elim
  | brk => exact ht.elim
  | cont => exact ht.elim
  | ret v =>
  obtain ⟨rfl, z⟩ := ht
  repeat (any_goals (first | assumption | wp_step))
  exact fin _ z
end
section
variable {X : Cx}
def rSetLI (K : PySem.W.Frag) (w : World) : List V → Hp → VK → Prop := fun xs H Q => ∃ (p : Addr) (ns : List Int), xs = [.ref p] ∧ SqL K H p (ns.map V.int) ∧ ns.length ≤ 1000 ∧
  ∀ (D : Addr) (L : List Int), H D = none → L.Nodup → (∀ k, k ∈ L ↔ k ∈ ns) → Q (.ref D) (upd H D (SetO w D (fun j => decide (j ∈ ns)) L.length))
theorem call_setLI (hc : X.calm = true) : CallR X (.type "set") (rSetLI X.K X.w) := by
  intro pins s σ H xs us Q I rel ask
  obtain ⟨p, ns, rfl, hs, few, q⟩ := ask
  obtain ⟨u, rfl, ru⟩ := vals1 rel
  cases ru
  obtain ⟨its, rv, pl, hlen⟩ := I.list hs
  refine set_list (ns := ns) (I.ok.hd hc) pl.isList (by simpa using ints_of_vals rv) (by unfold scanBound; omega) fun t ⟨g, k, m, e, S, le, keep⟩ => ?_
  subst e
  have J := I.laid (t' := k) keep (Nat.le_refl _) (setO_new S)
  obtain ⟨o, es, ep, tb, e1, e2, e3, e4, nd, mem, e5, e6, sz, _⟩ := S
  have z := q s.heap.objs.size (es.toList.map keyOf) (I.hok.fresh (Nat.le_refl _)) nd fun k => by rw [← mem k, decide_eq_true_eq]
  rw [List.length_map, Array.length_toList, sz] at z
  exact ⟨.ref _, _, J, rfl, z⟩
end
end WS
set_option linter.all false
namespace Lt
/-- the row from place p on, read round, is less than that from place q on -/
def Ls (f : Nat → Int) (n p q : Nat) : Prop := ∃ k, k < n ∧ (∀ t, t < k → f (p + t) = f (q + t)) ∧ f (p + k) < f (q + k)
theorem Ls.irr {f n p} : ¬ Ls f n p p := by
  rintro ⟨k, _, _, h⟩
  omega
theorem Ls.trans {f : Nat → Int} {n p q r : Nat} (h1 : Ls f n p q) (h2 : Ls f n q r) : Ls f n p r := by
  obtain ⟨k, hk, e1, l1⟩ := h1
  obtain ⟨m, hm, e2, l2⟩ := h2
  by_cases h : k < m
  · exact ⟨k, hk, fun t ht => (e1 t ht).trans (e2 t (by omega)), by rw [← e2 k h]; exact l1⟩
  · by_cases h' : m < k
    · exact ⟨m, hm, fun t ht => (e1 t (by omega)).trans (e2 t ht), by rw [e1 m h']; exact l2⟩
    · have : k = m := by omega
      subst this
      exact ⟨k, hk, fun t ht => (e1 t ht).trans (e2 t ht), by omega⟩
theorem Ls.total (f : Nat → Int) (n p q : Nat) : Ls f n p q ∨ Ls f n q p ∨ ∀ t, t < n → f (p + t) = f (q + t) := by
  induction n with
  | zero => exact .inr (.inr fun t ht => by omega)
  | succ n ih =>
    rcases ih with ⟨k, hk, e, l⟩ | ⟨k, hk, e, l⟩ | e
    · exact .inl ⟨k, by omega, e, l⟩
    · exact .inr (.inl ⟨k, by omega, e, l⟩)
    · by_cases h : f (p + n) < f (q + n)
      · exact .inl ⟨n, by omega, e, h⟩
      · by_cases h' : f (q + n) < f (p + n)
        · exact .inr (.inl ⟨n, by omega, fun t ht => (e t ht).symm, h'⟩)
        · refine .inr (.inr fun t ht => ?_)
          by_cases htn : t < n
          · exact e t htn
          · have : t = n := by omega
            subst this
            omega
theorem ex_min (f : Nat → Int) (n : Nat) : ∀ m, 0 < m → ∃ p, p < m ∧ ∀ q, q < m → ¬ Ls f n q p := by
  intro m
  induction m with
  | zero => intro h; omega
  | succ m ih =>
    intro _
    by_cases h0 : m = 0
    · subst h0
      exact ⟨0, by omega, fun q hq => by have : q = 0 := by omega
                                         subst this; exact Ls.irr⟩
    · obtain ⟨p, hp, hm⟩ := ih (by omega)
      by_cases h : Ls f n m p
      · refine ⟨m, by omega, fun q hq hl => ?_⟩
        by_cases hqm : q = m
        · subst hqm; exact Ls.irr hl
        · exact hm q (by omega) (hl.trans h)
      · refine ⟨p, by omega, fun q hq => ?_⟩
        by_cases hqm : q = m
        · subst hqm; exact h
        · exact hm q (by omega)
/-- what is left out can't be least -/
def Out (f : Nat → Int) (n p : Nat) : Prop := ∃ q, Ls f n q p
structure Race (f : Nat → Int) (n one other alike : Nat) : Prop where
  a : ∀ p, p < one → Out f n p
  b : ∀ p, p < other → p ≠ one → Out f n p
  ne : one ≠ other
  al : alike ≤ n
  e : ∀ t, t < alike → f (one + t) = f (other + t)
theorem Race.start (f : Nat → Int) (n : Nat) : Race f n 0 1 0 := ⟨fun p h => by omega, fun p h h' => by omega, by omega, Nat.zero_le _, fun t h => by omega⟩
theorem out_run {f : Nat → Int} {n p q alike t : Nat} (h : alike < n) (e : ∀ t, t < alike → f (p + t) = f (q + t)) (l : f (q + alike) < f (p + alike)) (ht : t ≤ alike) : Out f n (p + t) := by
  refine ⟨q + t, alike - t, by omega, fun s hs => ?_, ?_⟩
  · have := e (t + s) (by omega)
    rw [Nat.add_assoc, Nat.add_assoc]
    exact this.symm
  · have e1 : q + t + (alike - t) = q + alike := by omega
    have e2 : p + t + (alike - t) = p + alike := by omega
    rw [e1, e2]
    exact l
theorem Race.one {f n one other alike} (R : Race f n one other alike) (h : alike < n) (l : f (other + alike) < f (one + alike)) :
    Race f n (one + (alike + 1)) (if one + (alike + 1) = other then other + 1 else other) 0 := by
  have A : ∀ p, p < one + (alike + 1) → Out f n p := by
    intro p hp
    by_cases h' : p < one
    · exact R.a p h'
    · obtain ⟨t, rfl⟩ : ∃ t, p = one + t := ⟨p - one, by omega⟩
      exact out_run h R.e l (by omega)
  refine ⟨A, fun p hp hn => ?_, ?_, Nat.zero_le _, fun t ht => by omega⟩
  · by_cases hp1 : p < one + (alike + 1)
    · exact A p hp1
    · split at hp
      · omega
      · by_cases hpo : p = one
        · omega
        · exact R.b p hp hpo
  · split <;> omega
theorem Race.other {f n one other alike} (R : Race f n one other alike) (h : alike < n) (l : f (one + alike) < f (other + alike)) :
    Race f n one (if one = other + (alike + 1) then other + (alike + 1) + 1 else other + (alike + 1)) 0 := by
  have B : ∀ p, p < other + (alike + 1) → p ≠ one → Out f n p := by
    intro p hp hn
    by_cases h' : p < other
    · exact R.b p h' hn
    · obtain ⟨t, rfl⟩ : ∃ t, p = other + t := ⟨p - other, by omega⟩
      exact out_run h (fun t ht => (R.e t ht).symm) l (by omega)
  refine ⟨R.a, fun p hp hn => ?_, ?_, Nat.zero_le _, fun t ht => by omega⟩
  · split at hp
    · exact B p (by omega) hn
    · exact B p hp hn
  · split <;> omega
end Lt
namespace Lt
def rot (xs : List Int) (p : Nat) : List Int := xs.drop p ++ xs.take p
def rd (xs : List Int) (s : Nat) : Int := xs.getD (s % xs.length) 0
theorem rot_length (xs : List Int) (p : Nat) : (rot xs p).length = xs.length := by
  unfold rot
  rw [List.length_append, List.length_drop, List.length_take]
  omega
theorem rot_getD {xs : List Int} {p t : Nat} (hp : p ≤ xs.length) (ht : t < xs.length) : (rot xs p).getD t 0 = rd xs (p + t) := by
  unfold rot rd
  rw [List.getD_eq_getElem?_getD, List.getD_eq_getElem?_getD]
  congr 1
  by_cases h : p + t < xs.length
  · rw [Nat.mod_eq_of_lt h, List.getElem?_append_left (by rw [List.length_drop]; omega), List.getElem?_drop]
  · have e : (p + t) % xs.length = p + t - xs.length := by
      rw [Nat.mod_eq_sub_mod (by omega)]
      by_cases h2 : p + t - xs.length < xs.length
      · exact Nat.mod_eq_of_lt h2
      · omega
    rw [e, List.getElem?_append_right (by rw [List.length_drop]; omega), List.length_drop, List.getElem?_take]
    have h3 : t - (xs.length - p) = p + t - xs.length := by omega
    rw [h3, if_pos (by omega)]
theorem ext_getD {a b : List Int} (hl : a.length = b.length) (h : ∀ t, t < a.length → a.getD t 0 = b.getD t 0) : a = b := by
  apply List.ext_getElem hl
  intro i h1 h2
  have := h i h1
  rw [List.getD_eq_getElem?_getD, List.getD_eq_getElem?_getD, List.getElem?_eq_getElem h1, List.getElem?_eq_getElem h2] at this
  exact this
theorem rot_eq_of {xs : List Int} {p q : Nat} (hp : p ≤ xs.length) (hq : q ≤ xs.length) (h : ∀ t, t < xs.length → rd xs (p + t) = rd xs (q + t)) : rot xs p = rot xs q := by
  refine ext_getD (by rw [rot_length, rot_length]) fun t ht => ?_
  rw [rot_length] at ht
  rw [rot_getD hp ht, rot_getD hq ht, h t ht]
theorem rd_rot {xs : List Int} {p : Nat} (hp : p ≤ xs.length) (h0 : 0 < xs.length) (s : Nat) : rd (rot xs p) s = rd xs (p + s) := by
  have h1 : rd (rot xs p) s = (rot xs p).getD (s % xs.length) 0 := by
    unfold rd
    rw [rot_length]
  rw [h1, rot_getD hp (Nat.mod_lt _ h0)]
  unfold rd
  rw [Nat.add_mod_mod]
theorem rot_rot {xs : List Int} {p q : Nat} (hp : p ≤ xs.length) (hq : q ≤ xs.length) (h0 : 0 < xs.length) : rot (rot xs p) q = rot xs ((p + q) % xs.length) := by
  refine ext_getD (by rw [rot_length, rot_length, rot_length]) fun t ht => ?_
  rw [rot_length, rot_length] at ht
  rw [rot_getD (by rw [rot_length]; exact hq) (by rw [rot_length]; exact ht), rd_rot hp h0, rot_getD (Nat.le_of_lt (Nat.mod_lt _ h0)) ht]
  unfold rd
  rw [Nat.mod_add_mod, Nat.add_assoc]
/-- ms is the least of the turned forms of ns -/
def Least (ns ms : List Int) : Prop := ∃ p, p < max 1 ns.length ∧ ms = rot ns p ∧ ∀ q, q < ns.length → ¬ Ls (rd ns) ns.length q p
theorem Least.ex (ns : List Int) : ∃ ms, Least ns ms := by
  by_cases h : 0 < ns.length
  · obtain ⟨p, hp, hm⟩ := ex_min (rd ns) ns.length ns.length h
    exact ⟨_, p, by omega, rfl, hm⟩
  · exact ⟨_, 0, by omega, rfl, fun q hq => by omega⟩
theorem Least.uniq {ns a b : List Int} (h1 : Least ns a) (h2 : Least ns b) : a = b := by
  obtain ⟨p, hp, rfl, m1⟩ := h1
  obtain ⟨q, hq, rfl, m2⟩ := h2
  by_cases h0 : 0 < ns.length
  · rcases Ls.total (rd ns) ns.length p q with h | h | h
    · exact absurd h (m2 p (by omega))
    · exact absurd h (m1 q (by omega))
    · exact rot_eq_of (by omega) (by omega) h
  · have : p = q := by omega
    rw [this]
theorem Ls.shift {xs : List Int} {j p q : Nat} (hj : j ≤ xs.length) (h0 : 0 < xs.length) : Ls (rd (rot xs j)) xs.length p q ↔ Ls (rd xs) xs.length (j + p) (j + q) := by
  constructor
  · rintro ⟨k, hk, e, l⟩
    refine ⟨k, hk, fun t ht => ?_, ?_⟩
    · have := e t ht
      rw [rd_rot hj h0, rd_rot hj h0] at this
      rw [Nat.add_assoc, Nat.add_assoc]
      exact this
    · rw [rd_rot hj h0, rd_rot hj h0] at l
      rw [Nat.add_assoc, Nat.add_assoc]
      exact l
  · rintro ⟨k, hk, e, l⟩
    refine ⟨k, hk, fun t ht => ?_, ?_⟩
    · rw [rd_rot hj h0, rd_rot hj h0, ← Nat.add_assoc, ← Nat.add_assoc]
      exact e t ht
    · rw [rd_rot hj h0, rd_rot hj h0, ← Nat.add_assoc, ← Nat.add_assoc]
      exact l
theorem Ls.modl {xs : List Int} {p q : Nat} : Ls (rd xs) xs.length (p % xs.length) (q % xs.length) ↔ Ls (rd xs) xs.length p q := by
  have e : ∀ s t, rd xs (s % xs.length + t) = rd xs (s + t) := fun s t => by
    unfold rd
    rw [Nat.mod_add_mod]
  constructor
  · rintro ⟨k, hk, h, l⟩
    exact ⟨k, hk, fun t ht => by rw [← e p, ← e q]; exact h t ht, by rw [← e p, ← e q]; exact l⟩
  · rintro ⟨k, hk, h, l⟩
    exact ⟨k, hk, fun t ht => by rw [e p, e q]; exact h t ht, by rw [e p, e q]; exact l⟩
theorem Least.turn {ns ms : List Int} {j : Nat} (hj : j ≤ ns.length) (h : Least (rot ns j) ms) : Least ns ms := by
  obtain ⟨p, hp, rfl, m⟩ := h
  rw [rot_length] at hp m
  by_cases h0 : 0 < ns.length
  · refine ⟨(j + p) % ns.length, by have := Nat.mod_lt (j + p) h0; omega, rot_rot hj (by omega) h0, fun q hq hl => ?_⟩
    refine m ((q + (ns.length - j)) % ns.length) (Nat.mod_lt _ h0) ?_
    rw [Ls.shift hj h0]
    have e1 : (j + (q + (ns.length - j)) % ns.length) % ns.length = q % ns.length := by
      rw [Nat.add_mod_mod]
      have : j + (q + (ns.length - j)) = q + ns.length := by omega
      rw [this, Nat.add_mod_right]
    rw [← Ls.modl, e1, Ls.modl, ← Ls.modl]
    have := Ls.modl.mpr hl
    rw [Nat.mod_mod] at this
    exact this
  · have : ns = [] := List.length_eq_zero_iff.mp (by omega)
    subst this
    refine ⟨0, by decide, ?_, fun q hq => absurd hq (by simp)⟩
    unfold rot
    simp
theorem Least.turn' {ns ms : List Int} {j : Nat} (hj : j ≤ ns.length) (h : Least ns ms) : Least (rot ns j) ms := by
  obtain ⟨ms', h'⟩ := Least.ex (rot ns j)
  have := h.uniq (h'.turn hj)
  rw [this]
  exact h'
theorem Least.self {ns ms : List Int} (h : Least ns ms) : Least ms ms := by
  obtain ⟨p, hp, e, m⟩ := id h
  by_cases h0 : 0 < ns.length
  · have := h.turn' (j := p) (by omega)
    rw [← e] at this
    exact this
  · have : ns = [] := List.length_eq_zero_iff.mp (by omega)
    subst this
    have : ms = [] := by rw [e]; unfold rot; simp
    rw [this] at h ⊢
    exact h
theorem Least.length {ns ms : List Int} (h : Least ns ms) : ms.length = ns.length := by
  obtain ⟨p, _, e, _⟩ := h
  rw [e, rot_length]
end Lt
set_option Elab.async false
set_option linter.all false
set_option maxRecDepth 100000
set_option maxHeartbeats 1000000
namespace W13
open PySem L2 PySem.Spec PyProof.Rows WR WB
section
variable {X : Cx}
def rCntT (K : PySem.W.Frag) : V → List V → Hp → VK → Prop := fun x xs H Q => ∃ (p : Addr) (ns : List Int) (k : Int), x = .ref p ∧ xs = [.int k] ∧ SqT K H p (iv ns) ∧ Q (.int (ns.count k : Nat)) H
theorem mt_tcount {K : PySem.W.Frag} (hK : X.K = K) : MtR X "tuple.count" (rCntT K) := by
  subst hK
  intro pins s σ H x xs v us Q I rx rxs h
  obtain ⟨p, ns, k, rfl, rfl, hs, q⟩ := h
  cases rx
  obtain ⟨u, rfl, ru⟩ := rxs.one
  obtain ⟨t, rfl⟩ := ru
  obtain ⟨its, rv, ⟨⟨cls, dd, data, sl⟩, ho, hc, n, hd⟩, hlen⟩ := I.tuple hs
  simp only at hc hd
  subst hc hd
  have hi := ints_of_vals rv
  refine call_meets PySem.F.slot_tuple_count ⟨_, ho, rfl⟩ PySem.F.entry_tuple_count (PySem.F.args_tuple_count_2 _ _)
    (SeqAt.tuple_countAt p its.toArray n dd sl (.int k t) (eqk k)) ⟨ho, fun y hy => (eqk_gives hi y (by simpa using hy)).at _ _, ?_⟩
  have ec : its.toArray.toList.countP (eqk k) = ns.count k := eqk_count hi
  refine ⟨.int (ns.count k : Nat), H, I.tok _, ⟨s.toks, ?_⟩, q⟩
  show Value.int ((its.toArray.toList.countP (eqk k) : Nat) : Int) s.toks = Value.int ((ns.count k : Nat) : Int) s.toks
  rw [ec]
def tyB (K : PySem.W.Frag) (x : V) (H : Hp) : Prop := ∃ (a : Addr) (xs : List V), x = .ref a ∧ SqB K H a xs
theorem tyB_ok {K : PySem.W.Frag} (hK : X.K = K) : TyOk X "tuple" (tyB K) := by
  subst hK
  intro pins σ H s x v I r h
  obtain ⟨a, xs, rfl, hB⟩ := h
  cases r
  obtain ⟨its, _, ⟨o1, e1, c1, _⟩, _⟩ := I.tuple hB.sq
  obtain ⟨o, u, e, d⟩ := hB.bare
  have hx : ObjOk X.prog X.w H s.heap a (.frz o u) := I.hok a _ e
  exact ⟨⟨o1, e1, c1⟩, fun b hb => by cases hb; exact ⟨o, hx.1, d⟩⟩
end
theorem WordAt.at {K : PySem.W.Frag} {C : Addr} {H : Hp} {p : Addr} {ns : List Int} (h : WordAt K C H p ns) {m : Str} (h1 : ¬ m = "letters") (h2 : ¬ m = "length") (h3 : ¬ m = "kinds") (h4 : ¬ m = "is_short") (h5 : ¬ m = "is_short_round") :
    ∃ dx fs, H p = some (.ins C dx fs) ∧ fs.lookup m = none := by
  obtain ⟨dx, tl, tk, ks, h, _⟩ := h
  exact ⟨dx, _, h, wf_no h1 h2 h3 h4 h5⟩
theorem make_at {K : PySem.W.Frag} {C : Addr} {H1 : Hp} {q x dx : Addr} {ms : List Int} {G : Hp → Prop} {E : XK} (nx : H1 x = none) (ndx : H1 dx = none) (hq : SqW K H1 q (iv ms)) (hlen : ms.length ≤ 500) (hl : Lts ms) (k : ∀ H', Same H1 H' → WordAt K C H' x ms → G H') :
    spInit K C [.ref x, .ref q] (L2.upd (L2.upd H1 dx (.own x)) x (.ins C dx [])) (fun v H2 => v = .non ∧ G H2) E := by
  have s0 : Same H1 (L2.upd (L2.upd H1 dx (.own x)) x (.ins C dx [])) := fun b o e => by
    rw [upd_ne (ne_of_none e nx), upd_ne (ne_of_none e ndx)]
    exact e
  exact ⟨H1, x, dx, q, ms, rfl, s0, nx, upd_same, hq, hlen, hl, fun H' s' W' => ⟨rfl, k H' s' W'⟩⟩
theorem no_ne {b : Bool} {A B : Prop} (h : b = true) (k : B) : if (!b) = true then A else B := by rw [h]; exact iteF k
inductive All2 {α β : Type} (R : α → β → Prop) : List α → List β → Prop
  | nil : All2 R [] []
  | cons {a : α} {b : β} {as : List α} {bs : List β} (h : R a b) (r : All2 R as bs) : All2 R (a :: as) (b :: bs)
theorem All2.length {α β : Type} {R : α → β → Prop} {as : List α} {bs : List β} (h : All2 R as bs) : as.length = bs.length := by
  induction h with
  | nil => rfl
  | cons _ _ ih => simp [ih]
theorem All2.imp {α β : Type} {R S : α → β → Prop} {as : List α} {bs : List β} (h : All2 R as bs) (k : ∀ a b, R a b → S a b) : All2 S as bs := by
  induction h with
  | nil => exact .nil
  | cons h _ ih => exact .cons (k _ _ h) ih
theorem All2.at {α β : Type} {R : α → β → Prop} {as : List α} {bs : List β} (h : All2 R as bs) : ∀ {i : Nat} {a : α}, as[i]? = some a → ∃ b, bs[i]? = some b ∧ R a b := by
  induction h with
  | nil => intro i a e; simp at e
  | cons h r ih =>
    intro i a e
    cases i with
    | zero => simp at e; subst e; exact ⟨_, by simp, h⟩
    | succ i => simpa using ih (by simpa using e)
theorem All2.mem {α β : Type} {R : α → β → Prop} {as : List α} {bs : List β} (h : All2 R as bs) {a : α} (ha : a ∈ as) : ∃ b, b ∈ bs ∧ R a b := by
  obtain ⟨i, e⟩ := List.mem_iff_getElem?.mp ha
  obtain ⟨b, e2, r⟩ := h.at e
  exact ⟨b, List.mem_of_getElem? e2, r⟩
theorem All2.app {α β : Type} {R : α → β → Prop} {as : List α} {bs : List β} (h : All2 R as bs) {cs : List α} {ds : List β} (k : All2 R cs ds) : All2 R (as ++ cs) (bs ++ ds) := by
  induction h with
  | nil => exact k
  | cons h _ ih => exact .cons h ih
theorem lcM {β : Type} {J : It} {xs : List V} {G : Hp → Prop} (w : Walk J xs.length G (YAt xs)) (ys : List β) (R : Addr → Hp → V → β → Prop) (hst : ∀ D H H' v b, R D H v b → Same H H' → R D H' v b) (hput : ∀ D H ws o v b, H D = some (.lst ws) → R D H v b → R D (L2.upd H D o) v b)
    (hz : xs.length < 40000) (hl : xs.length = ys.length) {g : TG} {te : TE} {vs : List Nat} {σ : L2.St} {H1 : Hp} {Q : VK} (hG : ∀ H, Same H1 H → G H)
    (hs : ∀ (i : Nat) (x : V) (b : β), xs[i]? = some x → ys[i]? = some b → ∀ D H, H1 D = none → (∃ ws, H D = some (.lst ws)) → Same H1 H → ∀ (Qy : V → Hp → Prop), (∀ v H', Same H H' → R D H' v b → Qy v H') →
      g x (wipe σ vs) H fun σ2 H2 => wipe σ2 vs = wipe σ vs ∧ te σ2 H2 Qy)
    (hg : ∀ x σ1 H A B, (∀ σ2 H2, A σ2 H2 → B σ2 H2) → g x σ1 H A → g x σ1 H B)
    (hd : ∀ (D : Addr) H' ws, H1 D = none → Same H1 H' → H' D = some (.lst ws) → All2 (R D H') ws ys → Q (.ref D) H') : tLc (fun _ H R => R J H) g tYes te vs σ H1 Q := by
  intro D hD
  refine lc_it w (fun i H => Same H1 H ∧ ∃ ws, H D = some (.lst ws) ∧ All2 (R D H) ws (ys.take i)) ⟨fun b o e => by rw [upd_ne (ne_of_none e hD)]; exact e, [], upd_same, by simp only [List.take_zero]; exact .nil⟩ (fun i H _ q => hG H q.1) ?_ ?_
  · rintro i x H H' hi ⟨sm, ws, hw, h2⟩ ⟨rfl, hx⟩
    have hi2 : i < ys.length := by omega
    refine hg _ _ _ _ _ (fun σ2 H2 q => ⟨q.1, yes_te q.2⟩) (hs i x ys[i] hx (List.getElem?_eq_getElem hi2) D H' hD ⟨ws, hw⟩ sm _ fun v H2 s2 r => ?_)
    have hw2 := s2 _ _ hw
    have hlen := h2.length
    rw [List.length_take] at hlen
    refine ⟨ws, hw2, Evl.sz_lt (by omega), fun b o e => ?_, ws ++ [v], upd_same, ?_⟩
    · rw [upd_ne (ne_of_none e hD)]
      exact s2 _ _ (sm _ _ e)
    · rw [List.take_succ_eq_append_getElem hi2]
      exact (h2.imp fun v b r => hput D H2 ws _ v b hw2 (hst D _ _ v b r s2)).app (.cons (hput D H2 ws _ v _ hw2 r) .nil)
  · rintro H ⟨sm, ws, hw, h2⟩
    rw [List.take_of_length_le (by omega)] at h2
    exact hd D H ws hD sm hw h2
theorem gName_mono {i : Nat} {x : V} {σ : L2.St} {H : Hp} {A B : L2.St → Hp → Prop} (k : ∀ σ2 H2, A σ2 H2 → B σ2 H2) (h : gName i x σ H A) : gName i x σ H B := k _ _ h
theorem gTup_mono {K : PySem.W.Frag} {i j : Nat} {x : V} {σ : L2.St} {H : Hp} {A B : L2.St → Hp → Prop} (k : ∀ σ2 H2, A σ2 H2 → B σ2 H2) (h : gTup K 2 (gCons (gName i) (gCons (gName j) gNil)) x σ H A) : gTup K 2 (gCons (gName i) (gCons (gName j) gNil)) x σ H B := by
  obtain ⟨a, xs, e1, e2, e3, v, r, e4, v2, r2, e5, e6, h⟩ := h
  exact ⟨a, xs, e1, e2, e3, v, r, e4, v2, r2, e5, e6, k _ _ h⟩
theorem SqT.keptL {K : PySem.W.Frag} {H H' : Hp} {l q : Addr} {vs xs : List V} (hl : H l = some (.lst vs)) (d : Kept l H H') (h : SqT K H q xs) : SqT K H' q xs := by
  rcases h with h | h
  · left
    rcases h with h | ⟨o, h⟩
    · exact .inl (d _ _ (fun z => by rw [z, hl] at h; cases h) h)
    · exact .inr ⟨o, d _ _ (fun z => by rw [z, hl] at h; cases h) h⟩
  · exact .inr h
section
variable {X : Cx} {K : PySem.W.Frag} {T : String} {name : Str} {id : String} {r : V → List V → Hp → VK → Prop} {o e : Expr} {es : List Expr} {to : TE} {t : TA} {apos cpos : Pos}
theorem pe_bmK (hK : X.K = K) (pa : PlainAttrs T) (slot : PySem.Slot T name id) (hty : typeOf (.builtin id) = pure (.type "method_descriptor")) (hm : MtR X id r) (ho : PE X o to) (ha : PA X (e :: es) t)
    (hbase : attributeBase o name X.env (eval o X.env) = eval o X.env := by rfl)
    (hfew : ((backTo cpos (starEach (e :: es) X.env)).all (fun x => !x.1) && (backToKw cpos (keywordEach [] X.env)).all (fun x => x.1.isSome)
      && decide ((e :: es).length + ([] : List Keyword).length + (if ([] : List Keyword).isEmpty then 0 else 1) < 30)) = true := by rfl)
    (hline : (apos.endLine == cpos.line) = true := by rfl) (hs : starEach (e :: es) X.env = (false, eval e X.env) :: starEach es X.env := by rfl) (hplain : (backTo cpos (starEach es X.env)).any (·.1) = false := by rfl) :
    PE X (.Call (.Attribute o name apos) (e :: es) [] cpos) (tBM K T r to t) := by
  subst hK
  exact pe_bm pa slot hty hm ho ha hbase hfew hline hs hplain
end
theorem as_lc {wi : TI} {g : TG} {tt : TT} {te : TE} {gg : TG} {vs : List Nat} {D : Ends} {σ : L2.St} {H : Hp}
    (h : wi σ H fun J H1 => tLc (fun _ H R => R J H) g tt te vs σ H1 fun z H4 => gg z σ H4 D.nx) : tAsg (tLc wi g tt te vs) gg D σ H := h
theorem at_set {σ : L2.St} {H : Hp} {v : V} {i : Nat} {f : L2.St → Hp → Prop} (h : f (σ.set i (some v)) H) : gName i v σ H f := h
theorem call_listK {X : Cx} {K : PySem.W.Frag} (h : X.K = K) : CallR X (.type "list") (fun xs H Q => ∃ p ys, xs = [.ref p] ∧ (SqL K H p ys ∨ SqT K H p ys) ∧ ∀ l, H l = none → Q (.ref l) (L2.upd H l (.lst ys))) := by
  subst h
  exact call_list_of
theorem seq_at {j n : Nat} (h : j < n) : seqIndex? (j : Int) n = some j := by
  unfold seqIndex?
  have h1 : ¬ (j : Int) < 0 := by omega
  simp only [if_neg h1]
  rw [if_pos (by simp; omega), Int.toNat_natCast]
theorem cb_lc {r : List V → Hp → VK → Prop} {wi : TI} {g : TG} {tt : TT} {te : TE} {vs : List Nat} {σ : L2.St} {H : Hp} {Q : VK}
    (h : wi σ H fun J H1 => tLc (fun _ H R => R J H) g tt te vs σ H1 fun y H2 => r [y] H2 Q) : tCB r (tCons (tLc wi g tt te vs) tNil) σ H Q := h
end W13
set_option Elab.async false
set_option linter.all false
namespace Fr
def sub (f : Int → List Int) (xs : List Int) : List Int := (xs.map f).flatten
def cnt (xs : List Int) (k : Int) : Int := (xs.count k : Int) - (xs.count (-k) : Int)
/-- each kind that stands more often forward than backward, or less -/
def bal (xs : List Int) : List (Int × Int) := ((List.range 26).map fun (i : Nat) => ((i : Int) + 1, cnt xs ((i : Int) + 1))).filter fun p => decide (p.2 ≠ 0)
end Fr
set_option Elab.async false
set_option linter.all false
set_option maxRecDepth 100000
set_option maxHeartbeats 1000000
namespace W13
open PySem L2 PySem.Spec PyProof.Rows WR WB
theorem sorted_ext : ∀ (l1 l2 : List Int), l1.Pairwise (· < ·) → l2.Pairwise (· < ·) → (∀ x, x ∈ l1 ↔ x ∈ l2) → l1 = l2
  | [], [], _, _, _ => rfl
  | [], b :: t, _, _, h => absurd ((h b).mpr List.mem_cons_self) (fun q => nomatch q)
  | a :: s, [], _, _, h => absurd ((h a).mp List.mem_cons_self) (fun q => nomatch q)
  | a :: s, b :: t, h1, h2, h => by
    rw [List.pairwise_cons] at h1 h2
    have e : a = b := by
      rcases List.mem_cons.mp ((h a).mp List.mem_cons_self) with e | m
      · exact e
      · rcases List.mem_cons.mp ((h b).mpr List.mem_cons_self) with e | m2
        · exact e.symm
        · have := h2.1 a m
          have := h1.1 b m2
          omega
    subst e
    rw [sorted_ext s t h1.2 h2.2 fun x => ⟨fun hx => ?_, fun hx => ?_⟩]
    · rcases List.mem_cons.mp ((h x).mp (List.mem_cons_of_mem _ hx)) with e | m
      · have := h1.1 x hx
        omega
      · exact m
    · rcases List.mem_cons.mp ((h x).mpr (List.mem_cons_of_mem _ hx)) with e | m
      · have := h2.1 x hx
        omega
      · exact m
theorem cnt_zero {ns : List Int} {k : Int} (h : ¬ ∃ x ∈ ns, k = (x.natAbs : Int)) (hk : 0 < k) : Fr.cnt ns k = 0 := by
  have h1 : ns.count k = 0 := List.count_eq_zero.mpr fun q => h ⟨k, q, by omega⟩
  have h2 : ns.count (-k) = 0 := List.count_eq_zero.mpr fun q => h ⟨-k, q, by omega⟩
  unfold Fr.cnt
  rw [h1, h2]
  rfl
theorem bal_kinds {ns ks : List Int} (h : Lts ns) (hk : kindsOk ns ks) : (ks.map fun k => (k, Fr.cnt ns k)).filter (fun p => decide (p.2 ≠ 0)) = Fr.bal ns := by
  have e : Fr.bal ns = (((List.range 26).map fun (i : Nat) => (i : Int) + 1).map fun k => (k, Fr.cnt ns k)).filter (fun p => decide (p.2 ≠ 0)) := by
    unfold Fr.bal
    rw [List.map_map]
    rfl
  rw [e, List.filter_map, List.filter_map]
  congr 1
  refine sorted_ext _ _ (hk.1.filter _) (List.Pairwise.filter _ ?_) fun x => ?_
  · rw [List.pairwise_map]
    exact List.pairwise_lt_range.imp fun h => by omega
  · rw [List.mem_filter, List.mem_filter]
    refine and_congr_left fun hc => ?_
    have hc : Fr.cnt ns x ≠ 0 := of_decide_eq_true hc
    rw [hk.2 x, List.mem_map]
    constructor
    · rintro ⟨y, hy, rfl⟩
      obtain ⟨y1, y2⟩ := h y hy
      exact ⟨y.natAbs - 1, List.mem_range.mpr (by omega), by omega⟩
    · rintro ⟨i, hi, rfl⟩
      exact Decidable.byContradiction fun q => hc (cnt_zero q (by omega))
abbrev sBalOf : Stmt := top 16
theorem mt_lcountK {X : Cx} {K : PySem.W.Frag} (h : X.K = K) : MtR X "list.count" (rCntI K) := by
  subst h
  exact mt_lcount
/-- a tuple of two ints -/
def PrT (K : PySem.W.Frag) (H : Hp) (v : V) (p : Int × Int) : Prop := ∃ q : Addr, v = .ref q ∧ SqT K H q [.int p.1, .int p.2]
theorem PrT.same {K : PySem.W.Frag} {H H' : Hp} {v : V} {p : Int × Int} (h : PrT K H v p) (s : Same H H') : PrT K H' v p := by
  obtain ⟨q, e, h⟩ := h
  exact ⟨q, e, WR.Same.seqT s h⟩
theorem PrT.put {K : PySem.W.Frag} {D : Addr} {H : Hp} {ws : List V} {o : HO} {v : V} {p : Int × Int} (hD : H D = some (.lst ws)) (h : PrT K H v p) : PrT K (L2.upd H D o) v p := by
  obtain ⟨q, e, h⟩ := h
  exact ⟨q, e, SqT.keptL hD Kept.upd h⟩
def BalAt (K : PySem.W.Frag) (H : Hp) (a : Addr) (ps : List (Int × Int)) : Prop := ∃ vs, SqT K H a vs ∧ All2 (PrT K H) vs ps
theorem BalAt.same {K : PySem.W.Frag} {H H' : Hp} {a : Addr} {ps : List (Int × Int)} (h : BalAt K H a ps) (s : Same H H') : BalAt K H' a ps := by
  obtain ⟨vs, h1, h2⟩ := h
  exact ⟨vs, WR.Same.seqT s h1, h2.imp fun _ _ r => r.same s⟩
def spBalOf (K : PySem.W.Frag) : Sp := fun vs H Q _ => ∃ (a : Addr) (ns : List Int), vs = [.ref a] ∧ SqL K H a (iv ns) ∧ ns.length ≤ 1000 ∧ Lts ns ∧ ∀ p H', Same H H' → BalAt K H' p (Fr.bal ns) → Q (.ref p) H'
abbrev nBalOf : List Str := ["letters", "pairs", "kind", "more"]
theorem kinds_len {ns ks : List Int} (h : Lts ns) (hk : kindsOk ns ks) : ks.length ≤ 26 := by
  refine pigeon 26 ks ?_ fun k hk' => ?_
  · exact hk.1.imp fun h => by omega
  · obtain ⟨x, hx, rfl⟩ := (hk.2 k).mp hk'
    obtain ⟨y1, y2⟩ := h x hx
    omega
section
variable {P : Program} {w : World} {K : PySem.W.Frag} {mg : Str → Option Value} {base : Heap}
theorem scBalOf : FnScope nBalOf ["letters"] (defScope sBalOf) := ⟨rfl, rfl, rfl, by decide +kernel, rfl, by decide +kernel, by decide +kernel⟩
theorem ok_balOf {f : Addr} {fd : FuncData} (F : Fun K "balance_of" "balance_of" sBalOf f fd) (T : TxA mg) (GK : Cal P w K mg base "kinds_of" 1 ["letters"] (spKinds K)) : FnOk P w K mg base CX0 2 f fd ["letters"] (spBalOf K) := by
  refine F.ok scBalOf (fun vs H Q E h => ?_) (fun cdv A outer s H vs Q E hr h => ?_)
  · obtain ⟨a, ns, rfl, _⟩ := h
    rfl
  · obtain ⟨a, ns, rfl, hA, hlen, hl, k⟩ := h
    refine ⟨_, pss_cons (ps_setLc (i := 1) (own := [("kind", 2)]) (g := gName 2) (tt := tYes) rfl scBalOf.nd rfl rfl (sw_true rfl rfl rfl (by decide +kernel)) (pi_tup (pe_cal GK hr (by decide) (by rfl) (pa_cons (pv 0) pa_nil)))
        (blkOk_by (N := nBalOf) (sc := defScope sBalOf) (by decide +kernel)) (fun _ _ _ _ _ => pg_name (i := 2) scBalOf.nd rfl (Or.inl rfl)) (fun _ _ _ _ _ => pts_nil)
        (fun _ _ _ _ _ => pe_tup (pa_cons (pv 2) (pa_cons (pe_op op_sub (pe_bmK (K := K) rfl PySem.F.plainAttrs_list PySem.F.slot_list_count PySem.F.type_list_count (mt_lcountK (K := K) rfl) (pv 0) (pa_cons (pv 2) pa_nil)) (pe_bmK (K := K) rfl PySem.F.plainAttrs_list PySem.F.slot_list_count PySem.F.type_list_count (mt_lcountK (K := K) rfl) (pv 0) (pa_cons (pe_un un_neg (pv 2)) pa_nil))) pa_nil))))
      (pss_one (ps_ret (pe_callTy call_tuple_of (by rfl) T.tuple (by decide +kernel) (pa_cons (pe_lc (own := [("kind", 2), ("more", 3)]) (g := gTup K 2 (gCons (gName 2) (gCons (gName 3) gNil))) rfl scBalOf.nd (pi_list (pv 1))
        (blkOk_by (N := nBalOf) (sc := defScope sBalOf) (by decide +kernel)) (fun _ _ _ _ _ => pg_tup (n := 2) rfl (pgs_cons (pg_name (i := 2) scBalOf.nd rfl (Or.inl rfl)) (pgs_cons (pg_name (i := 3) scBalOf.nd rfl (Or.inl rfl)) pgs_nil)))
        (fun _ _ _ _ _ => pts_one (pt_cmpR op_ne (pv 3) pe_int (nomark _))) (fun _ _ _ _ _ => pe_tup (pa_cons (pv 2) (pa_cons (pv 3) pa_nil)))) pa_nil)))), ?_⟩
    refine as_lc ?_
    refine ⟨_, rfl, a, ns, rfl, .inl hA, hlen, hl, fun ks hk kp H1 s1 hkp => ?_⟩
    have hkl := kinds_len hl hk
    have hA1 := s1.seq hA
    refine ⟨kp, rfl, ⟨_, hkp⟩, ?_⟩
    refine lcM (walk_tup (K := K) (a := kp) (xs := iv ks)) (ks.map fun k => (k, Fr.cnt ns k)) (fun D H v p => PrT K H v p) (fun _ _ _ _ _ h s => h.same s) (fun _ _ _ _ _ _ hD h => h.put hD) (by rw [List.length_map]; omega) (by rw [List.length_map, List.length_map]) (fun H2 s2 => WR.Same.seqT s2 hkp) ?_ (fun x σ1 H A B k h => gName_mono k h) ?_
    · intro i x b hx hb D H2 hD ⟨us, hus⟩ s2 Qy ky
      obtain ⟨z, hz, rfl⟩ : ∃ z, ks[i]? = some z ∧ x = V.int z := by
        rw [List.getElem?_map] at hx
        cases e : ks[i]? with
        | none => rw [e] at hx; cases hx
        | some z => rw [e] at hx; exact ⟨z, rfl, (Option.some.inj hx).symm⟩
      rw [List.getElem?_map, hz] at hb
      obtain rfl := Option.some.inj hb
      have hA2 := s2.seq hA1
      have hne : iv ns ≠ [] := fun e => by
        obtain ⟨y, hy, _⟩ := (hk.2 z).mp (List.mem_of_getElem? hz)
        have : ns = [] := List.map_eq_nil_iff.mp e
        rw [this] at hy
        cases hy
      refine ⟨rfl, ?_⟩
      refine ⟨_, rfl, _, rfl, .inl ⟨rfl, _, hA2⟩, _, rfl, a, ns, z, rfl, rfl, hA2, _, rfl, .inl ⟨rfl, _, hA2⟩, _, rfl, _, rfl, a, ns, -z, rfl, rfl, hA2, ?_⟩
      refine ⟨_, _, rfl, rfl, by show 2 ≤ sizeLine; decide, fun q hq => ?_⟩
      exact ky (.ref q) _ (same_upd hq) ⟨q, rfl, SqT.of upd_same⟩
    intro D H2 ws hD s2 h2 r2
    have l2 := r2.length
    rw [List.length_map] at l2
    refine at_set ?_
    try dsimp only
    refine ⟨_, rfl, D, rfl, ⟨_, SqL.of h2⟩, fun D2 hD2 => ?_⟩
    refine lc_it (walk_list (K := K) (a := D) (xs := ws)) (fun j H' => Same H2 H' ∧ ∃ us, H' D2 = some (.lst us) ∧ us.length ≤ j ∧ All2 (PrT K H') us (((ks.map fun k => (k, Fr.cnt ns k)).take j).filter fun p => decide (p.2 ≠ 0)))
      ⟨same_upd hD2, [], upd_same, Nat.le_refl _, by rw [List.take_zero]; exact .nil⟩ (fun j H' _ q => SqL.of (q.1 _ _ h2)) ?_ ?_
    · rintro j x H3 _ hj ⟨sm, us, hus, lu, hu⟩ ⟨rfl, hx⟩
      obtain ⟨b, hb, q, rfl, hq⟩ := r2.at hx
      have hjk : j < (ks.map fun k => (k, Fr.cnt ns k)).length := (List.getElem?_eq_some_iff.mp hb).1
      have eb : (ks.map fun k => (k, Fr.cnt ns k))[j] = b := (List.getElem?_eq_some_iff.mp hb).2
      refine ⟨q, _, rfl, WR.Same.seqT sm hq, rfl, _, _, rfl, _, _, rfl, rfl, ?_⟩
      refine ⟨rfl, ?_⟩
      refine ⟨_, rfl, rfl, _, rfl, ?_⟩
      rw [List.take_succ_eq_append_getElem hjk, eb, List.filter_append]
      refine ite2 (fun hn => ?_) (fun hn => ?_)
      · refine ⟨_, rfl, _, rfl, by show 2 ≤ sizeLine; decide, fun t ht => ?_⟩
        have st := same_upd (o := .tup [.int b.1, .int b.2]) ht
        have hbn : b.2 ≠ 0 := fun z => by
          rw [z] at hn
          exact absurd hn (by decide)
        have hus2 := st _ _ hus
        refine ⟨us, hus2, Evl.sz_lt (by rw [List.length_map] at hjk; omega), fun b' o e => ?_, us ++ [.ref t], upd_same, by rw [List.length_append]; show _ + 1 ≤ _; omega, ?_⟩
        · rw [upd_ne (ne_of_none e hD2)]
          exact st _ _ (sm _ _ e)
        · refine All2.app (hu.imp fun _ _ r => (r.same st).put hus2) ?_
          have : ([b].filter fun p => decide (p.2 ≠ 0)) = [b] := by simp [hbn]
          rw [this]
          exact .cons (PrT.put hus2 ⟨t, rfl, SqT.of upd_same⟩) .nil
      · refine ⟨sm, us, hus, by omega, ?_⟩
        have hbz : b.2 = 0 := Decidable.byContradiction fun z => hn (by
          have : ¬ (V.int b.2 = V.int 0) := fun q => z (by injection q)
          simp [this])
        have : ([b].filter fun p => decide (p.2 ≠ 0)) = [] := by simp [hbz]
        rw [this, List.append_nil]
        exact hu
    · rintro H3 ⟨sm, us, hus, lu, hu⟩
      rw [l2] at hu
      rw [List.take_of_length_le (by rw [List.length_map]; exact Nat.le_refl _), bal_kinds hl hk] at hu
      refine ⟨D2, _, rfl, .inl ⟨SqL.of hus, fun p hp => ?_⟩⟩
      have sp := same_upd (o := .tup us) hp
      exact k p _ (((s1.trans s2).trans sm).trans sp) ⟨us, SqT.of upd_same, hu.imp fun _ _ r => r.same sp⟩
end
end W13
set_option Elab.async false
set_option linter.all false
set_option maxRecDepth 100000
set_option maxHeartbeats 1000000
namespace W13
open PySem L2 PySem.Spec PyProof.Rows WR WB
theorem lc2_in {J1 : It} {ys : List V} {G1 : Hp → Prop} (w1 : Walk J1 ys.length G1 (YAt ys)) {g1 : TG} {tt1 : TT} {te : TE} {vs1 : List Nat} {σ2 : L2.St} {H1 H4 : Hp} {D : Addr} {acc : List V} {Nx : Hp → Prop} (v : V → V) (hD : H1 D = none) (s4 : Same H1 H4) (a4 : H4 D = some (.lst acc)) (hz : acc.length + ys.length < 40000) (hG : ∀ H, Same H1 H → G1 H)
    (hs : ∀ y ∈ ys, ∀ H, Same H1 H → ∀ Qy : V → Hp → Prop, (∀ H', Same H H' → Qy (v y) H') → ∀ Qn : Hp → Prop, g1 y (wipe σ2 vs1) H fun σ3 H5 => wipe σ3 vs1 = wipe σ2 vs1 ∧ tt1 σ3 H5 fun b H6 => if b = true then te σ3 H6 Qy else Qn H6)
    (hd : ∀ H, Same H1 H → H D = some (.lst (acc ++ ys.map v)) → Nx H) :
    ∃ W1 : Nat → Nat → Hp → Prop, (∃ m, W1 0 m H4) ∧ ∀ j k H, W1 j k H →
      (J1.stop j H ∧ Nx H) ∨ (J1.go j H ∧ ∃ Nx1 : Hp → Prop, (∀ H', Nx1 H' → ∃ k', k' < k ∧ W1 (j + 1) k' H') ∧ ∀ x H', J1.yld j H x H' → g1 x (wipe σ2 vs1) H' fun σ3 H5 => wipe σ3 vs1 = wipe σ2 vs1 ∧ tt1 σ3 H5 fun b H6 =>
        if b = true then te σ3 H6 fun y H7 => ∃ acc, H7 D = some (.lst acc) ∧ acc.length < sizeLine ∧ Nx1 (L2.upd H7 D (.lst (acc ++ [y]))) else Nx1 H6) := by
  refine ⟨fun j k H => k = ys.length - j ∧ j ≤ ys.length ∧ Same H1 H ∧ H D = some (.lst (acc ++ (ys.take j).map v)), ⟨_, rfl, Nat.zero_le _, s4, by rw [List.take_zero]; simpa using a4⟩, ?_⟩
  rintro j k H ⟨rfl, hj, sm, hDD⟩
  by_cases hlt : j < ys.length
  · right
    refine ⟨w1.goes j H hlt (hG H sm), fun H' => Same H1 H' ∧ H' D = some (.lst (acc ++ (ys.take (j + 1)).map v)), fun H' q => ⟨ys.length - (j + 1), by omega, rfl, hlt, q.1, q.2⟩, fun x H' hy => ?_⟩
    obtain ⟨rfl, hx⟩ := w1.yields j H x H' hlt (hG H sm) hy
    have ex : ys[j] = x := (List.getElem?_eq_some_iff.mp hx).2
    refine hs x (List.mem_of_getElem? hx) H' sm _ (fun H2 s2 => ⟨_, s2 _ _ hDD, ?_, ?_, ?_⟩) _
    · refine Evl.sz_lt ?_
      rw [List.length_append, List.length_map, List.length_take]
      omega
    · intro b o e
      rw [upd_ne (ne_of_none e hD)]
      exact s2 _ _ (sm _ _ e)
    · rw [upd_same, List.take_succ_eq_append_getElem hlt, ex, List.map_append, ← List.append_assoc]
      rfl
  · left
    have e : j = ys.length := by omega
    subst e
    rw [List.take_length] at hDD
    exact ⟨w1.stops H (hG H sm), hd H sm hDD⟩
theorem lc2_out {J : It} {n : Nat} {G : Hp → Prop} {Y : Nat → Hp → V → Hp → Prop} (w : Walk J n G Y) {g : TG} {tt : TT} {wi1 : TI} {g1 : TG} {tt1 : TT} {te : TE} {vs vs1 : List Nat} {σ : L2.St} {H1 : Hp} {Q : VK} (out : Nat → List V) (hG : ∀ H, Same H1 H → G H)
    (hs : ∀ i x D H H', i < n → Y i H x H' → H1 D = none → Same H1 H → H D = some (.lst (((List.range i).map out).flatten)) → ∀ Nx : Hp → Prop, (∀ H', Same H1 H' → H' D = some (.lst (((List.range i).map out).flatten ++ out i)) → Nx H') →
      g x (wipe σ vs) H' fun σ2 H2 => wipe σ2 vs = wipe σ vs ∧ tt σ2 H2 fun b H3 => if b = true then wi1 σ2 H3 fun J1 H4 => ∃ W1 : Nat → Nat → Hp → Prop, (∃ m, W1 0 m H4) ∧ ∀ j k H, W1 j k H →
      (J1.stop j H ∧ Nx H) ∨ (J1.go j H ∧ ∃ Nx1 : Hp → Prop, (∀ H', Nx1 H' → ∃ k', k' < k ∧ W1 (j + 1) k' H') ∧ ∀ x H', J1.yld j H x H' → g1 x (wipe σ2 vs1) H' fun σ3 H5 => wipe σ3 vs1 = wipe σ2 vs1 ∧ tt1 σ3 H5 fun b H6 =>
        if b = true then te σ3 H6 fun y H7 => ∃ acc, H7 D = some (.lst acc) ∧ acc.length < sizeLine ∧ Nx1 (L2.upd H7 D (.lst (acc ++ [y]))) else Nx1 H6) else Nx H3)
    (hd : ∀ D H, H1 D = none → Same H1 H → H D = some (.lst (((List.range n).map out).flatten)) → Q (.ref D) H) : tLc2 (fun _ H R => R J H) g tt wi1 g1 tt1 te vs vs1 σ H1 Q := by
  intro D hD
  refine ⟨fun i m H => m = n - i ∧ i ≤ n ∧ Same H1 H ∧ H D = some (.lst (((List.range i).map out).flatten)), ⟨_, rfl, Nat.zero_le _, fun b o e => by rw [upd_ne (ne_of_none e hD)]; exact e, by rw [upd_same]; rfl⟩, ?_⟩
  rintro i m H ⟨rfl, hi, sm, hDD⟩
  by_cases hlt : i < n
  · right
    refine ⟨w.goes i H hlt (hG H sm), fun H' => Same H1 H' ∧ H' D = some (.lst (((List.range (i + 1)).map out).flatten)), fun H' q => ⟨n - (i + 1), by omega, rfl, hlt, q.1, q.2⟩, fun x H' hy => ?_⟩
    refine hs i x D H H' hlt (w.yields i H x H' hlt (hG H sm) hy) hD sm hDD _ fun H2 s2 h2 => ⟨s2, ?_⟩
    rw [h2, List.range_succ, List.map_append, List.flatten_append]
    simp
  · left
    have e : i = n := by omega
    subst e
    exact ⟨w.stops H (hG H sm), hd D H hD sm hDD⟩
theorem pe_fldK {X : Cx} {K : PySem.W.Frag} {e : Expr} {f : Str} {pos : Pos} {ta : TE} (h : X.K = K) (he : PE X e ta) (hb : attributeBase e f X.env (eval e X.env) = eval e X.env) : PE X (.Attribute e f pos) (tFld K ta f) := by
  subst h
  exact pe_fld he hb
theorem ar_lc {wi : TI} {g : TG} {tt : TT} {te : TE} {vs : List Nat} {σ : L2.St} {H : Hp} {Q : List V → Hp → Prop}
    (h : wi σ H fun J H1 => tLc (fun _ H R => R J H) g tt te vs σ H1 fun y H2 => Q [y] H2) : tCons (tLc wi g tt te vs) tNil σ H Q := h
abbrev sFilled : Stmt := top 38
abbrev sNeedB : Stmt := top 42
abbrev sFewP : Stmt := top 48
abbrev sNexts : Stmt := top 50
structure TxR (mg : Str → Option Value) : Prop where
  words : ∃ t, mg "MOST_WORDS" = some (.int 4 t)
  places : ∃ t, mg "MOST_PLACES" = some (.int 24 t)
  range : mg "range" = none
  enum : mg "enumerate" = none
def spFilled (K : PySem.W.Frag) (C : Addr) : Sp := fun vs H Q _ => ∃ (p : Addr) (ns : List Int), vs = [.ref p] ∧ WordAt K C H p ns ∧ Q (.bl (decide (0 < (ns.length : Int)))) H
def spNeedB (K : PySem.W.Frag) : Sp := fun vs H Q _ => ∃ (a : Addr) (ns : List Int), vs = [.ref a] ∧ SqL K H a (iv ns) ∧ ns.length ≤ 1000 ∧ Lts ns ∧ Fr.bal ns = [] ∧ ∀ H', Same H H' → Q .non H'
def spFewP : Sp := fun vs H Q _ => ∃ n : Int, vs = [.int n] ∧ n ≤ 24 ∧ Q .non H
/-- the places that stand behind each one, from place f on -/
def nxF (f : Nat) : List (List Int) → List Int
  | [] => []
  | w :: r => ((List.range w.length).map fun (t : Nat) => (f : Int) + (((t + 1) % w.length : Nat) : Int)) ++ nxF (f + w.length) r
theorem nxF_len : ∀ (ws : List (List Int)) (f : Nat), (nxF f ws).length = ws.flatten.length
  | [], _ => rfl
  | w :: r, f => by
    unfold nxF
    rw [List.length_append, nxF_len r, List.flatten_cons, List.length_append, List.length_map, List.length_range]
theorem nxF_snoc : ∀ (ws : List (List Int)) (w : List Int) (f : Nat), nxF f (ws ++ [w]) = nxF f ws ++ ((List.range w.length).map fun (t : Nat) => ((f + ws.flatten.length : Nat) : Int) + (((t + 1) % w.length : Nat) : Int))
  | [], w, f => by simp [nxF]
  | a :: r, w, f => by
    rw [List.cons_append]
    unfold nxF
    rw [nxF_snoc r w, List.append_assoc, List.flatten_cons, List.length_append]
    congr 3
    funext t
    congr 2
    omega
theorem nxF_take {ws : List (List Int)} {i : Nat} {w : List Int} (h : ws[i]? = some w) : nxF 0 (ws.take (i + 1)) = nxF 0 (ws.take i) ++ ((List.range w.length).map fun (t : Nat) => (((ws.take i).flatten.length : Nat) : Int) + (((t + 1) % w.length : Nat) : Int)) := by
  have hi := (List.getElem?_eq_some_iff.mp h).1
  have e := (List.getElem?_eq_some_iff.mp h).2
  rw [List.take_succ_eq_append_getElem hi, e, nxF_snoc, Nat.zero_add]
theorem flat_take {ws : List (List Int)} {i : Nat} {w : List Int} (h : ws[i]? = some w) : (ws.take i).flatten.length + w.length ≤ ws.flatten.length := by
  have hi := (List.getElem?_eq_some_iff.mp h).1
  have e := (List.getElem?_eq_some_iff.mp h).2
  have s : ws = ws.take i ++ (w :: ws.drop (i + 1)) := by
    rw [← e, List.getElem_cons_drop, List.take_append_drop]
  have := congrArg (fun z => z.flatten.length) s
  simp only [List.flatten_append, List.flatten_cons, List.length_append] at this
  omega
/-- words that stand at these places -/
def Wds (K : PySem.W.Frag) (C : Addr) (H : Hp) (xs : List Addr) (ws : List (List Int)) : Prop := All2 (fun p ns => WordAt K C H p ns) xs ws
theorem Wds.same {K : PySem.W.Frag} {C : Addr} {H H' : Hp} {xs : List Addr} {ws : List (List Int)} (h : Wds K C H xs ws) (s : Same H H') : Wds K C H' xs ws := h.imp fun _ _ r => r.same s
def spNexts (K : PySem.W.Frag) (C : Addr) : Sp := fun vs H Q _ => ∃ (a : Addr) (xs : List Addr) (ws : List (List Int)), vs = [.ref a] ∧ SqL K H a (xs.map V.ref) ∧ Wds K C H xs ws ∧ ws.length ≤ 4 ∧ (∀ w ∈ ws, w ≠ []) ∧ ws.flatten.length ≤ 24 ∧ NewB K H Q (iv (nxF 0 ws))
section
variable {P : Program} {w : World} {K : PySem.W.Frag} {mg : Str → Option Value} {base : Heap} {C : Addr}
theorem scFilled : FnScope ["value"] ["value"] (defScope sFilled) := ⟨rfl, rfl, rfl, by decide +kernel, rfl, by decide +kernel, by decide +kernel⟩
theorem ok_filled {f : Addr} {fd : FuncData} (F : Fun K "is_filled" "is_filled" sFilled f fd) (T : TxW K mg C) : FnOk P w K mg base CX0 1 f fd ["value"] (spFilled K C) := by
  refine F.ok scFilled (fun vs H Q E h => ?_) (fun cdv A outer s H vs Q E hr h => ?_)
  · obtain ⟨p, ns, rfl, _⟩ := h
    rfl
  · obtain ⟨p, ns, rfl, W1, k⟩ := h
    refine ⟨_, pss_one (ps_ret (pe_and (pe_callB call_isi (by rfl) T.isin (by decide +kernel) (pa_cons (pv 0) (pa_cons (pe_glob (v := .ref C) (by rfl) T.mgW rfl) pa_nil)))
      (pe_one (pe_cmpR op_gt (pe_fld (pv 0) rfl) pe_int (nomark _))))), ?_⟩
    refine ⟨_, rfl, _, _, _, _, _, rfl, .own C, W1.tyx T, kit_self C, _, rfl, ?_⟩
    refine iteT ?_
    obtain ⟨dx, tl, tk, ks, h1, h2, h3, h4⟩ := W1
    exact ⟨_, rfl, p, C, dx, _, _, rfl, h1, T.cl, T.nN, wf_length, _, _, rfl, rfl, k⟩
theorem scFewP : FnScope ["many"] ["many"] (defScope sFewP) := ⟨rfl, rfl, rfl, by decide +kernel, rfl, by decide +kernel, by decide +kernel⟩
theorem ok_fewP {f : Addr} {fd : FuncData} (F : Fun K "need_few_places" "need_few_places" sFewP f fd) (T : TxR mg) : FnOk P w K mg base CX0 1 f fd ["many"] spFewP := by
  refine F.ok scFewP (fun vs H Q E h => ?_) (fun cdv A outer s H vs Q E hr h => ?_)
  · obtain ⟨n, rfl, _⟩ := h
    rfl
  · obtain ⟨n, rfl, hn, k⟩ := h
    obtain ⟨tk, mM⟩ := T.places
    refine ⟨_, pss_one (ps_if (pt_cmpR op_gt (pv 0) (pe_glob (v := .int 24) (by rfl) mM ⟨_, rfl⟩) (nomark _)) (pss_one ps_never) pss_nil), ?_⟩
    refine ⟨_, rfl, _, _, rfl, rfl, _, rfl, ?_⟩
    exact iteF' (decide_eq_false (by omega)) k
theorem scNeedB : FnScope ["letters", "pairs"] ["letters"] (defScope sNeedB) := ⟨rfl, rfl, rfl, by decide +kernel, rfl, by decide +kernel, by decide +kernel⟩
theorem ok_needB {f : Addr} {fd : FuncData} (F : Fun K "need_balanced" "need_balanced" sNeedB f fd) (GB : Cal P w K mg base "balance_of" 2 ["letters"] (spBalOf K)) : FnOk P w K mg base CX0 3 f fd ["letters"] (spNeedB K) := by
  refine F.ok scNeedB (fun vs H Q E h => ?_) (fun cdv A outer s H vs Q E hr h => ?_)
  · obtain ⟨a, ns, rfl, _⟩ := h
    rfl
  · obtain ⟨a, ns, rfl, hA, hlen, hl, hb, k⟩ := h
    refine ⟨_, pss_cons (ps_set (i := 1) scNeedB.nd rfl (Or.inl rfl) (pe_cal GB hr (by decide) (by rfl) (pa_cons (pv 0) pa_nil)))
      (pss_one (ps_if (pt_truth (pv 1) (by intro _; rfl)) (pss_one ps_never) pss_nil)), ?_⟩
    refine ⟨_, rfl, a, ns, rfl, hA, hlen, hl, fun p H1 s1 hB => ?_⟩
    rw [hb] at hB
    obtain ⟨vs, h1, h2⟩ := hB
    cases h2
    refine at_set ?_
    try dsimp only
    exact ⟨_, rfl, _, .inr (.inl ⟨_, h1, rfl⟩), iteF (k H1 s1)⟩
abbrev nNexts : List Str := ["words", "nexts", "word", "first", "at"]
theorem scNexts : FnScope nNexts ["words"] (defScope sNexts) := ⟨rfl, rfl, rfl, by decide +kernel, rfl, by decide +kernel, by decide +kernel⟩
theorem ok_nexts {f : Addr} {fd : FuncData} (F : Fun K "nexts_of" "nexts_of" sNexts f fd) (T : TxW K mg C) (TA : TxA mg) (R : TxR mg) : FnOk P w K mg base CX0 1 f fd ["words"] (spNexts K C) := by
  refine F.ok scNexts (fun vs H Q E h => ?_) (fun cdv A outer s H vs Q E hr h => ?_)
  · obtain ⟨a, xs, ws, rfl, _⟩ := h
    rfl
  · obtain ⟨a, xs, ws, rfl, hA, hW, l4, hne, l24, k⟩ := h
    refine ⟨_, pss_cons (ps_set (i := 1) scNexts.nd rfl (Or.inl rfl) (pe_lst pa_nil))
      (pss_cons (ps_for PassesOwn.never rfl (pi_list (pv 0)) (pg_name (i := 2) scNexts.nd rfl (Or.inr rfl))
        (pss_cons (ps_set (i := 3) scNexts.nd rfl (Or.inr rfl) (pe_callB call_len_seq (by rfl) TA.len PySem.boot_len (pa_cons (pv 1) pa_nil)))
        (pss_one (ps_expr (pe_bm PySem.F.plainAttrs_list PySem.F.slot_list_extend PySem.F.type_list_extend mt_extend (pv 1) (pa_cons (pe_lc (own := [("at", 4)]) (g := gName 4) (tt := tYes) rfl scNexts.nd (pi_range1 (by rfl) R.range (pa_cons (pe_fld (pv 2) rfl) pa_nil))
          (blkOk_by (N := nNexts) (sc := defScope sNexts) (by decide +kernel)) (fun _ _ _ _ _ => pg_name (i := 4) scNexts.nd rfl (Or.inl rfl)) (fun _ _ _ _ _ => pts_nil)
          (fun _ _ _ _ _ => pe_op op_add (pv 3) (pe_op op_mod (pe_op op_add (pv 4) pe_int) (pe_fldK (K := K) rfl (pv 2) rfl)))) pa_nil))))))
      (pss_one (ps_ret (pe_callTy call_tupB (by rfl) TA.tuple (by decide +kernel) (pa_cons (pv 1) pa_nil))))), ?_⟩
    refine ⟨Nat.zero_le _, fun l hl0 => ?_⟩
    have s0 := same_upd (o := .lst []) hl0
    refine ⟨_, rfl, a, rfl, ⟨_, s0.seq hA⟩, for_list (K := K) (a := a) (xs := xs.map V.ref) (fun i σ H' => ∃ v2 v3 : Option V, σ = [some (.ref a), some (.ref l), v2, v3, none] ∧ Same H H' ∧ H' l = some (.lst (iv (nxF 0 (ws.take i)))))
      ⟨none, none, rfl, s0, upd_same⟩ (fun i σ H1 _ ⟨_, _, _, s, _⟩ => s.seq hA) ?_ ?_⟩
    · rintro i y σ H1 hi ⟨v2, v3, rfl, sm, hL⟩
      obtain ⟨q, hq, rfl⟩ : ∃ q, xs[i]? = some q ∧ y = V.ref q := by
        rw [List.getElem?_map] at hi
        cases e : xs[i]? with
        | none => rw [e] at hi; cases hi
        | some q => rw [e] at hi; exact ⟨q, rfl, (Option.some.inj hi).symm⟩
      obtain ⟨u, hu, Wq⟩ := hW.at hq
      have Wq := Wq.same sm
      have hft := flat_take hu
      have hup : 0 < u.length := List.length_pos_iff.mpr (hne u (List.mem_of_getElem? hu))
      refine ⟨_, rfl, l, _, rfl, .inl (SqL.of hL), ?_⟩
      refine at_set ?_
      try dsimp only
      have el : ((iv (nxF 0 (ws.take i))).length : Int) = (((ws.take i).flatten.length : Nat) : Int) := by rw [List.length_map, nxF_len]
      rw [el]
      refine ⟨_, rfl, .inl ⟨rfl, _, SqL.of hL⟩, ?_⟩
      refine ar_lc ?_
      obtain ⟨dx, tl, tk, ks, w1, _⟩ := id Wq
      refine ⟨_, rfl, q, C, dx, _, _, rfl, w1, T.cl, T.nN, wf_length, _, rfl, by omega, by omega, fun D hD => ?_⟩
      have sD := same_upd (o := .lst []) hD
      refine lc_range (lo := 0) (n := ((u.length : Nat) : Int).toNat) (fun j H' => Same H1 H' ∧ H' D = some (.lst (iv ((List.range j).map fun (t : Nat) => (((ws.take i).flatten.length : Nat) : Int) + (((t + 1) % u.length : Nat) : Int))))) ⟨sD, upd_same⟩ ?_ ?_
      · rintro j H2 hj ⟨s2, hDD⟩
        rw [Int.toNat_natCast] at hj
        have w2 := s2 _ _ w1
        refine ⟨rfl, yes_te ?_⟩
        refine ⟨_, rfl, _, rfl, _, _, rfl, rfl, _, rfl, q, C, dx, _, _, rfl, w2, T.cl, T.nN, wf_length, _, _, rfl, rfl, by omega, _, _, rfl, rfl, ?_⟩
        refine ⟨_, hDD, Evl.sz_lt (by rw [List.length_map, List.length_map, List.length_range]; omega), fun b o e => ?_, ?_⟩
        · rw [upd_ne (ne_of_none e hD)]
          exact s2 _ _ e
        · rw [upd_same, List.range_succ, List.map_append]
          unfold iv
          rw [List.map_append]
          have ev : ((0 : Int) + (j : Nat) + 1) % ((u.length : Nat) : Int) = (((j + 1) % u.length : Nat) : Int) := by
            rw [Int.natCast_emod]
            congr 1
            omega
          exact congrArg (fun z => some (HO.lst (_ ++ [V.int ((((ws.take i).flatten.length : Nat) : Int) + z)]))) ev
      · rintro H2 ⟨s2, hDD⟩
        rw [Int.toNat_natCast] at hDD
        have hL2 := s2 _ _ hL
        refine ⟨l, D, _, _, rfl, rfl, hL2, hDD, Evl.sz_of (by rw [List.length_map, List.length_map, List.length_map, List.length_range, nxF_len]; omega), ?_⟩
        refine ⟨_, _, rfl, same_put (sm.trans s2) hl0, ?_⟩
        rw [upd_same, nxF_take hu]
        unfold iv
        rw [List.map_append]
    · rintro σ H1 ⟨v2, v3, rfl, sm, hL⟩
      have e : ws.take (xs.map V.ref).length = ws := List.take_of_length_le (by rw [List.length_map, hW.length]; exact Nat.le_refl _)
      rw [e] at hL
      refine ⟨_, rfl, l, _, rfl, .inl ⟨SqL.of hL, fun t H2 s2 B2 => k t H2 (sm.trans s2) B2⟩⟩
end
end W13
set_option Elab.async false
set_option linter.all false
set_option maxRecDepth 100000
set_option maxHeartbeats 1000000
namespace W13
open PySem L2 PySem.Spec PyProof.Rows WR WB
abbrev sInitR : Stmt := inClass (top 49) 0
theorem pi_tupK {X : Cx} {K : PySem.W.Frag} {tg l : Expr} {tl : TE} (h : X.K = K) (hl : PE X l tl) : PI X tg l (iTup K tl) := by
  subst h
  exact pi_tup hl
theorem nx_lc2 {wi wi1 : TI} {g g1 gg : TG} {tt tt1 : TT} {te : TE} {vs vs1 : List Nat} {D : Ends} {σ : L2.St} {H : Hp} {Cc : TS} {b1 b2 : L2.St → Hp → Prop} {rt : VK}
    (h : wi σ H fun J H1 => tLc2 (fun _ H R => R J H) g tt wi1 g1 tt1 te vs vs1 σ H1 fun z H4 => gg z σ H4 (Cc D)) : tNext { nx := tSeq (tAsg (tLc2 wi g tt wi1 g1 tt1 te vs vs1) gg) Cc D, rt := rt, bk := b1, ct := b2 } σ H := h
theorem nx_not_lc {r : List V → Hp → VK → Prop} {wi : TI} {g : TG} {tt : TT} {te : TE} {vs : List Nat} {D : Ends} {σ : L2.St} {H : Hp} {A B Cc : TS} {b1 b2 : L2.St → Hp → Prop} {rt : VK}
    (h : wi σ H fun J H1 => tLc (fun _ H R => R J H) g tt te vs σ H1 fun x H2 => r [x] H2 fun v H3 => ∃ c, v = .bl c ∧ if (!c) = true then A { D with nx := Cc D } σ H3 else B { D with nx := Cc D } σ H3) :
    tNext { nx := tSeq (tIfS (tNot (fun σ H Q => tCB r (tCons (tLc wi g tt te vs) tNil) σ H fun x H1 => ∃ c, x = .bl c ∧ Q c H1)) A B) Cc D, rt := rt, bk := b1, ct := b2 } σ H := h
theorem sq_fld {K : PySem.W.Frag} {ta tv : TE} {f : Str} {Cc : TS} {D : Ends} {σ : L2.St} {H : Hp} (h : tv σ H fun y H1 => sFld K ta (fun _ H Q => Q y H) f { D with nx := Cc D } σ H1) : tSeq (sFld K ta tv f) Cc D σ H := h
theorem cb_lc2 {r : List V → Hp → VK → Prop} {wi wi1 : TI} {g g1 : TG} {tt tt1 : TT} {te : TE} {vs vs1 : List Nat} {σ : L2.St} {H : Hp} {Q : VK}
    (h : wi σ H fun J H1 => tLc2 (fun _ H R => R J H) g tt wi1 g1 tt1 te vs vs1 σ H1 fun y H2 => r [y] H2 Q) : tCB r (tCons (tLc2 wi g tt wi1 g1 tt1 te vs vs1) tNil) σ H Q := h
theorem flat_to {ws : List (List Int)} {i : Nat} (h : i ≤ ws.length) : ((List.range i).map fun i => iv (ws.getD i [])).flatten = iv (ws.take i).flatten := by
  have e : (List.range i).map (fun i => ws.getD i []) = ws.take i := by
    refine List.ext_getElem (by rw [List.length_map, List.length_range, List.length_take]; omega) fun j h1 h2 => ?_
    rw [List.length_take] at h2
    rw [List.getElem_map, List.getElem_range, List.getElem_take, List.getD_eq_getElem?_getD, List.getElem?_eq_getElem (by omega)]
    rfl
  rw [← e]
  unfold iv
  rw [List.map_flatten, List.map_map]
  rfl
def rf (tw tl : Addr) (n b : Nat) (sh : Bool) (th tn : Addr) : List (Str × V) := [("words", .ref tw), ("letters", .ref tl), ("many", .int (n : Int)), ("bands", .int (b : Int)), ("is_short", .bl sh), ("homes", .ref th), ("nexts", .ref tn)]
theorem pr1 {tw : Addr} : putF "words" (.ref tw) ([] : List (Str × V)) = ([("words", .ref tw)] : List (Str × V)) := by
  rfl
theorem pr2 {tw : Addr} {tl : Addr} : putF "letters" (.ref tl) ([("words", .ref tw)] : List (Str × V)) = ([("words", .ref tw), ("letters", .ref tl)] : List (Str × V)) := by
  rw [pf_ne (show ¬ (("words" : Str) = "letters") by decide +kernel)]
  rfl
theorem pr3 {tw : Addr} {tl : Addr} {n : Nat} : putF "many" (.int (n : Int)) ([("words", .ref tw), ("letters", .ref tl)] : List (Str × V)) = ([("words", .ref tw), ("letters", .ref tl), ("many", .int (n : Int))] : List (Str × V)) := by
  rw [pf_ne (show ¬ (("words" : Str) = "many") by decide +kernel), pf_ne (show ¬ (("letters" : Str) = "many") by decide +kernel)]
  rfl
theorem pr4 {tw : Addr} {tl : Addr} {n : Nat} {b : Nat} : putF "bands" (.int (b : Int)) ([("words", .ref tw), ("letters", .ref tl), ("many", .int (n : Int))] : List (Str × V)) = ([("words", .ref tw), ("letters", .ref tl), ("many", .int (n : Int)), ("bands", .int (b : Int))] : List (Str × V)) := by
  rw [pf_ne (show ¬ (("words" : Str) = "bands") by decide +kernel), pf_ne (show ¬ (("letters" : Str) = "bands") by decide +kernel), pf_ne (show ¬ (("many" : Str) = "bands") by decide +kernel)]
  rfl
theorem pr5 {tw : Addr} {tl : Addr} {n : Nat} {b : Nat} {sh : Bool} : putF "is_short" (.bl sh) ([("words", .ref tw), ("letters", .ref tl), ("many", .int (n : Int)), ("bands", .int (b : Int))] : List (Str × V)) = ([("words", .ref tw), ("letters", .ref tl), ("many", .int (n : Int)), ("bands", .int (b : Int)), ("is_short", .bl sh)] : List (Str × V)) := by
  rw [pf_ne (show ¬ (("words" : Str) = "is_short") by decide +kernel), pf_ne (show ¬ (("letters" : Str) = "is_short") by decide +kernel), pf_ne (show ¬ (("many" : Str) = "is_short") by decide +kernel), pf_ne (show ¬ (("bands" : Str) = "is_short") by decide +kernel)]
  rfl
theorem pr6 {tw : Addr} {tl : Addr} {n : Nat} {b : Nat} {sh : Bool} {th : Addr} : putF "homes" (.ref th) ([("words", .ref tw), ("letters", .ref tl), ("many", .int (n : Int)), ("bands", .int (b : Int)), ("is_short", .bl sh)] : List (Str × V)) = ([("words", .ref tw), ("letters", .ref tl), ("many", .int (n : Int)), ("bands", .int (b : Int)), ("is_short", .bl sh), ("homes", .ref th)] : List (Str × V)) := by
  rw [pf_ne (show ¬ (("words" : Str) = "homes") by decide +kernel), pf_ne (show ¬ (("letters" : Str) = "homes") by decide +kernel), pf_ne (show ¬ (("many" : Str) = "homes") by decide +kernel), pf_ne (show ¬ (("bands" : Str) = "homes") by decide +kernel), pf_ne (show ¬ (("is_short" : Str) = "homes") by decide +kernel)]
  rfl
theorem pr7 {tw : Addr} {tl : Addr} {n : Nat} {b : Nat} {sh : Bool} {th : Addr} {tn : Addr} : putF "nexts" (.ref tn) ([("words", .ref tw), ("letters", .ref tl), ("many", .int (n : Int)), ("bands", .int (b : Int)), ("is_short", .bl sh), ("homes", .ref th)] : List (Str × V)) = rf tw tl n b sh th tn := by
  rw [pf_ne (show ¬ (("words" : Str) = "nexts") by decide +kernel), pf_ne (show ¬ (("letters" : Str) = "nexts") by decide +kernel), pf_ne (show ¬ (("many" : Str) = "nexts") by decide +kernel), pf_ne (show ¬ (("bands" : Str) = "nexts") by decide +kernel), pf_ne (show ¬ (("is_short" : Str) = "nexts") by decide +kernel), pf_ne (show ¬ (("homes" : Str) = "nexts") by decide +kernel)]
  rfl
/-- the number of each letter's word, from f on -/
def hmF (f : Nat) : List (List Int) → List Int
  | [] => []
  | w :: r => List.replicate w.length (f : Int) ++ hmF (f + 1) r
theorem hm_to : ∀ (ws : List (List Int)) (f : Nat), ((List.range ws.length).map fun i => iv (List.replicate (ws.getD i []).length ((f + i : Nat) : Int))).flatten = iv (hmF f ws)
  | [], f => rfl
  | w :: r, f => by
    have ih := hm_to r (f + 1)
    rw [List.length_cons, List.range_succ_eq_map, List.map_cons, List.flatten_cons, List.map_map]
    unfold hmF
    have e : (List.range r.length).map ((fun i => iv (List.replicate ((w :: r).getD i []).length ((f + i : Nat) : Int))) ∘ Nat.succ) = (List.range r.length).map fun i => iv (List.replicate (r.getD i []).length ((f + 1 + i : Nat) : Int)) := by
      refine List.map_congr_left fun i _ => ?_
      show iv (List.replicate ((w :: r).getD (i + 1) []).length ((f + (i + 1) : Nat) : Int)) = _
      rw [List.getD_cons_succ, show f + (i + 1) = f + 1 + i by omega]
    rw [e, ih]
    unfold iv
    rw [List.map_append]
    rfl
theorem all_bl {vs : List V} {ws : List (List Int)} {f : List Int → Bool} (h : All2 (fun v u => v = V.bl (f u)) vs ws) : vs = (ws.map f).map V.bl := by
  induction h with
  | nil => rfl
  | cons e _ ih => rw [e, ih]; rfl
theorem all_map (ws : List (List Int)) (f : List Int → Bool) : (ws.map f).all id = ws.all f := by
  rw [List.all_map]
  rfl
def RimsAt (K : PySem.W.Frag) (C CR : Addr) (H : Hp) (p : Addr) (xs : List Addr) (ws : List (List Int)) : Prop :=
  ∃ (dx tw tl th tn : Addr), H p = some (.ins CR dx (rf tw tl ws.flatten.length (ws.flatten.length / 2) (ws.all fun w => decide (Fr.rnd w = w)) th tn)) ∧ SqB K H tw (xs.map V.ref) ∧ Wds K C H xs ws ∧ SqB K H tl (iv ws.flatten) ∧ SqB K H th (iv (hmF 0 ws)) ∧ SqB K H tn (iv (nxF 0 ws))
/-- what may be made to rims -/
def RimOk (ws : List (List Int)) : Prop := 1 ≤ ws.length ∧ ws.length ≤ 4 ∧ (∀ w ∈ ws, w ≠ []) ∧ ws.flatten.length ≤ 24 ∧ Lts ws.flatten ∧ Fr.bal ws.flatten = []
structure TxRC (K : PySem.W.Frag) (mg : Str → Option Value) (CR : Addr) : Prop where
  cl : Cls K CR
  n1 : NoAttr K CR "words"
  n2 : NoAttr K CR "letters"
  n3 : NoAttr K CR "many"
  n4 : NoAttr K CR "bands"
  n5 : NoAttr K CR "is_short"
  n6 : NoAttr K CR "homes"
  n7 : NoAttr K CR "nexts"
  mgR : mg "Rims" = some (.ref CR)
  ca : PySem.W.findIn K (.ref CR) "__class__" = some (some (.builtin "object.__class__"))
  cm : PySem.W.mroIn K CR (.type "object") = some true
def spInitR (K : PySem.W.Frag) (C CR : Addr) : Sp := fun vs H Q _ => ∃ (H0 : Hp) (p dx a : Addr) (xs : List Addr) (ws : List (List Int)), vs = [.ref p, .ref a] ∧ Same H0 H ∧ H0 p = none ∧ H p = some (.ins CR dx []) ∧ SqL K H0 a (xs.map V.ref) ∧ Wds K C H0 xs ws ∧ RimOk ws ∧
  ∀ H', Same H0 H' → RimsAt K C CR H' p xs ws → Q .non H'
abbrev nInitR : List Str := ["self", "words", "letters", "word", "letter", "home", "_"]
section
variable {P : Program} {w : World} {K : PySem.W.Frag} {mg : Str → Option Value} {base : Heap} {C CR : Addr}
theorem scInitR : FnScope nInitR ["self", "words"] (defScope sInitR) := ⟨rfl, rfl, rfl, by decide +kernel, rfl, by decide +kernel, by decide +kernel⟩
theorem ok_initR {f : Addr} {fd : FuncData} (F : Fun K "__init__" "Rims.__init__" sInitR f fd) (T : TxW K mg C) (TC : TxRC K mg CR) (TA : TxA mg) (R : TxR mg) (GL : Cal P w K mg base "is_listed" 1 ["value"] (spListE K)) (GF : Cal P w K mg base "is_filled" 1 ["value"] (spFilled K C))
    (GP : Cal P w K mg base "need_few_places" 1 ["many"] spFewP) (GB : Cal P w K mg base "need_balanced" 3 ["letters"] (spNeedB K)) (GN : Cal P w K mg base "nexts_of" 1 ["words"] (spNexts K C)) :
    FnOk P w K mg base CX0 4 f fd ["self", "words"] (spInitR K C CR) := by
  refine F.ok scInitR (fun vs H Q E h => ?_) (fun cdv A outer s H vs Q E hr h => ?_)
  · obtain ⟨H0, p, dx, a, xs, ws, rfl, _⟩ := h
    rfl
  · obtain ⟨H0, p, dx, a, xs, ws, rfl, s0, p0, hp, hS, hW, ⟨l1, l4, hne, l24, hl, hb⟩, k⟩ := h
    obtain ⟨tW, mW⟩ := R.words
    refine ⟨_, pss_cons (ps_if (PW.pt (pw_or (pt_not (pt_val (pe_cal GL hr (by decide) (by rfl) (pa_cons (pv 1) pa_nil)))) (pw_or1 (pt_not (pt_chain op_le op_le pe_int (pe_callB call_len_seq (by rfl) TA.len PySem.boot_len (pa_cons (pv 1) pa_nil)) (pe_glob (v := .int 4) (by rfl) mW ⟨_, rfl⟩)))))) (pss_one ps_never) pss_nil)
      (pss_cons (ps_if (pt_not (pt_val (pe_callB (cr_all rfl) (by rfl) T.all (by decide +kernel) (pa_cons (pe_lc (own := [("word", 3)]) (g := gName 3) (tt := tYes) rfl scInitR.nd (pi_list (pv 1))
          (blkOk_by (N := nInitR) (sc := defScope sInitR) (by decide +kernel)) (fun _ _ _ _ _ => pg_name (i := 3) scInitR.nd rfl (Or.inl rfl)) (fun _ _ _ _ _ => pts_nil)
          (fun _ _ _ _ _ => pe_cal GF hr (by decide) (by rfl) (pa_cons (pv 3) pa_nil))) pa_nil)))) (pss_one ps_never) pss_nil)
      (pss_cons (ps_setLc2 (i := 2) (own := [("word", 3), ("letter", 4)]) (vs1 := [4]) (g := gName 3) (tt := tYes) (g1 := gName 4) (tt1 := tYes) rfl scInitR.nd rfl rfl (sw_true rfl rfl rfl (by decide +kernel)) (pi_list (pv 1))
          (blkOk_by (N := nInitR) (sc := defScope sInitR) (by decide +kernel)) (by decide) (fun _ _ _ _ _ => pg_name (i := 3) scInitR.nd rfl (Or.inl rfl)) (fun _ _ _ _ _ => pts_nil)
          (fun _ _ _ _ _ => pi_tupK (K := K) rfl (pe_fldK (K := K) rfl (pv 3) rfl)) (fun _ _ _ _ _ => pg_name (i := 4) scInitR.nd rfl (Or.inl rfl)) (fun _ _ _ _ _ => pts_nil) (fun _ _ _ _ _ => pv 4))
      (pss_cons (ps_expr (pe_cal GP hr (by decide) (by rfl) (pa_cons (pe_callB call_len_seq (by rfl) TA.len PySem.boot_len (pa_cons (pv 2) pa_nil)) pa_nil)))
      (pss_cons (ps_expr (pe_cal GB hr (by decide) (by rfl) (pa_cons (pv 2) pa_nil)))
      (pss_cons (ps_fld (pv 0) (pe_callTy call_tupB (by rfl) TA.tuple (by decide +kernel) (pa_cons (pv 1) pa_nil)) rfl)
      (pss_cons (ps_fld (pv 0) (pe_callTy call_tupB (by rfl) TA.tuple (by decide +kernel) (pa_cons (pv 2) pa_nil)) rfl)
      (pss_cons (ps_fld (pv 0) (pe_callB call_len_seq (by rfl) TA.len PySem.boot_len (pa_cons (pv 2) pa_nil)) rfl)
      (pss_cons (ps_fld (pv 0) (pe_op op_fdiv (pe_callB call_len_seq (by rfl) TA.len PySem.boot_len (pa_cons (pv 2) pa_nil)) pe_int) rfl)
      (pss_cons (ps_fld (pv 0) (pe_callB (cr_all rfl) (by rfl) T.all (by decide +kernel) (pa_cons (pe_lc (own := [("word", 3)]) (g := gName 3) (tt := tYes) rfl scInitR.nd (pi_list (pv 1))
          (blkOk_by (N := nInitR) (sc := defScope sInitR) (by decide +kernel)) (fun _ _ _ _ _ => pg_name (i := 3) scInitR.nd rfl (Or.inl rfl)) (fun _ _ _ _ _ => pts_nil)
          (fun _ _ _ _ _ => pe_fldK (K := K) rfl (pv 3) rfl)) pa_nil)) rfl)
      (pss_cons (ps_fld (pv 0) (pe_callTy call_tupB (by rfl) TA.tuple (by decide +kernel) (pa_cons (pe_lc2 (own := [("home", 5), ("word", 3), ("_", 6)]) (vs1 := [6]) (g := gTup K 2 (gCons (gName 5) (gCons (gName 3) gNil))) (tt := tYes) (g1 := gName 6) (tt1 := tYes) rfl scInitR.nd (pi_enum (by rfl) R.enum (pa_cons (pv 1) pa_nil))
          (blkOk_by (N := nInitR) (sc := defScope sInitR) (by decide +kernel)) (by decide) (fun _ _ _ _ _ => pg_tup (n := 2) rfl (pgs_cons (pg_name (i := 5) scInitR.nd rfl (Or.inl rfl)) (pgs_cons (pg_name (i := 3) scInitR.nd rfl (Or.inl rfl)) pgs_nil))) (fun _ _ _ _ _ => pts_nil)
          (fun _ _ _ _ _ => pi_tupK (K := K) rfl (pe_fldK (K := K) rfl (pv 3) rfl)) (fun _ _ _ _ _ => pg_name (i := 6) scInitR.nd rfl (Or.inl rfl)) (fun _ _ _ _ _ => pts_nil) (fun _ _ _ _ _ => pv 5)) pa_nil)) rfl)
      (pss_one (ps_fld (pv 0) (pe_cal GN hr (by decide) (by rfl) (pa_cons (pv 1) pa_nil)) rfl)))))))))))), ?_⟩
    have lxw : xs.length = ws.length := hW.length
    have E0 : SqE K H0 a (xs.map V.ref) := .inl hS
    refine ⟨_, rfl, a, _, rfl, E0.same s0, fun H1 s1 => ⟨_, rfl, ?_⟩⟩
    have s01 := s0.trans s1
    refine iteF ?_
    have hp1 := s1 _ _ hp
    refine ⟨_, rfl, a, _, rfl, .inl (s01.seq hS), _, _, rfl, rfl, _, rfl, iteT' (decide_eq_true (by rw [List.length_map, lxw]; omega)) ⟨_, _, rfl, rfl, _, rfl, no_ne (decide_eq_true (by rw [List.length_map, lxw]; omega)) ?_⟩⟩
    refine nx_not_lc ?_
    refine ⟨_, rfl, a, rfl, ⟨_, s01.seq hS⟩, ?_⟩
    refine lcp (walk_list (xs := xs.map V.ref)) (fun _ => true) (fun _ => V.bl true) (by rw [List.length_map]; omega) (fun H2 s => (s01.trans s).seq hS) ?_ ?_
    · intro x hx H2 s2 Qy Qn ky kn
      obtain ⟨q, hq, rfl⟩ := List.mem_map.mp hx
      obtain ⟨u, hu, Wq⟩ := All2.mem hW hq
      have up : 0 < u.length := List.length_pos_iff.mpr (hne u hu)
      refine ⟨rfl, yes_te ⟨_, rfl, q, u, rfl, Wq.same (s01.trans s2), ?_⟩⟩
      rw [decide_eq_true (show (0 : Int) < (u.length : Int) by omega)]
      exact ky rfl H2 (fun _ _ e => e)
    intro D1 H2 hD1 s2 h2
    have s02 := s01.trans s2
    have hp2 := s2 _ _ hp1
    refine ⟨D1, xs.map fun _ => true, rfl, SqL.of (by
      rw [h2, List.filter_eq_self.mpr (fun _ _ => rfl), List.map_map, List.map_map]
      rfl), ?_⟩
    have eall : (xs.map fun _ => true).all id = true := by
      rw [List.all_eq_true]
      intro b hb
      obtain ⟨_, _, rfl⟩ := List.mem_map.mp hb
      rfl
    rw [eall]
    refine ⟨_, rfl, iteF ?_⟩
    refine nx_lc2 ?_
    refine ⟨_, rfl, a, rfl, ⟨_, s02.seq hS⟩, ?_⟩
    refine lc2_out (walk_list (xs := xs.map V.ref)) (fun i => iv (ws.getD i [])) (fun H s => (s02.trans s).seq hS) ?_ ?_
    · rintro i x D H H' hi ⟨rfl, hx⟩ hD sm hDD Nx kN
      obtain ⟨q, hq, rfl⟩ : ∃ q, xs[i]? = some q ∧ x = V.ref q := by
        rw [List.getElem?_map] at hx
        cases e : xs[i]? with
        | none => rw [e] at hx; cases hx
        | some q => rw [e] at hx; exact ⟨q, rfl, (Option.some.inj hx).symm⟩
      obtain ⟨u, hu, Wq⟩ := hW.at hq
      have eu : ws.getD i [] = u := by rw [List.getD_eq_getElem?_getD, hu]; rfl
      obtain ⟨dx1, tl, tk, ks, w1, w2, _⟩ := Wq.same s02
      refine ⟨rfl, yes_te ?_⟩
      refine ⟨_, rfl, q, C, dx1, _, _, rfl, sm _ _ w1, T.cl, T.nL, wf_letters, tl, rfl, ⟨_, WR.Same.seqT sm w2.sq⟩, ?_⟩
      have hft := flat_take hu
      refine lc2_in (walk_tup (xs := iv u)) (fun y => y) hD sm hDD ?_ (fun H s => ?_) ?_ ?_
      · rw [flat_to (by have := (List.getElem?_eq_some_iff.mp hu).1; omega)]
        rw [List.length_map, List.length_map]
        omega
      · exact WR.Same.seqT s w2.sq
      · intro y hy H2 s2 Qy ky Qn
        exact ⟨rfl, yes_te ⟨_, rfl, ky H2 (fun _ _ e => e)⟩⟩
      · intro H2 s2 h2
        refine kN H2 s2 ?_
        rw [h2, List.map_id', eu]
    intro D H3 hD s3 h3
    have eD : ((List.range (xs.map V.ref).length).map fun i => iv (ws.getD i [])).flatten = iv ws.flatten := by
      rw [List.length_map, lxw, flat_to (Nat.le_refl _), List.take_length]
    rw [eD] at h3
    refine at_set ?_
    try dsimp only
    have s03 := s02.trans s3
    have hp3 := s3 _ _ hp2
    have elen : ((iv ws.flatten).length : Int) = (ws.flatten.length : Int) := by rw [List.length_map]
    refine ⟨_, rfl, D, _, rfl, .inl (SqL.of h3), _, rfl, by rw [elen]; omega, ?_⟩
    refine ⟨_, rfl, D, ws.flatten, rfl, SqL.of h3, by omega, hl, hb, fun H4 s4 => ?_⟩
    have s04 := s03.trans s4
    have hp4 := s4 _ _ hp3
    have h4 := s4 _ _ h3
    -- its words
    refine ⟨_, rfl, a, _, rfl, .inl ⟨s04.seq hS, fun tw H5 s5 B5 => ?_⟩⟩
    refine ⟨_, rfl, p, CR, dx, _, rfl, s5 _ _ hp4, TC.cl, TC.n1, (by show 0 < 1000; decide), ?_⟩
    have hDp : ¬ D = p := fun c => by
      rw [c, hp4] at h4
      cases h4
    have s05 := s04.trans s5
    have h5 := s5 _ _ h4
    have hpp1 : L2.upd H5 p (.ins CR dx (putF "words" (.ref tw) [])) p = some (.ins CR dx [("words", .ref tw)]) := by rw [upd_same, pr1]
    have s06 := same_put (o := (.ins CR dx (putF "words" (.ref tw) []))) s05 p0
    have w6 := SqB.put (o := (.ins CR dx (putF "words" (.ref tw) []))) B5 (s5 _ _ hp4)
    have h6 : L2.upd H5 p (.ins CR dx (putF "words" (.ref tw) [])) D = some (.lst (iv ws.flatten)) := by rw [upd_ne (fun c => hDp c)]; exact h5
    obtain ⟨H6, eH6⟩ : ∃ H', H' = L2.upd H5 p (.ins CR dx (putF "words" (.ref tw) [])) := ⟨_, rfl⟩
    rw [← eH6] at hpp1 s06 w6 h6 ⊢
    clear eH6
    refine ⟨_, rfl, D, _, rfl, .inl ⟨SqL.of h6, fun tl H7 s7 B7 => ?_⟩⟩
    refine ⟨_, rfl, p, CR, dx, _, rfl, s7 _ _ hpp1, TC.cl, TC.n2, (by show 1 < 1000; decide), ?_⟩
    have s07 := s06.trans s7
    have w7 := SqB.same s7 w6
    have h7 := s7 _ _ h6
    have hpp2 : L2.upd H7 p (.ins CR dx (putF "letters" (.ref tl) [("words", .ref tw)])) p = some (.ins CR dx [("words", .ref tw), ("letters", .ref tl)]) := by rw [upd_same, pr2]
    have s08 := same_put (o := (.ins CR dx (putF "letters" (.ref tl) [("words", .ref tw)]))) s07 p0
    have w8 := SqB.put (o := (.ins CR dx (putF "letters" (.ref tl) [("words", .ref tw)]))) w7 (s7 _ _ hpp1)
    have b8 := SqB.put (o := (.ins CR dx (putF "letters" (.ref tl) [("words", .ref tw)]))) B7 (s7 _ _ hpp1)
    have h8 : L2.upd H7 p (.ins CR dx (putF "letters" (.ref tl) [("words", .ref tw)])) D = some (.lst (iv ws.flatten)) := by rw [upd_ne (fun c => hDp c)]; exact h7
    obtain ⟨H8, eH8⟩ : ∃ H', H' = L2.upd H7 p (.ins CR dx (putF "letters" (.ref tl) [("words", .ref tw)])) := ⟨_, rfl⟩
    rw [← eH8] at hpp2 s08 w8 b8 h8 ⊢
    clear eH8
    refine ⟨_, rfl, D, _, rfl, .inl (SqL.of h8), ?_⟩
    rw [elen]
    refine ⟨_, rfl, p, CR, dx, _, rfl, hpp2, TC.cl, TC.n3, (by show 2 < 1000; decide), ?_⟩
    have hpp3 : L2.upd H8 p (.ins CR dx (putF "many" (.int (ws.flatten.length : Nat)) [("words", .ref tw), ("letters", .ref tl)])) p = some (.ins CR dx [("words", .ref tw), ("letters", .ref tl), ("many", .int (ws.flatten.length : Nat))]) := by rw [upd_same, pr3]
    have s09 := same_put (o := (.ins CR dx (putF "many" (.int (ws.flatten.length : Nat)) [("words", .ref tw), ("letters", .ref tl)]))) s08 p0
    have w9 := SqB.put (o := (.ins CR dx (putF "many" (.int (ws.flatten.length : Nat)) [("words", .ref tw), ("letters", .ref tl)]))) w8 hpp2
    have b9 := SqB.put (o := (.ins CR dx (putF "many" (.int (ws.flatten.length : Nat)) [("words", .ref tw), ("letters", .ref tl)]))) b8 hpp2
    have h9 : L2.upd H8 p (.ins CR dx (putF "many" (.int (ws.flatten.length : Nat)) [("words", .ref tw), ("letters", .ref tl)])) D = some (.lst (iv ws.flatten)) := by rw [upd_ne (fun c => hDp c)]; exact h8
    obtain ⟨H9, eH9⟩ : ∃ H', H' = L2.upd H8 p (.ins CR dx (putF "many" (.int (ws.flatten.length : Nat)) [("words", .ref tw), ("letters", .ref tl)])) := ⟨_, rfl⟩
    rw [← eH9] at hpp3 s09 w9 b9 h9 ⊢
    clear eH9
    refine ⟨_, rfl, D, _, rfl, .inl (SqL.of h9), _, _, rfl, rfl, ⟨by decide, by decide⟩, ?_⟩
    rw [elen]
    have e2 : ((ws.flatten.length : Nat) : Int) / 2 = ((ws.flatten.length / 2 : Nat) : Int) := by omega
    try dsimp only
    rw [e2]
    refine ⟨_, rfl, p, CR, dx, _, rfl, hpp3, TC.cl, TC.n4, (by show 3 < 1000; decide), ?_⟩
    have hpp4 : L2.upd H9 p (.ins CR dx (putF "bands" (.int ((ws.flatten.length / 2) : Nat)) [("words", .ref tw), ("letters", .ref tl), ("many", .int (ws.flatten.length : Nat))])) p = some (.ins CR dx [("words", .ref tw), ("letters", .ref tl), ("many", .int (ws.flatten.length : Nat)), ("bands", .int ((ws.flatten.length / 2) : Nat))]) := by rw [upd_same, pr4]
    have s0A := same_put (o := (.ins CR dx (putF "bands" (.int ((ws.flatten.length / 2) : Nat)) [("words", .ref tw), ("letters", .ref tl), ("many", .int (ws.flatten.length : Nat))]))) s09 p0
    have wA := SqB.put (o := (.ins CR dx (putF "bands" (.int ((ws.flatten.length / 2) : Nat)) [("words", .ref tw), ("letters", .ref tl), ("many", .int (ws.flatten.length : Nat))]))) w9 hpp3
    have bA := SqB.put (o := (.ins CR dx (putF "bands" (.int ((ws.flatten.length / 2) : Nat)) [("words", .ref tw), ("letters", .ref tl), ("many", .int (ws.flatten.length : Nat))]))) b9 hpp3
    obtain ⟨HA, eHA⟩ : ∃ H', H' = L2.upd H9 p (.ins CR dx (putF "bands" (.int ((ws.flatten.length / 2) : Nat)) [("words", .ref tw), ("letters", .ref tl), ("many", .int (ws.flatten.length : Nat))])) := ⟨_, rfl⟩
    rw [← eHA] at hpp4 s0A wA bA ⊢
    clear eHA
    have sqA := s0A.seq hS
    have WA : Wds K C HA xs ws := hW.same s0A
    refine sq_fld ?_
    refine cb_lc ?_
    refine ⟨_, rfl, a, rfl, ⟨_, sqA⟩, ?_⟩
    refine lcM (walk_list (K := K) (a := a) (xs := xs.map V.ref)) ws (fun _ _ v u => v = V.bl (decide (Fr.rnd u = u))) (fun _ _ _ _ _ h _ => h) (fun _ _ _ _ _ _ _ h => h) (by rw [List.length_map]; omega) (by rw [List.length_map]; exact lxw) (fun H s => s.seq sqA) ?_ (fun x σ1 H A B k h => gName_mono k h) ?_
    · intro i x u hx hu D2 H2 hD2 _ s2 Qy ky
      obtain ⟨q, hq, rfl⟩ : ∃ q, xs[i]? = some q ∧ x = V.ref q := by
        rw [List.getElem?_map] at hx
        cases e : xs[i]? with
        | none => rw [e] at hx; cases hx
        | some q => rw [e] at hx; exact ⟨q, rfl, (Option.some.inj hx).symm⟩
      obtain ⟨u', hu', Wq⟩ := WA.at hq
      obtain rfl : u' = u := Option.some.inj (hu'.symm.trans hu)
      obtain ⟨dx1, tl1, tk, ks, w1, _⟩ := Wq.same s2
      exact ⟨rfl, _, rfl, q, C, dx1, _, _, rfl, w1, T.cl, T.nR, wf_round, ky _ H2 (fun _ _ e => e) rfl⟩
    intro D2 HB bs hD2 sB hB2 hbs
    rw [all_bl hbs] at hB2
    refine ⟨D2, _, rfl, SqL.of hB2, ?_⟩
    rw [all_map]
    have s0B := s0A.trans sB
    have wB := SqB.same sB wA
    have bB := SqB.same sB bA
    refine ⟨_, rfl, p, CR, dx, _, rfl, sB _ _ hpp4, TC.cl, TC.n5, (by show 4 < 1000; decide), ?_⟩
    have hpp5 : L2.upd HB p (.ins CR dx (putF "is_short" (.bl (ws.all fun w => decide (Fr.rnd w = w))) [("words", .ref tw), ("letters", .ref tl), ("many", .int (ws.flatten.length : Nat)), ("bands", .int ((ws.flatten.length / 2) : Nat))])) p = some (.ins CR dx [("words", .ref tw), ("letters", .ref tl), ("many", .int (ws.flatten.length : Nat)), ("bands", .int ((ws.flatten.length / 2) : Nat)), ("is_short", .bl (ws.all fun w => decide (Fr.rnd w = w)))]) := by rw [upd_same, pr5]
    have s0C := same_put (o := (.ins CR dx (putF "is_short" (.bl (ws.all fun w => decide (Fr.rnd w = w))) [("words", .ref tw), ("letters", .ref tl), ("many", .int (ws.flatten.length : Nat)), ("bands", .int ((ws.flatten.length / 2) : Nat))]))) s0B p0
    have wC := SqB.put (o := (.ins CR dx (putF "is_short" (.bl (ws.all fun w => decide (Fr.rnd w = w))) [("words", .ref tw), ("letters", .ref tl), ("many", .int (ws.flatten.length : Nat)), ("bands", .int ((ws.flatten.length / 2) : Nat))]))) wB (sB _ _ hpp4)
    have bC := SqB.put (o := (.ins CR dx (putF "is_short" (.bl (ws.all fun w => decide (Fr.rnd w = w))) [("words", .ref tw), ("letters", .ref tl), ("many", .int (ws.flatten.length : Nat)), ("bands", .int ((ws.flatten.length / 2) : Nat))]))) bB (sB _ _ hpp4)
    obtain ⟨HC, eHC⟩ : ∃ H', H' = L2.upd HB p (.ins CR dx (putF "is_short" (.bl (ws.all fun w => decide (Fr.rnd w = w))) [("words", .ref tw), ("letters", .ref tl), ("many", .int (ws.flatten.length : Nat)), ("bands", .int ((ws.flatten.length / 2) : Nat))])) := ⟨_, rfl⟩
    rw [← eHC] at hpp5 s0C wC bC ⊢
    clear eHC
    have sqC := s0C.seq hS
    have WC : Wds K C HC xs ws := hW.same s0C
    try dsimp only
    refine sq_fld ?_
    refine cb_lc2 ?_
    refine ⟨_, rfl, a, _, rfl, sqC, ?_⟩
    refine lc2_out (walk_enum (xs := xs.map V.ref)) (fun i => iv (List.replicate (ws.getD i []).length ((0 + i : Nat) : Int))) (fun H s => s.seq sqC) ?_ ?_
    · rintro i x D3 H H' hi ⟨T3, y1, y2, rfl, hT, rfl, e1, hx⟩ hD sm hDD Nx kN
      cases e1
      have hx : (xs.map V.ref)[i]? = some y2 := hx
      obtain ⟨q, hq, rfl⟩ : ∃ q, xs[i]? = some q ∧ y2 = V.ref q := by
        rw [List.getElem?_map] at hx
        cases e : xs[i]? with
        | none => rw [e] at hx; cases hx
        | some q => rw [e] at hx; exact ⟨q, rfl, (Option.some.inj hx).symm⟩
      obtain ⟨u, hu, Wq⟩ := WC.at hq
      have eu : ws.getD i [] = u := by rw [List.getD_eq_getElem?_getD, hu]; rfl
      have sT := same_upd (o := .tup [.int (i : Nat), .ref q]) hT
      have smT := sm.trans sT
      obtain ⟨dx1, tl1, tk, ks, w1, w2, _⟩ := Wq
      have hft := flat_take hu
      refine ⟨T3, _, rfl, SqT.of upd_same, rfl, _, _, rfl, _, _, rfl, rfl, ?_⟩
      refine ⟨rfl, yes_te ?_⟩
      refine ⟨_, rfl, q, C, dx1, _, _, rfl, smT _ _ w1, T.cl, T.nL, wf_letters, tl1, rfl, ⟨_, WR.Same.seqT smT w2.sq⟩, ?_⟩
      refine lc2_in (walk_tup (xs := iv u)) (fun _ => .int ((0 + i : Nat) : Int)) hD smT (sT _ _ hDD) ?_ (fun H s => WR.Same.seqT s w2.sq) ?_ ?_
      · have el : ∀ j, j ≤ ws.length → (((List.range j).map fun i => iv (List.replicate (ws.getD i []).length ((0 + i : Nat) : Int))).flatten).length = (ws.take j).flatten.length := by
          intro j
          induction j with
          | zero => intro _; rfl
          | succ j ih =>
            intro hj
            have ej : ws[j]? = some (ws.getD j []) := by
              rw [List.getD_eq_getElem?_getD, List.getElem?_eq_getElem (show j < ws.length by omega)]
              rfl
            rw [List.range_succ, List.map_append, List.flatten_append, List.length_append, ih (by omega), List.take_succ_eq_append_getElem (show j < ws.length by omega), List.flatten_append, List.length_append]
            simp only [List.map_cons, List.map_nil, List.flatten_cons, List.flatten_nil, List.append_nil, List.length_map, List.length_replicate]
            rw [List.getD_eq_getElem?_getD, List.getElem?_eq_getElem (show j < ws.length by omega)]
            rfl
        rw [el i (by have := (List.getElem?_eq_some_iff.mp hu).1; omega), List.length_map]
        omega
      · intro y hy H2 s2 Qy ky Qn
        refine ⟨rfl, yes_te ⟨_, rfl, ?_⟩⟩
        have := ky H2 (fun _ _ e => e)
        rw [Nat.zero_add] at this
        exact this
      · intro H2 s2 h2
        refine kN H2 s2 ?_
        rw [h2, eu]
        congr 3
        unfold iv
        rw [List.map_map, List.map_replicate]
        exact List.map_const ..
    intro D3 HD hD3 sD hDD
    rw [List.length_map, lxw, hm_to ws 0] at hDD
    have s0D := s0C.trans sD
    refine ⟨D3, _, rfl, .inl ⟨SqL.of hDD, fun th HE sE BE => ?_⟩⟩
    have s0E := s0D.trans sE
    have sCE := sD.trans sE
    have wE := SqB.same sCE wC
    have bE := SqB.same sCE bC
    refine ⟨_, rfl, p, CR, dx, _, rfl, sCE _ _ hpp5, TC.cl, TC.n6, (by show 5 < 1000; decide), ?_⟩
    have hpp6 : L2.upd HE p (.ins CR dx (putF "homes" (.ref th) [("words", .ref tw), ("letters", .ref tl), ("many", .int (ws.flatten.length : Nat)), ("bands", .int ((ws.flatten.length / 2) : Nat)), ("is_short", .bl (ws.all fun w => decide (Fr.rnd w = w)))])) p = some (.ins CR dx [("words", .ref tw), ("letters", .ref tl), ("many", .int (ws.flatten.length : Nat)), ("bands", .int ((ws.flatten.length / 2) : Nat)), ("is_short", .bl (ws.all fun w => decide (Fr.rnd w = w))), ("homes", .ref th)]) := by rw [upd_same, pr6]
    have s0F := same_put (o := (.ins CR dx (putF "homes" (.ref th) [("words", .ref tw), ("letters", .ref tl), ("many", .int (ws.flatten.length : Nat)), ("bands", .int ((ws.flatten.length / 2) : Nat)), ("is_short", .bl (ws.all fun w => decide (Fr.rnd w = w)))]))) s0E p0
    have wF := SqB.put (o := (.ins CR dx (putF "homes" (.ref th) [("words", .ref tw), ("letters", .ref tl), ("many", .int (ws.flatten.length : Nat)), ("bands", .int ((ws.flatten.length / 2) : Nat)), ("is_short", .bl (ws.all fun w => decide (Fr.rnd w = w)))]))) wE (sCE _ _ hpp5)
    have bF := SqB.put (o := (.ins CR dx (putF "homes" (.ref th) [("words", .ref tw), ("letters", .ref tl), ("many", .int (ws.flatten.length : Nat)), ("bands", .int ((ws.flatten.length / 2) : Nat)), ("is_short", .bl (ws.all fun w => decide (Fr.rnd w = w)))]))) bE (sCE _ _ hpp5)
    have tF := SqB.put (o := (.ins CR dx (putF "homes" (.ref th) [("words", .ref tw), ("letters", .ref tl), ("many", .int (ws.flatten.length : Nat)), ("bands", .int ((ws.flatten.length / 2) : Nat)), ("is_short", .bl (ws.all fun w => decide (Fr.rnd w = w)))]))) BE (sCE _ _ hpp5)
    obtain ⟨HF, eHF⟩ : ∃ H', H' = L2.upd HE p (.ins CR dx (putF "homes" (.ref th) [("words", .ref tw), ("letters", .ref tl), ("many", .int (ws.flatten.length : Nat)), ("bands", .int ((ws.flatten.length / 2) : Nat)), ("is_short", .bl (ws.all fun w => decide (Fr.rnd w = w)))])) := ⟨_, rfl⟩
    rw [← eHF] at hpp6 s0F wF bF tF ⊢
    clear eHF
    refine ⟨_, rfl, a, xs, ws, rfl, s0F.seq hS, hW.same s0F, l4, hne, l24, fun tn HG sG BG => ?_⟩
    have s0G := s0F.trans sG
    have wG := SqB.same sG wF
    have bG := SqB.same sG bF
    have tG := SqB.same sG tF
    refine ⟨_, rfl, p, CR, dx, _, rfl, sG _ _ hpp6, TC.cl, TC.n7, (by show 6 < 1000; decide), ?_⟩
    have hpp7 : L2.upd HG p (.ins CR dx (putF "nexts" (.ref tn) [("words", .ref tw), ("letters", .ref tl), ("many", .int (ws.flatten.length : Nat)), ("bands", .int ((ws.flatten.length / 2) : Nat)), ("is_short", .bl (ws.all fun w => decide (Fr.rnd w = w))), ("homes", .ref th)])) p = some (.ins CR dx (rf tw tl ws.flatten.length (ws.flatten.length / 2) (ws.all fun w => decide (Fr.rnd w = w)) th tn)) := by rw [upd_same, pr7]
    have s0I := same_put (o := (.ins CR dx (putF "nexts" (.ref tn) [("words", .ref tw), ("letters", .ref tl), ("many", .int (ws.flatten.length : Nat)), ("bands", .int ((ws.flatten.length / 2) : Nat)), ("is_short", .bl (ws.all fun w => decide (Fr.rnd w = w))), ("homes", .ref th)]))) s0G p0
    have wI := SqB.put (o := (.ins CR dx (putF "nexts" (.ref tn) [("words", .ref tw), ("letters", .ref tl), ("many", .int (ws.flatten.length : Nat)), ("bands", .int ((ws.flatten.length / 2) : Nat)), ("is_short", .bl (ws.all fun w => decide (Fr.rnd w = w))), ("homes", .ref th)]))) wG (sG _ _ hpp6)
    have bI := SqB.put (o := (.ins CR dx (putF "nexts" (.ref tn) [("words", .ref tw), ("letters", .ref tl), ("many", .int (ws.flatten.length : Nat)), ("bands", .int ((ws.flatten.length / 2) : Nat)), ("is_short", .bl (ws.all fun w => decide (Fr.rnd w = w))), ("homes", .ref th)]))) bG (sG _ _ hpp6)
    have tI := SqB.put (o := (.ins CR dx (putF "nexts" (.ref tn) [("words", .ref tw), ("letters", .ref tl), ("many", .int (ws.flatten.length : Nat)), ("bands", .int ((ws.flatten.length / 2) : Nat)), ("is_short", .bl (ws.all fun w => decide (Fr.rnd w = w))), ("homes", .ref th)]))) tG (sG _ _ hpp6)
    have nI := SqB.put (o := (.ins CR dx (putF "nexts" (.ref tn) [("words", .ref tw), ("letters", .ref tl), ("many", .int (ws.flatten.length : Nat)), ("bands", .int ((ws.flatten.length / 2) : Nat)), ("is_short", .bl (ws.all fun w => decide (Fr.rnd w = w))), ("homes", .ref th)]))) BG (sG _ _ hpp6)
    obtain ⟨HI, eHI⟩ : ∃ H', H' = L2.upd HG p (.ins CR dx (putF "nexts" (.ref tn) [("words", .ref tw), ("letters", .ref tl), ("many", .int (ws.flatten.length : Nat)), ("bands", .int ((ws.flatten.length / 2) : Nat)), ("is_short", .bl (ws.all fun w => decide (Fr.rnd w = w))), ("homes", .ref th)])) := ⟨_, rfl⟩
    rw [← eHI] at hpp7 s0I wI bI tI nI ⊢
    clear eHI
    exact k HI s0I ⟨dx, tw, tl, th, tn, hpp7, wI, hW.same s0I, bI, tI, nI⟩
end
end W13
set_option Elab.async false
set_option linter.all false
set_option maxRecDepth 100000
set_option maxHeartbeats 2000000
namespace TE
open PySem PySem.SeqAt PySem.Spec PyProof.Rows
open AutoSeq1 (wpAny_loadPart')
section
variable {P : Program} {w : World} {A : Around} {R : Result → Shared → Prop}
/-- the whole answer -/
abbrev ans (xs ys : Array Value) (e : Nat → Bool) : Bool := (List.range (min xs.size ys.size)).all e && xs.size == ys.size
theorem tup_eq (l b : Addr) (xs ys : Array Value) (n k : Nat) (d1 d2 : Option Addr) (o1 o2 : Array (Option Value)) (e : Nat → Bool) (I : Nat → Shared → Prop)
    (step : ∀ i (h1 : i < xs.size) (h2 : i < ys.size) t, I i t → wpAny (model P w) A.in1 (eqBool xs[i] ys[i]) (fun r t' => r = e i ∧ I (i + 1) t') (fun x t' => R (.error x) t') t)
    (out : ∀ i t, I i t → R (.ok (.ret (.bool (ans xs ys e)))) t) {s : Shared} (at1 : s.heap.get? l = some { cls := .type "tuple", dict := d1, data := .seq xs n, slots := o1 }) (at2 : s.heap.get? b = some { cls := .type "tuple", dict := d2, data := .seq ys k, slots := o2 }) (start : I 0 s) :
    wpAny (model P w) A.in1 (Builtin.«tuple.__eq__» ⟨[.ref l, .ref b], []⟩) (GQ.FinOf P w A R) (fun x t => R (.error x) t) s := by
  have sub := AutoSeq1.sub_tuple_tuple
  have len : (xs.toList.zip ys.toList).length = min xs.size ys.size := by simp
  have i0 := start
  obtain ⟨hp, g, d, tk, os⟩ := s
  wp_walk using wpAny_loadPart' at1, wpAny_loadPart' at2, wpAny_forIn_list _ (fun rest b t => b.1 = none ∧ ∃ i, rest = (xs.toList.zip ys.toList).drop i ∧ (∀ j, j < i → j < min xs.size ys.size → e j = true) ∧ I i t) _
  case turn =>
    rintro ⟨y, x⟩ rest b t ⟨hb, i, hz, before, it⟩
    have lt : i < (xs.toList.zip ys.toList).length := Nat.lt_of_not_le fun h' => by
      rw [List.drop_of_length_le h'] at hz
      cases hz
    have lm : i < min xs.size ys.size := len ▸ lt
    have h1 : i < xs.size := by omega
    have h2 : i < ys.size := by omega
    rw [List.drop_eq_getElem_cons lt] at hz
    obtain ⟨pq, more⟩ := List.cons.inj hz
    obtain rfl : y = xs[i] := by simpa using congrArg Prod.fst pq
    obtain rfl : x = ys[i] := by simpa using congrArg Prod.snd pq
    refine wpAny_bind (wpAny_mono (step i h1 h2 t it) (fun r t2 q => ?_) fun _ _ z => z)
    obtain ⟨rfl, it2⟩ := q
    cases he : e i with
    | true =>
      wp_walk
      refine ⟨rfl, i + 1, more, fun j hj lj => ?_, it2⟩
      rcases Nat.lt_succ_iff_lt_or_eq.mp hj with h | rfl
      · exact before j h lj
      · exact he
    | false =>
      wp_walk
      have no : ans xs ys e = false := by
        have : (List.range (min xs.size ys.size)).all e = false := List.all_eq_false.mpr ⟨i, List.mem_range.mpr lm, by rw [he]; decide⟩
        rw [ans, this, Bool.false_and]
      have := out _ _ it2
      rw [no] at this
      exact this
  case fin =>
    rintro ⟨b1, b2⟩ t ⟨hb, i, hz, before, it⟩
    simp only at hb
    subst hb
    have ge : min xs.size ys.size ≤ i := Nat.le_of_not_lt fun h => by
      rw [List.drop_eq_getElem_cons (len ▸ h)] at hz
      cases hz
    have yes : (List.range (min xs.size ys.size)).all e = true := List.all_eq_true.mpr fun j hj => before j (by have := List.mem_range.mp hj; omega) (List.mem_range.mp hj)
    have fin := out _ _ it
    rw [ans, yes, Bool.true_and] at fin
    wp_walk
    simpa [Builtin.Tuple.tupleCompareSizes] using fin
  case h => exact ⟨rfl, 0, rfl, fun j hj => absurd hj (Nat.not_lt_zero j), i0⟩
end
end TE
set_option Elab.async false
set_option linter.all false
set_option maxRecDepth 100000
set_option maxHeartbeats 1000000
namespace W13
open PySem L2 PySem.Spec PyProof.Rows WR WB
section
variable {X : Cx} {C : Addr} {pins : List (Addr × Obj)} {σ : L2.St} {H : Hp} {s : Shared}
theorem vals_ints_inj : ∀ {ns ms : List Int} {us : List Value}, Vals (iv ns) us → Vals (iv ms) us → ns = ms
  | [], [], _, _, _ => rfl
  | [], _ :: _, _, .nil, h => nomatch h
  | _ :: _, [], _, h, .nil => nomatch h
  | n :: ns, m :: ms, _, .cons h1 t1, h2 => by
    cases h2 with
    | cons h3 t3 =>
      obtain ⟨t, rfl⟩ := h1
      obtain ⟨t', e⟩ := h3
      cases e
      rw [vals_ints_inj t1 t3]
theorem word_inj (I : Inv X pins σ H s) {p : Addr} {ns ms : List Int} (h1 : WordAt X.K C H p ns) (h2 : WordAt X.K C H p ms) : ns = ms := by
  obtain ⟨dx, tl, tk, ks, a1, a2, _⟩ := h1
  obtain ⟨dy, ul, uk, js, b1, b2, _⟩ := h2
  have e := Option.some.inj (a1.symm.trans b1)
  injection e with _ _ ef
  have et : tl = ul := by
    have := List.cons.inj ef
    have := Prod.mk.inj this.1
    injection this.2
  subst et
  obtain ⟨its, v1, ⟨o1, g1, _, n1, d1⟩, _⟩ := I.tuple a2.sq
  obtain ⟨its2, v2, ⟨o2, g2, _, n2, d2⟩, _⟩ := I.tuple b2.sq
  have eo := Option.some.inj (g1.symm.trans g2)
  subst eo
  have ei : its = its2 := by
    have := d1.symm.trans d2
    injection this with this
    simpa using this
  subst ei
  exact vals_ints_inj v1 v2
theorem rcW (M : EqW X.prog X.w X.K X.mg X.base C) {A : Around} (sb : Sub X 1 A) (I : Inv X pins σ H s) {a b : Addr} {ns ms : List Int} (W1 : WordAt X.K C H a ns) (W2 : WordAt X.K C H b ms) :
    wpAny (model X.prog X.w) A (richCompare .Eq (.ref a) (.ref b)) (fun r s' => r = .bool (decide (ns = ms)) ∧ Inv X pins σ H s') X.xe s := by
  obtain ⟨f, fd, F, hs, hf, hb⟩ := M.ex
  obtain ⟨dx, tl, tk, ks, ha, _⟩ := id W1
  obtain ⟨dx', tl', tk', ks', hb', _⟩ := id W2
  obtain ⟨mA, J, _⟩ := ins_get I.hok ha
  obtain ⟨mB, J', _⟩ := ins_get I.hok hb'
  obtain ⟨od, J, _⟩ := J.look
  obtain ⟨od', J', _⟩ := J'.look
  obtain ⟨m, hF⟩ := I.fr
  refine PySem.W.cmp_K (op := .Eq) (tb := .ref C) sb.room.units0 hF I.ok.mod.kin J J'.type (by simp [PySem.W.notFirst]) hs hf ?_
  have hsp : spEq X.K C [.ref a, .ref b] H (fun v H' => v = .bl (decide (ns = ms)) ∧ H' = H) E0 := ⟨a, b, ns, ms, rfl, W1, W2, rfl, rfl⟩
  have e0 : Env0 X.prog X.w X.K X.mg X.base A X.stack s H := by
    have e := I.env0
    exact ⟨by rw [sb.fr]; exact e.frames, e.mod, e.bs, e.bsz, e.funs, e.frf, e.hok, e.bare⟩
  have hl := F.len _ _ _ _ hsp
  have r2 : Vals [V.ref a, V.ref b] [Value.ref a, Value.ref b] := .cons rfl (.cons rfl .nil)
  refine wpAny_call (codeAny_mono (F.run A X.stack s H ⟨[.ref a, .ref b], []⟩ [.ref a, .ref b] [.ref a, .ref b] _ E0 sb.room e0 (by
    have := hb s [.ref a, .ref b] I.kIn (by simpa using hl)
    simpa using this) r2 hsp) fun r s' hq => ?_)
  cases r with
  | error e => exact pass0 pins σ H s e s' I hq
  | ok fl =>
    cases fl with
    | ret w =>
      obtain ⟨z, H', I', rz, ez, eH⟩ := I.after hq
      subst ez eH
      cases rz
      exact ⟨rfl, I'⟩
    | next => exact False.elim hq
    | brk => exact False.elim hq
    | cont => exact False.elim hq
theorem ebW (M : EqW X.prog X.w X.K X.mg X.base C) {A : Around} (sb : Sub X 1 A) (I : Inv X pins σ H s) {a b : Addr} {ns ms : List Int} (W1 : WordAt X.K C H a ns) (W2 : WordAt X.K C H b ms) :
    wpAny (model X.prog X.w) A (eqBool (.ref a) (.ref b)) (fun r s' => r = decide (ns = ms) ∧ Inv X pins σ H s') X.xe s := by
  by_cases hab : a = b
  · subst hab
    have e := word_inj I W1 W2
    subst e
    exact (SeqAt.EqAt.same (A := A) (s := s) (.ref a)) X.prog X.w X.xe _ ⟨(decide_eq_true rfl).symm, I⟩
  · refine GQ.eqBool_refG hab (wpAny_mono (rcW M sb I W1 W2) (fun v s' q => ⟨_, q.1, rfl, q.2⟩) fun _ _ z => z)
end
def rEqWT (K : PySem.W.Frag) (C : Addr) : R2 := fun x y H Q => ∃ (a b : Addr) (xs ys : List Addr) (ws vs : List (List Int)), x = .ref a ∧ y = .ref b ∧ SqT K H a (xs.map V.ref) ∧ SqT K H b (ys.map V.ref) ∧ Wds K C H xs ws ∧ Wds K C H ys vs ∧ Q (.bl (decide (ws = vs))) H
theorem all_same {ws vs : List (List Int)} {n m : Nat} (hn : n = ws.length) (hm : m = vs.length) : (((List.range (min n m)).all fun i => decide (ws.getD i [] = vs.getD i [])) && n == m) = decide (ws = vs) := by
  subst hn hm
  rw [Bool.eq_iff_iff, Bool.and_eq_true, List.all_eq_true, decide_eq_true_eq, beq_iff_eq]
  constructor
  · rintro ⟨h1, h2⟩
    refine List.ext_getElem h2 fun i a b => ?_
    have := of_decide_eq_true (h1 i (List.mem_range.mpr (by omega)))
    rw [List.getD_eq_getElem?_getD, List.getD_eq_getElem?_getD, List.getElem?_eq_getElem a, List.getElem?_eq_getElem b] at this
    exact this
  · rintro rfl
    exact ⟨fun i _ => decide_eq_true rfl, rfl⟩
section
variable {X : Cx} {C : Addr}
theorem op_eqWT (M : EqW X.prog X.w X.K X.mg X.base C) {j : Nat} (hr : Room j X.A) (hj : 2 ≤ j) : OpR X (compareOp .Eq) (rEqWT X.K C) := by
  intro pins s σ H x y u v Q I rx ry d
  obtain ⟨a, b, xs, ys, ws, vs, rfl, rfl, ha, hb, hW, hV, q⟩ := d
  cases rx
  cases ry
  have rm : Room 2 X.A := hr.mono hj
  obtain ⟨its, r, ⟨⟨cls, dd, data, sl⟩, ho, hc, n, hd⟩, _⟩ := I.tuple ha
  obtain ⟨its2, r2, ⟨⟨cls2, dd2, data2, sl2⟩, ho2, hc2, n2, hd2⟩, _⟩ := I.tuple hb
  simp only at hc hd hc2 hd2
  subst hc hd hc2 hd2
  have l1 : its.toArray.size = ws.length := by rw [List.size_toArray, ← r.length, List.length_map, hW.length]
  have l2 : its2.toArray.size = vs.length := by rw [List.size_toArray, ← r2.length, List.length_map, hV.length]
  have sb : Sub X 1 X.A.in1 := ⟨rm.in1, rfl⟩
  show wpAny (model X.prog X.w) X.A (richCompare .Eq (.ref a) (.ref b)) (EP X pins σ Q) X.xe s
  refine wpAny_richCompare_same_room (op := .Eq) ⟨_, ho, rfl⟩ ⟨_, ho2, rfl⟩ PySem.F.slot_tuple_eq (GQ.call_here PySem.F.slot_tuple_eq ⟨_, ho, rfl⟩ PySem.F.entry_tuple_eq (PySem.F.args_tuple_eq_2 _ _) ?_) rm.units0
  refine TE.tup_eq a b its.toArray its2.toArray n n2 dd dd2 sl sl2 (fun i => decide (ws.getD i [] = vs.getD i [])) (fun _ t => Inv X pins σ H t) (fun i h1 h2 t It => ?_) (fun i t It => ?_) ho ho2 I
  · have k1 : i < xs.length := by rw [hW.length]; omega
    have k2 : i < ys.length := by rw [hV.length]; omega
    obtain ⟨w1, hw1, Wa⟩ := hW.at (List.getElem?_eq_getElem k1)
    obtain ⟨w2, hw2, Wb⟩ := hV.at (List.getElem?_eq_getElem k2)
    obtain ⟨u1, hu1, ru1⟩ := r.get (show (xs.map V.ref)[i]? = some (V.ref xs[i]) by rw [List.getElem?_map, List.getElem?_eq_getElem k1]; rfl)
    obtain ⟨u2, hu2, ru2⟩ := r2.get (show (ys.map V.ref)[i]? = some (V.ref ys[i]) by rw [List.getElem?_map, List.getElem?_eq_getElem k2]; rfl)
    cases ru1
    cases ru2
    have e1 : its.toArray[i] = .ref xs[i] := by
      have := (List.getElem?_eq_some_iff.mp hu1).2
      simpa using this
    have e2 : its2.toArray[i] = .ref ys[i] := by
      have := (List.getElem?_eq_some_iff.mp hu2).2
      simpa using this
    rw [e1, e2, List.getD_eq_getElem?_getD, List.getD_eq_getElem?_getD, hw1, hw2]
    exact ebW M sb It Wa Wb
  · have e : TE.ans its.toArray its2.toArray (fun i => decide (ws.getD i [] = vs.getD i [])) = decide (ws = vs) := all_same l1 l2
    rw [e]
    exact ⟨(fun z => nomatch z), .bl _, H, It, rfl, q⟩
end
end W13
set_option Elab.async false
set_option linter.all false
set_option maxRecDepth 100000
set_option maxHeartbeats 1000000
namespace W13
open PySem L2 PySem.Spec PyProof.Rows WR WB
theorem rf_words {tw tl th tn : Addr} {n b : Nat} {sh : Bool} : (rf tw tl n b sh th tn).lookup ("words" : Str) = some (.ref tw) := by
  unfold rf
  exact lk_eq
theorem rf_letters {tw tl th tn : Addr} {n b : Nat} {sh : Bool} : (rf tw tl n b sh th tn).lookup ("letters" : Str) = some (.ref tl) := by
  unfold rf
  rw [lk_ne (show ¬ (("letters" : Str) = "words") by decide +kernel)]
  exact lk_eq
theorem rf_many {tw tl th tn : Addr} {n b : Nat} {sh : Bool} : (rf tw tl n b sh th tn).lookup ("many" : Str) = some (.int (n : Int)) := by
  unfold rf
  rw [lk_ne (show ¬ (("many" : Str) = "words") by decide +kernel), lk_ne (show ¬ (("many" : Str) = "letters") by decide +kernel)]
  exact lk_eq
theorem rf_bands {tw tl th tn : Addr} {n b : Nat} {sh : Bool} : (rf tw tl n b sh th tn).lookup ("bands" : Str) = some (.int (b : Int)) := by
  unfold rf
  rw [lk_ne (show ¬ (("bands" : Str) = "words") by decide +kernel), lk_ne (show ¬ (("bands" : Str) = "letters") by decide +kernel), lk_ne (show ¬ (("bands" : Str) = "many") by decide +kernel)]
  exact lk_eq
theorem rf_homes {tw tl th tn : Addr} {n b : Nat} {sh : Bool} : (rf tw tl n b sh th tn).lookup ("homes" : Str) = some (.ref th) := by
  unfold rf
  rw [lk_ne (show ¬ (("homes" : Str) = "words") by decide +kernel), lk_ne (show ¬ (("homes" : Str) = "letters") by decide +kernel), lk_ne (show ¬ (("homes" : Str) = "many") by decide +kernel), lk_ne (show ¬ (("homes" : Str) = "bands") by decide +kernel), lk_ne (show ¬ (("homes" : Str) = "is_short") by decide +kernel)]
  exact lk_eq
theorem rf_nexts {tw tl th tn : Addr} {n b : Nat} {sh : Bool} : (rf tw tl n b sh th tn).lookup ("nexts" : Str) = some (.ref tn) := by
  unfold rf
  rw [lk_ne (show ¬ (("nexts" : Str) = "words") by decide +kernel), lk_ne (show ¬ (("nexts" : Str) = "letters") by decide +kernel), lk_ne (show ¬ (("nexts" : Str) = "many") by decide +kernel), lk_ne (show ¬ (("nexts" : Str) = "bands") by decide +kernel), lk_ne (show ¬ (("nexts" : Str) = "is_short") by decide +kernel), lk_ne (show ¬ (("nexts" : Str) = "homes") by decide +kernel)]
  exact lk_eq
theorem RimsAt.same {K : PySem.W.Frag} {C CR : Addr} {H H' : Hp} {p : Addr} {xs : List Addr} {ws : List (List Int)} (h : RimsAt K C CR H p xs ws) (s : Same H H') : RimsAt K C CR H' p xs ws := by
  obtain ⟨dx, tw, tl, th, tn, h1, h2, h3, h4, h5, h6⟩ := h
  exact ⟨dx, tw, tl, th, tn, s _ _ h1, SqB.same s h2, h3.same s, SqB.same s h4, SqB.same s h5, SqB.same s h6⟩
theorem RimsAt.tyx {K : PySem.W.Frag} {mg : Str → Option Value} {C CR : Addr} {H : Hp} {p : Addr} {xs : List Addr} {ws : List (List Int)} (h : RimsAt K C CR H p xs ws) (T : TxW K mg C) (TC : TxRC K mg CR) : TyX K H (.ref p) (.ref CR) := by
  obtain ⟨dx, tw, tl, th, tn, h1, _⟩ := h
  exact .base (.ins h1 TC.cl TC.ca T.cn T.ct TC.cm)
structure MkR (P : Program) (w : World) (K : PySem.W.Frag) (mg : Str → Option Value) (base : Heap) (C CR : Addr) : Prop where
  ex : ∃ (f : Addr) (fd : FuncData), Mk K CR f ∧ FnOk P w K mg base CX0 4 f fd ["self", "words"] (spInitR K C CR) ∧ Binds K fd ["self", "words"] []
section
variable {X : Cx} {C CR : Addr} {p pos : Pos} {e : Expr} {es : List Expr} {t : TA} {j : Nat}
theorem pe_rims {mg : Str → Option Value} (M : MkR X.prog X.w X.K X.mg X.base C CR) (T : TxRC X.K X.mg CR) (hr : Room j X.A) (hkj : 5 ≤ j) (hg : Gl X "Rims") (ha : PA X (e :: es) t)
    (he : starEach (e :: es) X.env = (false, eval e X.env) :: starEach es X.env := by rfl) (hpl : (backTo pos (starEach es X.env)).any (·.1) = false := by rfl) :
    PE X (.Call (.Name "Rims" p) (e :: es) [] pos) (tMake CR (spInitR X.K C CR) [] E0 t) := by
  obtain ⟨f, fd, M, F, hb⟩ := M.ex
  exact pe_make M F (hr.mono hkj) hg T.mgR hb .nil pass0 ha (by decide) he hpl
end
theorem rims_at {K : PySem.W.Frag} {C CR : Addr} {H1 : Hp} {q x dx : Addr} {xs : List Addr} {ws : List (List Int)} {G : Hp → Prop} {E : XK} (nx : H1 x = none) (ndx : H1 dx = none) (hq : SqL K H1 q (xs.map V.ref)) (hW : Wds K C H1 xs ws) (ok : RimOk ws) (k : ∀ H', Same H1 H' → RimsAt K C CR H' x xs ws → G H') :
    spInitR K C CR [.ref x, .ref q] (L2.upd (L2.upd H1 dx (.own x)) x (.ins CR dx [])) (fun v H2 => v = .non ∧ G H2) E := by
  have s0 : Same H1 (L2.upd (L2.upd H1 dx (.own x)) x (.ins CR dx [])) := fun b o e => by
    rw [upd_ne (ne_of_none e nx), upd_ne (ne_of_none e ndx)]
    exact e
  exact ⟨H1, x, dx, q, xs, ws, rfl, s0, nx, upd_same, hq, hW, ok, fun H' s' W' => ⟨rfl, k H' s' W'⟩⟩
abbrev sEqR : Stmt := inClass (top 49) 1
def spEqR (K : PySem.W.Frag) (C CR : Addr) : Sp := fun vs H Q _ => ∃ (p q : Addr) (xs ys : List Addr) (ws us : List (List Int)), vs = [.ref p, .ref q] ∧ RimsAt K C CR H p xs ws ∧ RimsAt K C CR H q ys us ∧ Q (.bl (decide (ws = us))) H
theorem hmF_len : ∀ (ws : List (List Int)) (f : Nat), (hmF f ws).length = ws.flatten.length
  | [], _ => rfl
  | w :: r, f => by
    unfold hmF
    rw [List.length_append, hmF_len r, List.flatten_cons, List.length_append, List.length_replicate]
section
variable {P : Program} {w : World} {K : PySem.W.Frag} {mg : Str → Option Value} {base : Heap} {C CR : Addr}
theorem scEqR : FnScope ["self", "other"] ["self", "other"] (defScope sEqR) := ⟨rfl, rfl, rfl, by decide +kernel, rfl, by decide +kernel, by decide +kernel⟩
theorem ok_eqR {f : Addr} {fd : FuncData} (F : Fun K "__eq__" "Rims.__eq__" sEqR f fd) (T : TxW K mg C) (TC : TxRC K mg CR) (M : EqW P w K mg base C) : FnOk P w K mg base CX0 3 f fd ["self", "other"] (spEqR K C CR) := by
  refine F.ok scEqR (fun vs H Q E h => ?_) (fun cdv A outer s H vs Q E hr h => ?_)
  · obtain ⟨p, q, xs, ys, ws, us, rfl, _⟩ := h
    rfl
  · obtain ⟨p, q, xs, ys, ws, us, rfl, R1, R2, k⟩ := h
    refine ⟨_, pss_one (ps_ret (pe_and (pe_callB call_isi (by rfl) T.isin (by decide +kernel) (pa_cons (pv 1) (pa_cons (pe_glob (v := .ref CR) (by rfl) TC.mgR rfl) pa_nil)))
      (pe_one (pe_cmpR (op_eqWT M hr (by decide)) (pe_fld (pv 0) rfl) (pe_fld (pv 1) rfl) (nomark _))))), ?_⟩
    refine ⟨_, rfl, _, _, _, _, _, rfl, .own CR, R2.tyx T TC, kit_self CR, _, rfl, ?_⟩
    refine iteT ?_
    obtain ⟨dx, tw, tl, th, tn, h1, h2, h3, _⟩ := R1
    obtain ⟨dy, uw, ul, uh, un, g1, g2, g3, _⟩ := R2
    exact ⟨_, rfl, p, CR, dx, _, _, rfl, h1, TC.cl, TC.n1, rf_words, _, rfl, q, CR, dy, _, _, rfl, g1, TC.cl, TC.n1, rf_words, tw, uw, xs, ys, ws, us, rfl, rfl, h2.sq, g2.sq, h3, g3, k⟩
end
end W13
set_option Elab.async false
set_option linter.all false
set_option maxRecDepth 100000
set_option maxHeartbeats 1000000
namespace W13
open PySem L2 PySem.Spec PyProof.Rows WR WB
structure EqR (P : Program) (w : World) (K : PySem.W.Frag) (mg : Str → Option Value) (base : Heap) (C CR : Addr) : Prop where
  ex : ∃ (f : Addr) (fd : FuncData), FnOk P w K mg base CX0 3 f fd ["self", "other"] (spEqR K C CR) ∧ PySem.W.findIn K (.ref CR) "__eq__" = some (some (.ref f)) ∧ PySem.W.isFn K (.ref f) = true ∧ Binds K fd ["self", "other"] []
def rEqR (K : PySem.W.Frag) (C CR : Addr) : R2 := fun x y H Q => ∃ (p q : Addr) (xs ys : List Addr) (ws us : List (List Int)), x = .ref p ∧ y = .ref q ∧ RimsAt K C CR H p xs ws ∧ RimsAt K C CR H q ys us ∧ Q (.bl (decide (ws = us))) H
def rNeR (K : PySem.W.Frag) (C CR : Addr) : R2 := fun x y H Q => ∃ (p q : Addr) (xs ys : List Addr) (ws us : List (List Int)), x = .ref p ∧ y = .ref q ∧ RimsAt K C CR H p xs ws ∧ RimsAt K C CR H q ys us ∧ Q (.bl (!decide (ws = us))) H
section
variable {X : Cx} {C CR : Addr} {pins : List (Addr × Obj)} {σ : L2.St} {H : Hp} {s : Shared}
theorem callEqR (M : EqR X.prog X.w X.K X.mg X.base C CR) {A : Around} (sb : Sub X 3 A) (I : Inv X pins σ H s) {a b : Addr} {xs ys : List Addr} {ws us : List (List Int)} (R1 : RimsAt X.K C CR H a xs ws) (R2 : RimsAt X.K C CR H b ys us) :
    ∃ f : Addr, PySem.W.findIn X.K (.ref CR) "__eq__" = some (some (.ref f)) ∧ PySem.W.isFn X.K (.ref f) = true ∧ wpAny (model X.prog X.w) A (call (.ref f) [.ref a, .ref b]) (fun r s' => r = .bool (decide (ws = us)) ∧ Inv X pins σ H s') X.xe s := by
  obtain ⟨f, fd, F, hs, hf, hb⟩ := M.ex
  refine ⟨f, hs, hf, ?_⟩
  have hsp : spEqR X.K C CR [.ref a, .ref b] H (fun v H' => v = .bl (decide (ws = us)) ∧ H' = H) E0 := ⟨a, b, xs, ys, ws, us, rfl, R1, R2, rfl, rfl⟩
  have e0 : Env0 X.prog X.w X.K X.mg X.base A X.stack s H := by
    have e := I.env0
    exact ⟨by rw [sb.fr]; exact e.frames, e.mod, e.bs, e.bsz, e.funs, e.frf, e.hok, e.bare⟩
  have hl := F.len _ _ _ _ hsp
  have r2 : Vals [V.ref a, V.ref b] [Value.ref a, Value.ref b] := .cons rfl (.cons rfl .nil)
  refine wpAny_call (codeAny_mono (F.run A X.stack s H ⟨[.ref a, .ref b], []⟩ [.ref a, .ref b] [.ref a, .ref b] _ E0 sb.room e0 (by
    have := hb s [.ref a, .ref b] I.kIn (by simpa using hl)
    simpa using this) r2 hsp) fun r s' hq => ?_)
  cases r with
  | error e => exact pass0 pins σ H s e s' I hq
  | ok fl =>
    cases fl with
    | ret w =>
      obtain ⟨z, H', I', rz, ez, eH⟩ := I.after hq
      subst ez eH
      cases rz
      exact ⟨rfl, I'⟩
    | next => exact False.elim hq
    | brk => exact False.elim hq
    | cont => exact False.elim hq
theorem op_eqR (M : EqR X.prog X.w X.K X.mg X.base C CR) {j : Nat} (hr : Room j X.A) (hj : 3 ≤ j) : OpR X (compareOp .Eq) (rEqR X.K C CR) := by
  intro pins s σ H x y u v Q I rx ry d
  obtain ⟨a, b, xs, ys, ws, us, rfl, rfl, R1, R2, hq⟩ := d
  cases rx
  cases ry
  obtain ⟨dx, tw, tl, th, tn, ha, _⟩ := id R1
  obtain ⟨dy, uw, ul, uh, un, hb', _⟩ := id R2
  obtain ⟨mA, J, _⟩ := ins_get I.hok ha
  obtain ⟨mB, J', _⟩ := ins_get I.hok hb'
  obtain ⟨od, J, _⟩ := J.look
  obtain ⟨od', J', _⟩ := J'.look
  obtain ⟨m, hF⟩ := I.fr
  have rm : Room 3 X.A := hr.mono hj
  obtain ⟨f, hs, hf, hc⟩ := callEqR M ⟨rm, rfl⟩ I R1 R2
  show wpAny (model X.prog X.w) X.A (richCompare .Eq (.ref a) (.ref b)) (EP X pins σ Q) X.xe s
  refine PySem.W.cmp_K (op := .Eq) (tb := .ref CR) rm.units0 hF I.ok.mod.kin J J'.type (by simp [PySem.W.notFirst]) hs hf (wpAny_mono hc (fun r s' q => ?_) fun _ _ z => z)
  obtain ⟨rfl, I'⟩ := q
  exact ⟨.bl _, H, I', rfl, hq⟩
theorem op_neR (M : EqR X.prog X.w X.K X.mg X.base C CR) (hne : PySem.W.findIn X.K (.ref CR) "__ne__" = some (some (.builtin "object.__ne__"))) (hmr : PySem.W.mroIn X.K CR (.type "object") = some true) {j : Nat} (hr : Room j X.A) (hj : 4 ≤ j) : OpR X (compareOp .NotEq) (rNeR X.K C CR) := by
  intro pins s σ H x y u v Q I rx ry d
  obtain ⟨a, b, xs, ys, ws, us, rfl, rfl, R1, R2, hq⟩ := d
  cases rx
  cases ry
  obtain ⟨dx, tw, tl, th, tn, ha, _⟩ := id R1
  obtain ⟨dy, uw, ul, uh, un, hb', _⟩ := id R2
  obtain ⟨mA, J, _⟩ := ins_get I.hok ha
  obtain ⟨mB, J', _⟩ := ins_get I.hok hb'
  obtain ⟨od, J, _⟩ := J.look
  obtain ⟨od', J', _⟩ := J'.look
  have rm4 : Room 4 X.A := hr.mono hj
  obtain ⟨f, hs, hf, hc⟩ := callEqR (A := X.A.in1) M ⟨rm4.in1, rfl⟩ I R1 R2
  show wpAny (model X.prog X.w) X.A (richCompare .NotEq (.ref a) (.ref b)) (EP X pins σ Q) X.xe s
  refine NeK.rc_ne (by have := rm4.in1.units0; exact this) I.kIn J J' hmr hs hf hne (wpAny_mono hc (fun r s' q => ?_) fun _ _ z => z)
  obtain ⟨rfl, I'⟩ := q
  exact ⟨_, rfl, .bl _, H, I', rfl, hq⟩
end
end W13
set_option Elab.async false
set_option linter.all false
set_option maxRecDepth 100000
set_option maxHeartbeats 1000000
namespace W13
open PySem L2 PySem.Spec PyProof.Rows WR WB
theorem Lts.word {ws : List (List Int)} (h : Lts ws.flatten) {w : List Int} (hw : w ∈ ws) : Lts w := fun x hx => h x (List.mem_flatten.mpr ⟨w, hw, hx⟩)
theorem word_le {ws : List (List Int)} {w : List Int} (hw : w ∈ ws) : w.length ≤ ws.flatten.length := by
  obtain ⟨i, hi, e⟩ := List.mem_iff_getElem.mp hw
  have := flat_take (ws := ws) (i := i) (w := w) (by rw [List.getElem?_eq_getElem hi, e])
  omega
end W13
set_option Elab.async false
set_option linter.all false
set_option maxRecDepth 100000
set_option maxHeartbeats 2000000
namespace WE
open PySem PySem.W PySem.Spec PyProof.Rows L2
abbrev enObj (j : Addr) : Obj := { cls := .type "enumerate", data := .fields #[.none, .bool false, .ref j, rawInt 0, .none, .none] }
set_option maxHeartbeats 4000000 in
theorem enum_new {v : Value} {o : Obj} {G : Heap → Prop} (B : Begins v o G) :
    Meets (Builtin.«enumerate.__new__» ⟨[.type "enumerate", v], []⟩) (fun _ R t => G t.heap ∧ R (.ok (.ret (.ref (t.heap.push o).objs.size))) { t with heap := (t.heap.push o).push (enObj t.heap.objs.size) }) :=
  .of_wp fun P0 w0 A0 R t k => by
    obtain ⟨hp, gl, dr, tk, os⟩ := t
    obtain ⟨g, k⟩ := k
    have subE := sub_enumerate
    have goes : ∀ {A1 : Around} {E1 : Value → Shared → Prop} {Q1 : Value → Shared → Prop}, Q1 (.ref hp.objs.size) ⟨hp.push o, gl, dr, tk, os⟩ → wpAny (model P0 w0) A1 (pyIter v) Q1 E1 ⟨hp, gl, dr, tk, os⟩ := fun q => B.iter P0 w0 _ _ ⟨hp, gl, dr, tk, os⟩ _ g q
    wp_walk using goes
    refine wpAny_stack_any fun st => wpAny_pure ?_
    split
    · rename_i c _ _ _ _ _
      cases (c == Value.type "enumerate") <;> (wp_walk using goes; exact ⟨_, rfl, k⟩)
    · wp_walk using goes
      exact ⟨_, rfl, k⟩
section
variable {prog : Program} {w : World} {A : Around} {E : Value → Shared → Prop} {s : Shared}
theorem call_enum {v : Value} {o : Obj} {G : Heap → Prop} {Q : Value → Shared → Prop} (B : Begins v o G) (g : G s.heap)
    (k : (s.heap.push o).objs.size = s.heap.objs.size + 1 → IsEnum ((s.heap.push o).push (enObj s.heap.objs.size)) (s.heap.objs.size + 1) s.heap.objs.size 0 .none → Q (.ref (s.heap.objs.size + 1)) { s with heap := (s.heap.push o).push (enObj s.heap.objs.size) }) :
    wpAny (model prog w) A (call (.type "enumerate") [v]) Q E s := by
  refine callType_new F.called_enumerate (by decide) (F.typeCall_enumerate_1 _) (F.newCall_enumerate_1 _) (fun z => F.args_object_init_2 z _) F.entry_enumerate_new (enum_new B) ⟨g, ?_⟩
  have sz : (s.heap.push o).objs.size = s.heap.objs.size + 1 := Heap.size_push ..
  have en : IsEnum ((s.heap.push o).push (enObj s.heap.objs.size)) (s.heap.objs.size + 1) s.heap.objs.size 0 .none := by
    have at_ := Heap.get?_push_size (s.heap.push o) (o := enObj s.heap.objs.size) rfl
    rw [sz] at at_
    exact at_
  show _ ∧ _
  rw [sz]
  exact ⟨⟨_, en, rfl⟩, k sz en⟩
theorem enum_end {e j t : Addr} {i : Nat} {its : Array Value} {old : Value} {Q : Option Value → Shared → Prop} (quiet : A.handled = none) (en : IsEnum s.heap e j i old) (at_ : s.heap.IsTupleIter j t i) (tp : s.heap.IsTuple t its) (no : its[i]? = none)
    (k : ∀ h', Heap.ExtBut j s.heap h' → Q none { s with heap := h' }) : wpAny (model prog w) A (pyNext (.ref e)) Q E s := by
  have ty : s.TypeIs (.ref e) "enumerate" := ⟨_, en, rfl⟩
  unfold pyNext
  refine wpAny_bind (wpAny_attempt (wpAny_callSpecial?_slot (name := Str.ofString "__next__") ty F.slot_enumerate_next (wpAny_call_entry F.slot_enumerate_next ty F.entry_enumerate_next ?_ (F.args_enumerate_next_1 _))))
  show wpAny _ _ (field (.ref e) 2 >>= _) _ _ _
  refine wpAny_bind (wpAny_field en rfl (x := .ref j) rfl (wpAny_bind (wpAny_nextOf_tuple_end quiet at_ tp no fun h' x ext ⟨o, ho, hc⟩ => ?_)))
  exact wpAny_bind (wpAny_isInstance (T := "StopIteration") (b := true) ⟨o, ho, hc⟩ isSubtype_stop (wpAny_pure (k _ ext)))
end
/-- the tuple at a, each item in a new pair -/
def IteT (K : PySem.W.Frag) (a : Addr) : It :=
  ⟨fun i H => ∃ (xs : List V) (x : V), SqT K H a xs ∧ xs[i]? = some x, fun i H v H' => ∃ T x, v = .ref T ∧ H T = none ∧ H' = upd H T (.tup [.int (i : Nat), x]) ∧ ∀ xs, SqT K H a xs → xs[i]? = some x, fun i H => ∃ xs : List V, SqT K H a xs ∧ xs.length ≤ i⟩
theorem apart {h : Heap} {a b : Addr} {x y : String} (h1 : ∃ o, h.get? a = some o ∧ o.cls = .type x) (h2 : ∃ o, h.get? b = some o ∧ o.cls = .type y) (n : x ≠ y) : a ≠ b := by
  rintro rfl
  obtain ⟨o1, e1, c1⟩ := h1
  obtain ⟨o2, e2, c2⟩ := h2
  rw [e1] at e2
  cases e2
  rw [c1] at c2
  injection c2 with c3
  exact n c3
theorem turn_enumT {P : Program} {w : World} {K : PySem.W.Frag} {elts : List Expr} {kk : Nat} {tpos : Pos} (a e j : Addr) :
    Turn P w K (.Tuple elts kk tpos) (IteT K a) [e, j] e (fun i h => (∃ o, IsEnum h e j ((i : Nat) : Int) o) ∧ h.IsTupleIter j a i ∧ e ≠ j) where
  mem := by simp
  obj := fun i h ⟨⟨o1, h1⟩, ⟨o2, h2, c2, d2⟩, _⟩ b hb => by
    rcases List.mem_cons.mp hb with z | z
    · subst z
      exact ⟨_, h1, fun _ q => nomatch q⟩
    · rw [List.mem_singleton.mp z]
      exact ⟨o2, h2, fun _ q => by rw [d2] at q; cases q⟩
  keep := fun i h h' st k => ⟨st.1.imp fun _ z => k e (by simp) _ z, st.2.1.at fun o z => k j (by simp) o z, st.2.2⟩
  item := by
    intro X eP eW eK calm i pins s σ H E I fps st go
    subst eP eW eK
    obtain ⟨⟨o1, h1⟩, h2, ej⟩ := st
    obtain ⟨xs, x, sq, hx⟩ := go
    obtain ⟨its, rv, tp, _⟩ := I.tuple sq
    obtain ⟨u, hu, ru⟩ := rv.get hx
    have in_e : e < s.heap.objs.size := Heap.lt_size h1
    have in_j : j < s.heap.objs.size := by
      obtain ⟨_, q, _⟩ := id h2
      exact Heap.lt_size q
    have ta : ∃ o, s.heap.get? a = some o ∧ o.cls = .type "tuple" := by
      obtain ⟨o, z1, z2, _⟩ := id tp
      exact ⟨o, z1, z2⟩
    have tj : ∃ o, s.heap.get? j = some o ∧ o.cls = .type "tuple_iterator" := by
      obtain ⟨o, z1, z2, _⟩ := id h2
      exact ⟨o, z1, z2⟩
    have aj := apart ta tj (by decide)
    have ea : e ≠ a := apart ⟨_, h1, rfl⟩ ta (by decide)
    have lt : i < its.toArray.size := by
      rw [List.size_toArray]
      exact (List.getElem?_eq_some_iff.mp hu).1
    refine wpAny_pyNext_enum_itemD (Draws.tuple (A := X.A.in1) (I.ok.hd calm) j a aj its.toArray) h1 ⟨h2, tp⟩ lt ej (by simp [ej, ea]) fun y h3 tk hy out at3 new sz kp => ?_
    obtain rfl : u = y := by
      rw [List.getElem?_toArray, hu] at hy
      exact Option.some.inj hy
    refine ⟨_, rfl, wpAny_letOwnedTupleGo_enum (s := { s with heap := h3, toks := tk + 1 }) out fun h4 en4 sb => ?_⟩
    have new4 : h4.get? s.heap.objs.size = some { cls := .type "tuple", data := .seq #[.int i tk, u] } := (sb.2 _ (Nat.ne_of_gt in_e)).trans new
    have ok4 : ObjOk X.prog X.w (upd H s.heap.objs.size (.tup [.int (i : Nat), x])) h4 s.heap.objs.size (.tup [.int (i : Nat), x]) :=
      ⟨Nat.le_trans (by show 2 ≤ 16; decide) (by decide), [.int i tk, u], .cons ⟨_, rfl⟩ (.cons ru .nil), ⟨_, new4, rfl, _, rfl⟩⟩
    have I4 : Inv X pins σ (upd H s.heap.objs.size (.tup [.int (i : Nat), x])) { s with heap := h4, toks := tk + 1 } :=
      I.turnedNew (ch := [e, j]) (fun b ob hb q => (sb.2 b fun z => hb (by simp [z])).trans (kp b ob (fun z => hb (by simp [z])) (fun z => hb (by simp [z])) q)) fps (Nat.le_refl _) ok4
    refine ⟨.ref s.heap.objs.size, _, I4, rfl, ⟨_, x, rfl, I.hok.fresh (Nat.le_refl _), rfl, fun ys hy => ?_⟩, ⟨⟨u, ?_⟩, at3.1.at fun o q => (sb.2 j ej.symm).trans q, ej⟩, fun b hb => ?_⟩
    · rw [I.tuple_inj hy sq]
      exact hx
    · rw [show ((i + 1 : Nat) : Int) = (i : Int) + 1 by omega]
      exact en4
    · have lb : b < s.heap.objs.size := by
        rcases List.mem_cons.mp hb with z | z
        · rw [z]; exact in_e
        · rw [List.mem_singleton.mp z]; exact in_j
      rw [upd_ne (Nat.ne_of_lt lb)]
      exact (fps b hb).1
  done := by
    intro X eP eW eK calm i pins s σ H E I fps st go
    subst eP eW eK
    obtain ⟨⟨o1, h1⟩, h2, ej⟩ := st
    obtain ⟨xs, sq, le⟩ := go
    obtain ⟨its, rv, tp, _⟩ := I.tuple sq
    have ll := rv.length
    obtain ⟨f0, f1, f2, f3, f4, f5⟩ := fps j (by simp)
    exact enum_end (I.ok.hd calm) h1 h2 tp (by rw [List.getElem?_toArray]; exact List.getElem?_eq_none (by omega)) fun h' eb => ⟨rfl, I.turned (t' := s.toks) (fun b o hb q => eb b o hb q) f0 f1 f3 f4 f5⟩
  self := fun A i s Q E st h => let ⟨⟨_, he⟩, _⟩ := st; wpAny_pyIter_enum he h
/-- what is a list or a tuple, by any walk that goes through it -/
def iEnumA (K : PySem.W.Frag) (ta : TA) : TI := fun σ H R => ta σ H fun vs H1 => ∃ a xs, vs = [.ref a] ∧ (SqL K H1 a xs ∨ SqT K H1 a xs) ∧ ∀ J G, Walk J xs.length G (YPair (fun i => some (.int (i : Nat))) (fun i => xs[i]?)) → (∀ H, Same H1 H → G H) → R J H1
theorem walk_enumT {K : PySem.W.Frag} {a : Addr} {xs : List V} : Walk (IteT K a) xs.length (fun H => SqT K H a xs) (YPair (fun i => some (.int (i : Nat))) (fun i => xs[i]?)) := by
  refine ⟨fun i _ lt q => ⟨xs, xs[i], q, List.getElem?_eq_getElem lt⟩, fun _ q => ⟨xs, q, Nat.le_refl _⟩, fun i H v H' _ q y => ?_⟩
  obtain ⟨T, x, h1, h2, h3, h4⟩ := y
  exact ⟨T, .int (i : Nat), x, h1, h2, h3, rfl, h4 xs q⟩
theorem seqL {K : PySem.W.Frag} {H H' : Hp} {a : Addr} {xs : List V} (s : Same H H') (h : SqL K H a xs) : SqL K H' a xs := s.seq h
theorem seqT {K : PySem.W.Frag} {H H' : Hp} {a : Addr} {xs : List V} (s : Same H H') (h : SqT K H a xs) : SqT K H' a xs := WR.Same.seqT s h
theorem pi_enumA {X : Cx} {K : PySem.W.Frag} {e : Expr} {ta : TA} {p pos tpos : Pos} {elts : List Expr} {kk : Nat} (hK : X.K = K) (hg : Gl X "enumerate") (hm : X.mg "enumerate" = none) (ha : PA X [e] ta) (one : starEach [e] X.env = [(false, eval e X.env)] := by rfl) :
    PI X (.Tuple elts kk tpos) (.Call (.Name "enumerate" p) [e] [] pos) (iEnumA K ta) := by
  subst hK
  refine ⟨fun pins s σ H R I h => ?_⟩
  refine Call_ (ld_blt I hg hm boot_enumerate (PyProof.Rows.callWith_type1 (thn (ha.run pos pins s σ H _ I h) fun us s1 ⟨vs, H1, I1, rv, q1⟩ => ?_) one rfl))
  obtain ⟨a, xs, ex, sq, k⟩ := q1
  subst ex
  obtain ⟨u, rfl, ru⟩ := vals1 rv
  cases ru
  have free : ∀ b ∈ [s1.heap.objs.size + 1, s1.heap.objs.size], FpOk X pins H1 b := fun b hb => by
    have ge : s1.heap.objs.size ≤ b := by
      rcases List.mem_cons.mp hb with z | z
      · rw [z]; exact Nat.le_succ _
      · rw [List.mem_singleton.mp z]; exact Nat.le_refl _
    exact I1.fpOk ge (I1.hok.fresh ge)
  rcases sq with sq | sq
  · obtain ⟨its, rw_, pl, _⟩ := I1.list sq
    refine call_enumerate_list pl.isList fun h2 en at_ _ kp => wpAny_pyIter_enum en ?_
    exact ⟨s1.heap.objs.size + 1, [s1.heap.objs.size + 1, s1.heap.objs.size], _, _, H1, rfl, I1.kept (t' := s1.toks) kp, turn_enum a (s1.heap.objs.size + 1) s1.heap.objs.size, ⟨⟨.none, en⟩, at_, Nat.succ_ne_self _⟩, free, k _ _ walk_enum fun _ z => seqL z sq⟩
  · obtain ⟨its, rw_, tp, _⟩ := I1.tuple sq
    refine call_enum (begins_tuple a its.toArray) tp fun sz en => wpAny_pyIter_enum en ?_
    have kp : ∀ b o, s1.heap.get? b = some o → ((s1.heap.push { cls := .type "tuple_iterator", data := .fields #[.ref a, .int 0 0] }).push (enObj s1.heap.objs.size)).get? b = some o := fun b o z => Heap.get?_push_of_some _ (Heap.get?_push_of_some _ z)
    exact ⟨s1.heap.objs.size + 1, [s1.heap.objs.size + 1, s1.heap.objs.size], _, _, H1, rfl, I1.kept (t' := s1.toks) kp, turn_enumT a (s1.heap.objs.size + 1) s1.heap.objs.size, ⟨⟨.none, en⟩, ⟨_, Heap.get?_push_of_some _ (Heap.get?_push_size _ rfl), rfl, rfl⟩, Nat.succ_ne_self _⟩, free, k _ _ walk_enumT fun _ z => seqT z sq⟩
/-- a walk through what is a list or a tuple -/
def iSeqA (K : PySem.W.Frag) (te : TE) : TI := fun σ H R => te σ H fun x H1 => ∃ a xs, x = .ref a ∧ (SqL K H1 a xs ∨ SqT K H1 a xs) ∧ ∀ J G, Walk J xs.length G (YAt xs) → (∀ H, Same H1 H → G H) → R J H1
theorem pi_seqA {X : Cx} {K : PySem.W.Frag} {tg e : Expr} {te : TE} (hK : X.K = K) (he : PE X e te) : PI X tg e (iSeqA K te) := by
  subst hK
  refine ⟨fun pins s σ H R I h => ?_⟩
  refine thn (he.run pins s σ H _ I h) fun v s1 ⟨x, H1, I1, rx, q1⟩ => ?_
  obtain ⟨a, xs, ex, sq, k⟩ := q1
  subst ex
  cases rx
  have free : ∀ b ∈ [s1.heap.objs.size], FpOk X pins H1 b := fun b hb => by
    rw [List.mem_singleton.mp hb]
    exact I1.fpOk (Nat.le_refl _) (I1.hok.fresh (Nat.le_refl _))
  rcases sq with sq | sq
  · obtain ⟨its, _, pl, _⟩ := I1.list sq
    exact wpAny_pyIter_list pl.isList ⟨s1.heap.objs.size, [s1.heap.objs.size], _, _, H1, rfl, I1.kept (t' := s1.toks) fun b o e => Heap.get?_push_of_some _ e, turn_list a _, ⟨_, Heap.get?_push_size _ rfl, rfl, rfl⟩, free, k _ _ walk_list fun _ z => seqL z sq⟩
  · obtain ⟨its, _, pl, _⟩ := I1.tuple sq
    exact wpAny_pyIter_tuple (show s1.heap.IsTuple a its.toArray from pl) ⟨s1.heap.objs.size, [s1.heap.objs.size], _, _, H1, rfl, I1.kept (t' := s1.toks) fun b o e => Heap.get?_push_of_some _ e, turn_tuple a _, ⟨_, Heap.get?_push_size _ rfl, rfl, rfl⟩, free, k _ _ walk_tup fun _ z => seqT z sq⟩
/-- an item of what is a list or a tuple -/
def rIxA (K : PySem.W.Frag) : R2 := fun x y H Q => ∃ p xs i v, x = .ref p ∧ y = .int i ∧ (SqL K H p xs ∨ SqT K H p xs) ∧ atI xs i = some v ∧ Q v H
theorem ixA {X : Cx} {K : PySem.W.Frag} (hK : X.K = K) : IxR X (rIxA K) := by
  subst hK
  intro value slice pins s σ H x y v u Q I rx ry ⟨p, xs, i, w, e1, e2, sq, at_, q⟩ hs
  rcases sq with sq | sq
  · exact ix_list value slice pins s σ H x y v u Q I rx ry ⟨p, xs, i, w, e1, e2, sq, at_, q⟩ hs
  · exact ix_tup value slice pins s σ H x y v u Q I rx ry ⟨p, xs, i, w, e1, e2, sq, at_, q⟩ hs
end WE
set_option Elab.async false
set_option linter.all false
set_option maxRecDepth 100000
set_option maxHeartbeats 1000000
namespace W13
open PySem L2 PySem.Spec PyProof.Rows WR WB WE
/-- the place behind the mate of a place -/
def nxt (nx mt : List Int) (p : Nat) : Nat := (nx.getD (mt.getD p 0).toNat 0).toNat
/-- on from place to place until one was seen: all that were seen, and those of this corner -/
def orb (nx mt : List Int) : Nat → List Nat → Nat → List Nat → List Nat × List Nat
  | 0, s, _, c => (s, c)
  | k + 1, s, p, c => if p ∈ s then (s, c) else orb nx mt k (p :: s) (nxt nx mt p) (c ++ [p])
def crn (nx mt : List Int) (n : Nat) : Nat → List Nat × List (List Nat)
  | 0 => ([], [])
  | i + 1 => ((orb nx mt (n + 1) (crn nx mt n i).1 i []).1, if (orb nx mt (n + 1) (crn nx mt n i).1 i []).2 = [] then (crn nx mt n i).2 else (crn nx mt n i).2 ++ [(orb nx mt (n + 1) (crn nx mt n i).1 i []).2])
def nats (c : List Nat) : List Int := c.map fun (x : Nat) => (x : Int)
def SeenAt (w : World) (H : Hp) (a : Addr) (s : List Nat) : Prop := ∃ f : Int → Bool, H a = some (SetO w a f s.length) ∧ ∀ j, f j = true ↔ j ∈ nats s
/-- seen places: each once, none too great -/
def SeenOk (n : Nat) (s : List Nat) : Prop := s.Nodup ∧ ∀ x ∈ s, x < n
theorem SeenOk.lt {n : Nat} {s : List Nat} (h : SeenOk n s) {p : Nat} (hp : p < n) (hn : p ∉ s) : s.length < n := by
  have := L2.nat_nodup_len (p :: s) (List.range n) (List.nodup_cons.mpr ⟨hn, h.1⟩) fun x hx => by
    rcases List.mem_cons.mp hx with rfl | hx
    · exact List.mem_range.mpr hp
    · exact List.mem_range.mpr (h.2 x hx)
  rw [List.length_range, List.length_cons] at this
  omega
theorem nxF_rng : ∀ (ws : List (List Int)) (f : Nat), (∀ w ∈ ws, w ≠ []) → ∀ z ∈ nxF f ws, 0 ≤ z ∧ z < ((f + ws.flatten.length : Nat) : Int)
  | [], _, _, z, hz => nomatch hz
  | w :: r, f, hne, z, hz => by
    unfold nxF at hz
    rw [List.flatten_cons, List.length_append]
    rcases List.mem_append.mp hz with hz | hz
    · obtain ⟨t, ht, rfl⟩ := List.mem_map.mp hz
      have hl : 0 < w.length := List.length_pos_iff.mpr (hne w List.mem_cons_self)
      have := Nat.mod_lt (t + 1) hl
      omega
    · have := nxF_rng r (f + w.length) (fun u hu => hne u (List.mem_cons_of_mem _ hu)) z hz
      omega
def CornAt (K : PySem.W.Frag) (H : Hp) (a : Addr) (cs : List (List Nat)) : Prop := ∃ vs, SqB K H a vs ∧ All2 (fun v c => ∃ q, v = V.ref q ∧ SqB K H q (iv (nats c))) vs cs
abbrev sCorn : Stmt := top 55
abbrev nCorn : List Str := ["rims", "mates", "corners", "seen", "start", "corner", "place"]
def MatesOk (n : Nat) (mt : List Int) : Prop := mt.length = n ∧ ∀ z ∈ mt, 0 ≤ z ∧ z < (n : Int)
def spCorn (K : PySem.W.Frag) (C CR : Addr) : Sp := fun vs H Q _ => ∃ (p m : Addr) (xs : List Addr) (ws : List (List Int)) (mt : List Int), vs = [.ref p, .ref m] ∧ RimsAt K C CR H p xs ws ∧ RimOk ws ∧ SqE K H m (iv mt) ∧ MatesOk ws.flatten.length mt ∧
  ∀ q H', Same H H' → CornAt K H' q (crn (nxF 0 ws) mt ws.flatten.length ws.flatten.length).2 → Q (.ref q) H'
theorem SqB.keptL {K : PySem.W.Frag} {H H' : Hp} {l q : Addr} {vs xs : List V} (hl : H l = some (.lst vs)) (d : Kept l H H') (h : SqB K H q xs) : SqB K H' q xs := by
  refine ⟨SqT.keptL hl d h.sq, ?_⟩
  obtain ⟨o, u, e, z⟩ := h.bare
  refine ⟨o, u, d _ _ (fun c => ?_) e, z⟩
  subst c
  rw [hl] at e
  cases e
theorem SqB.keptS {K : PySem.W.Frag} {w : World} {H H' : Hp} {a q : Addr} {f : Int → Bool} {n : Nat} {xs : List V} (hs : H a = some (SetO w a f n)) (d : Kept a H H') (h : SqB K H q xs) : SqB K H' q xs := by
  obtain ⟨o, u, e, z⟩ := h.bare
  have nq : q ≠ a := fun c => by
    rw [c, hs] at e
    cases e
  refine ⟨?_, ⟨o, u, d _ _ nq e, z⟩⟩
  exact h.sq.elim (fun r => .inl (r.elim (fun r => .inl (d _ _ nq r)) fun ⟨o, r⟩ => .inr ⟨o, d _ _ nq r⟩)) fun r => .inr r
theorem orb_in {nx mt : List Int} {k p : Nat} {s c : List Nat} (hk : 0 < k) (h : p ∈ s) : orb nx mt k s p c = (s, c) := by
  cases k with
  | zero => exact absurd hk (by decide)
  | succ k => unfold orb; rw [if_pos h]
theorem orb_out {nx mt : List Int} {k p : Nat} {s c : List Nat} (h : p ∉ s) : orb nx mt (k + 1) s p c = orb nx mt k (p :: s) (nxt nx mt p) (c ++ [p]) := by
  conv => lhs; unfold orb
  rw [if_neg h]
section
variable {P : Program} {w : World} {K : PySem.W.Frag} {mg : Str → Option Value} {base : Heap} {C CR : Addr}
theorem scCorn : FnScope nCorn ["rims", "mates"] (defScope sCorn) := ⟨rfl, rfl, rfl, by decide +kernel, rfl, by decide +kernel, by decide +kernel⟩
theorem ok_corn {f : Addr} {fd : FuncData} (F : Fun K "corners_of" "corners_of" sCorn f fd) (TC : TxRC K mg CR) (TA : TxA mg) (R : TxR mg) (hset : mg "set" = none) : FnOk P w K mg base CX0 1 f fd ["rims", "mates"] (spCorn K C CR) := by
  refine F.ok scCorn (fun vs H Q E h => ?_) (fun cdv A outer s H vs Q E hr h => ?_)
  · obtain ⟨p, m, xs, ws, mt, rfl, _⟩ := h
    rfl
  · obtain ⟨p, m, xs, ws, mt, rfl, R1, ⟨l1, l4, hne, l24, hl, hb⟩, hM, ⟨lm, hm⟩, k⟩ := h
    refine ⟨_, pss_cons (ps_set (i := 2) scCorn.nd rfl (Or.inl rfl) (pe_lst pa_nil))
      (pss_cons (ps_set (i := 3) scCorn.nd rfl (Or.inl rfl) (pe_callTy0 cr_set0 (by rfl) hset (by decide +kernel)))
      (pss_cons (ps_for PassesOwn.never rfl (pi_range1 (by rfl) R.range (pa_cons (pe_fld (pv 0) rfl) pa_nil)) (pg_name (i := 4) scCorn.nd rfl (Or.inl rfl))
        (pss_cons (ps_set (i := 5) scCorn.nd rfl (Or.inl rfl) (pe_lst pa_nil))
        (pss_cons (ps_set (i := 6) scCorn.nd rfl (Or.inl rfl) (pv 4))
        (pss_cons (ps_while PassesOwn.never (pt_cmpR or_snotin (pv 6) (pv 3) (by rfl))
          (pss_cons (ps_expr (pe_sadd (pv 3) (pa_cons (pv 6) pa_nil)))
          (pss_cons (ps_expr (pe_bm PySem.F.plainAttrs_list PySem.F.slot_list_append PySem.F.type_list_append mt_append (pv 5) (pa_cons (pv 6) pa_nil)))
          (pss_one (ps_set (i := 6) scCorn.nd rfl (Or.inl rfl) (pe_ix ix_tup (pe_fld (pv 0) rfl) (pe_ix (ixA (K := K) rfl) (pv 1) (pv 6) (fun _ _ => rfl)) (fun _ _ => rfl)))))))
        (pss_one (ps_if (pt_truth (pv 5) (by intro _; rfl)) (pss_one (ps_expr (pe_bm PySem.F.plainAttrs_list PySem.F.slot_list_append PySem.F.type_list_append mt_append (pv 2) (pa_cons (pe_callTy call_tupB (by rfl) TA.tuple (by decide +kernel) (pa_cons (pv 5) pa_nil)) pa_nil)))) pss_nil))))))
      (pss_one (ps_ret (pe_callTy call_tupB (by rfl) TA.tuple (by decide +kernel) (pa_cons (pv 2) pa_nil)))))), ?_⟩
    obtain ⟨dx, tw, tl, th, tn, h1, h2, h3, h4, h5, h6⟩ := id R1
    obtain ⟨n, en⟩ : ∃ n, n = ws.flatten.length := ⟨_, rfl⟩
    rw [← en] at lm hm k l24
    have hnx : (nxF 0 ws).length = n := by rw [nxF_len, en]
    refine ⟨Nat.zero_le _, fun lc hlc => ?_⟩
    have s1 := same_upd (o := .lst []) hlc
    refine ⟨rfl, fun ss hss => ?_⟩
    have s2 := s1.trans (same_upd (o := SetO w ss (fun _ => false) 0) hss)
    have nss : H ss = none := s1.free hss
    have ncs : lc ≠ ss := fun e => by rw [← e, upd_same] at hss; cases hss
    have gc : L2.upd (L2.upd H lc (.lst [])) ss (SetO w ss (fun _ => false) 0) lc = some (.lst []) := by rw [upd_ne ncs, upd_same]
    have gs : L2.upd (L2.upd H lc (.lst [])) ss (SetO w ss (fun _ => false) 0) ss = some (SetO w ss (fun _ => false) 0) := upd_same
    refine ⟨_, rfl, p, CR, dx, _, _, rfl, s2 _ _ h1, TC.cl, TC.n3, rf_many, _, rfl, by omega, by omega, ?_⟩
    rw [← en]
    refine for_range (lo := 0) (n := ((n : Nat) : Int).toNat) (fun i σ H' => ∃ (v4 v5 v6 : Option V) (vs : List V), σ = [some (.ref p), some (.ref m), some (.ref lc), some (.ref ss), v4, v5, v6] ∧ Same H H' ∧ SeenAt w H' ss (crn (nxF 0 ws) mt n i).1 ∧ SeenOk n (crn (nxF 0 ws) mt n i).1 ∧ H' lc = some (.lst vs) ∧ vs.length ≤ i ∧
        All2 (fun v c => ∃ q, v = V.ref q ∧ SqB K H' q (iv (nats c))) vs (crn (nxF 0 ws) mt n i).2)
      ⟨none, none, none, [], rfl, s2, ⟨fun _ => false, gs, fun j => by simp [crn, nats]⟩, ⟨List.nodup_nil, fun _ h => nomatch h⟩, gc, Nat.le_refl _, .nil⟩ ?_ ?_
    · rintro i σ H3 hi ⟨v4, v5, v6, vs, rfl, sm, hse, hso, hlcs, lvs, hcs⟩
      rw [Int.toNat_natCast] at hi
      refine ⟨Nat.zero_le _, fun lk hlk => ?_⟩
      have kss : ss ≠ lk := fun e => by
        obtain ⟨f, hf, _⟩ := hse
        rw [e, hlk] at hf
        cases hf
      have nlk : H lk = none := sm.free hlk
      refine ⟨_, rfl, ?_⟩
      refine while_by (fun σ H4 => ∃ (k pl : Nat) (s c : List Nat), σ = [some (.ref p), some (.ref m), some (.ref lc), some (.ref ss), some (.int (0 + (i : Nat))), some (.ref lk), some (.int (pl : Int))] ∧ Kept ss H3 H4 ∧ SeenAt w H4 ss s ∧ SeenOk n s ∧ pl < n ∧ H4 lk = some (.lst (iv (nats c))) ∧ c.length ≤ s.length ∧
          orb (nxF 0 ws) mt k s pl c = orb (nxF 0 ws) mt (n + 1) (crn (nxF 0 ws) mt n i).1 i [] ∧ n - s.length < k)
        (fun _ H4 => match H4 lk with | some (.lst xs) => n + 1 - xs.length | _ => 0) ?_ ?_ ?_
      · refine ⟨n + 1, i, (crn (nxF 0 ws) mt n i).1, [], by rw [Int.zero_add]; rfl, fun b o nb e => by rw [upd_ne (ne_of_none e hlk)]; exact e, ?_, hso, hi, upd_same, Nat.zero_le _, rfl, by omega⟩
        obtain ⟨f, hf, hj⟩ := hse
        exact ⟨f, by rw [upd_ne kss]; exact hf, hj⟩
      · rintro σ H4 ⟨kk, pl, s, c, rfl, kp, ⟨f, hf, hj⟩, hok, hpl, hL, lcs, eo, hkk⟩
        have sm4 : Same H H4 := fun b o e => kp b o (fun z => by rw [z, nss] at e; cases e) (sm _ _ e)
        refine ⟨_, rfl, _, rfl, (pl : Int), ss, f, s.length, rfl, rfl, hf, _, rfl, ?_⟩
        have fpl : f (pl : Int) = true ↔ pl ∈ s := by
          rw [hj]
          unfold nats
          rw [List.mem_map]
          constructor
          · rintro ⟨x, hx, e⟩
            have : x = pl := by omega
            exact this ▸ hx
          · intro h
            exact ⟨pl, h, rfl⟩
        by_cases hin : pl ∈ s
        · refine iteF' (by rw [fpl.mpr hin]; rfl) ?_
          rw [orb_in (by omega) hin] at eo
          have f1 : (crn (nxF 0 ws) mt n (i + 1)).1 = s := by
            show (orb (nxF 0 ws) mt (n + 1) (crn (nxF 0 ws) mt n i).1 i []).1 = s
            rw [← eo]
          have f2 : (crn (nxF 0 ws) mt n (i + 1)).2 = if c = [] then (crn (nxF 0 ws) mt n i).2 else (crn (nxF 0 ws) mt n i).2 ++ [c] := by
            show (if (orb (nxF 0 ws) mt (n + 1) (crn (nxF 0 ws) mt n i).1 i []).2 = [] then _ else _ ++ [(orb (nxF 0 ws) mt (n + 1) (crn (nxF 0 ws) mt n i).1 i []).2]) = _
            rw [← eo]
          have hlc4 := kp _ _ ncs hlcs
          obtain ⟨f0, hf0, _⟩ := hse
          have hcs4 : All2 (fun v c => ∃ q, v = V.ref q ∧ SqB K H4 q (iv (nats c))) vs (crn (nxF 0 ws) mt n i).2 := hcs.imp fun _ _ ⟨a, e, r⟩ => ⟨a, e, SqB.keptS hf0 kp r⟩
          refine ⟨_, rfl, _, .inl ⟨_, SqL.of hL, rfl⟩, ?_⟩
          by_cases hc : c = []
          · subst hc
            refine iteF ?_
            refine ⟨_, _, _, vs, rfl, sm4, ?_, ?_, hlc4, by omega, ?_⟩
            · rw [f1]
              exact ⟨f, hf, hj⟩
            · rw [f1]
              exact hok
            · rw [f2, if_pos rfl]
              exact hcs4
          · have hne' : (iv (nats c)).isEmpty = false := by
              cases c with
              | nil => exact absurd rfl hc
              | cons => rfl
            refine iteT' (by rw [hne']; rfl) ?_
            refine ⟨_, rfl, .inl ⟨rfl, _, SqL.of hlc4⟩, _, rfl, lk, _, rfl, .inl ⟨SqL.of hL, fun q H5 s5 B5 => ?_⟩⟩
            have hlc5 := s5 _ _ hlc4
            refine ⟨lc, _, _, rfl, rfl, hlc5, Evl.sz_lt (by omega), ?_⟩
            have kc : Kept lc H5 (L2.upd H5 lc (.lst (vs ++ [.ref q]))) := Kept.upd
            refine ⟨_, _, _, vs ++ [.ref q], rfl, same_put (sm4.trans s5) hlc, ?_, ?_, upd_same, by rw [List.length_append]; show vs.length + 1 ≤ i + 1; omega, ?_⟩
            · rw [f1]
              exact ⟨f, kc _ _ ncs.symm (s5 _ _ hf), hj⟩
            · rw [f1]
              exact hok
            · rw [f2, if_neg hc]
              refine All2.app (hcs4.imp fun _ _ ⟨a, e, r⟩ => ⟨a, e, SqB.keptL hlc5 kc (SqB.same s5 r)⟩) (.cons ⟨q, rfl, SqB.keptL hlc5 kc B5⟩ .nil)
        · have ff : f (pl : Int) = false := by
            cases e : f (pl : Int) with
            | false => rfl
            | true => exact absurd (fpl.mp e) hin
          have hsl := hok.lt hpl hin
          refine iteT' (by rw [ff]; rfl) ?_
          refine ⟨_, rfl, ⟨ss, f, _, rfl, hf⟩, _, rfl, ss, (pl : Int), f, s.length, rfl, rfl, hf, ?_, ?_⟩
          · exact Nat.lt_of_le_of_lt (show s.length + 1 ≤ 64 by omega) (by decide)
          rw [ff]
          have hL5 : L2.upd H4 ss (SetO w ss (fun j => f j || decide (j = (pl : Int))) (s.length + 1)) lk = some (.lst (iv (nats c))) := by
            rw [upd_ne kss.symm]
            exact hL
          have kp5 : Kept ss H3 (L2.upd H4 ss (SetO w ss (fun j => f j || decide (j = (pl : Int))) (s.length + 1))) := kp.trans Kept.upd
          have hs5 : L2.upd H4 ss (SetO w ss (fun j => f j || decide (j = (pl : Int))) (s.length + 1)) ss = some (SetO w ss (fun j => f j || decide (j = (pl : Int))) (s.length + 1)) := upd_same
          obtain ⟨H5, e5⟩ : ∃ H5, H5 = L2.upd H4 ss (SetO w ss (fun j => f j || decide (j = (pl : Int))) (s.length + 1)) := ⟨_, rfl⟩
          try dsimp only
          rw [if_neg Bool.false_ne_true]
          show tSeq _ _ _ _ (L2.upd H4 ss (SetO w ss (fun j => f j || decide (j = (pl : Int))) (s.length + 1)))
          rw [← e5]
          rw [← e5] at hL5 kp5 hs5
          refine ⟨_, rfl, .inl ⟨rfl, _, SqL.of hL5⟩, _, rfl, lk, _, _, rfl, rfl, hL5, Evl.sz_lt (by unfold nats; rw [List.length_map, List.length_map]; omega), ?_⟩
          have kp6 : Kept ss H3 (L2.upd H5 lk (.lst (iv (nats c) ++ [.int (pl : Int)]))) := fun b o nb e => by
            rw [upd_ne (ne_of_none e hlk)]
            exact kp5 b o nb e
          have hs6 : L2.upd H5 lk (.lst (iv (nats c) ++ [.int (pl : Int)])) ss = some (SetO w ss (fun j => f j || decide (j = (pl : Int))) (s.length + 1)) := by
            rw [upd_ne kss]
            exact hs5
          have hL6 : L2.upd H5 lk (.lst (iv (nats c) ++ [.int (pl : Int)])) lk = some (.lst (iv (nats (c ++ [pl])))) := by
            rw [upd_same]
            unfold iv nats
            rw [List.map_append, List.map_append]
            rfl
          obtain ⟨H6, e6⟩ : ∃ H6, H6 = L2.upd H5 lk (.lst (iv (nats c) ++ [.int (pl : Int)])) := ⟨_, rfl⟩
          rw [← e6] at kp6 hs6 hL6 ⊢
          have sm6 : Same H H6 := fun b o e => kp6 b o (fun z => by rw [z, nss] at e; cases e) (sm _ _ e)
          have lpm : pl < mt.length := by omega
          obtain ⟨m0, m1⟩ := hm _ (List.getElem_mem lpm)
          have lmn : mt[pl].toNat < (nxF 0 ws).length := by omega
          obtain ⟨x0, x1⟩ := nxF_rng ws 0 hne _ (List.getElem_mem lmn)
          rw [Nat.zero_add, ← en] at x1
          have enx : nxt (nxF 0 ws) mt pl = ((nxF 0 ws)[mt[pl].toNat]).toNat := by
            unfold nxt
            rw [List.getD_eq_getElem?_getD, List.getD_eq_getElem?_getD, List.getElem?_eq_getElem lpm]
            show ((nxF 0 ws)[mt[pl].toNat]?.getD 0).toNat = _
            rw [List.getElem?_eq_getElem lmn]
            rfl
          have em : mt[pl] = ((mt[pl].toNat : Nat) : Int) := by omega
          refine ⟨_, rfl, p, CR, dx, _, _, rfl, sm6 _ _ h1, TC.cl, TC.n7, rf_nexts, _, rfl, _, rfl, m, _, _, _, rfl, rfl, hM.same sm6, atI_nat (iv_get (List.getElem?_eq_getElem lpm)), tn, _, _, _, rfl, rfl, (SqB.same sm6 h6).sq, (by rw [em]; exact atI_nat (iv_get (List.getElem?_eq_getElem lmn))), ?_⟩
          refine at_set ?_
          obtain ⟨k', rfl⟩ : ∃ k', kk = k' + 1 := ⟨kk - 1, by omega⟩
          have eo' := (orb_out hin).symm.trans eo
          have ex : ((nxt (nxF 0 ws) mt pl : Nat) : Int) = (nxF 0 ws)[mt[pl].toNat] := by
            rw [enx]
            omega
          refine ⟨⟨k', nxt (nxF 0 ws) mt pl, pl :: s, c ++ [pl], by rw [ex]; rfl, kp6, ⟨_, hs6, fun j => ?_⟩, ⟨List.nodup_cons.mpr ⟨hin, hok.1⟩, fun x hx => ?_⟩, by omega, hL6, ?_, eo', ?_⟩, ?_⟩
          · rw [Bool.or_eq_true, decide_eq_true_eq, hj]
            show _ ↔ j ∈ (pl : Int) :: nats s
            rw [List.mem_cons]
            exact or_comm
          · rcases List.mem_cons.mp hx with rfl | hx
            · exact hpl
            · exact hok.2 x hx
          · rw [List.length_append, List.length_cons]
            show c.length + 1 ≤ s.length + 1
            omega
          · rw [List.length_cons]
            omega
          · show (match H6 lk with | some (.lst xs) => n + 1 - xs.length | _ => 0) < (match H4 lk with | some (.lst xs) => n + 1 - xs.length | _ => 0)
            rw [hL6, hL]
            show n + 1 - (iv (nats (c ++ [pl]))).length < n + 1 - (iv (nats c)).length
            unfold iv nats
            simp only [List.length_map, List.length_append, List.length_cons, List.length_nil]
            omega
      · rintro σ H4 Q Q' hh ⟨v, e1, u, e2, kk, a, S, n', ex, ey, hs, c, ec, q⟩
        exact ⟨v, e1, u, e2, kk, a, S, n', ex, ey, hs, c, ec, hh c H4 q⟩
    · rintro σ H3 ⟨v4, v5, v6, vs, rfl, sm, _, _, hlcs, lvs, hcs⟩
      rw [Int.toNat_natCast] at hcs
      refine ⟨_, rfl, lc, _, rfl, .inl ⟨SqL.of hlcs, fun q H4 s4 B4 => ?_⟩⟩
      exact k q H4 (sm.trans s4) ⟨vs, B4, hcs.imp fun _ _ ⟨a, e, r⟩ => ⟨a, e, SqB.same s4 r⟩⟩
end
end W13
set_option Elab.async false
set_option linter.all false
set_option maxRecDepth 100000
set_option maxHeartbeats 1000000
namespace W13
open PySem L2 PySem.Spec PyProof.Rows WR WB WE
abbrev sAreI : Stmt := top 24
abbrev sPaired : Stmt := top 26
abbrev sAreM : Stmt := top 54
abbrev sNeedR : Stmt := top 46
/-- each place and its mate are mates of one another, and not the same -/
def PairOk (n : Nat) (mt : List Int) : Prop := MatesOk n mt ∧ ∀ i (h : i < mt.length), mt[i] ≠ (i : Int) ∧ mt[mt[i].toNat]? = some (i : Int)
/-- mates bear contrary letters -/
def MatOk (ls mt : List Int) : Prop := PairOk ls.length mt ∧ ∀ i (h : i < mt.length), ls.getD mt[i].toNat 0 = -ls.getD i 0
def spAreI (K : PySem.W.Frag) : Sp := fun vs H Q _ => ∃ (a : Addr) (ns : List Int), vs = [.ref a] ∧ SqE K H a (iv ns) ∧ ns.length ≤ 1000 ∧ ∀ H', Same H H' → Q (.bl true) H'
def spPaired (K : PySem.W.Frag) : Sp := fun vs H Q _ => ∃ (a : Addr) (mt : List Int) (n : Nat), vs = [.ref a, .int (n : Int)] ∧ SqE K H a (iv mt) ∧ n ≤ 1000 ∧ PairOk n mt ∧ ∀ H', Same H H' → Q (.bl true) H'
def spAreM (K : PySem.W.Frag) : Sp := fun vs H Q _ => ∃ (l a : Addr) (ls mt : List Int), vs = [.ref l, .ref a] ∧ SqB K H l (iv ls) ∧ SqE K H a (iv mt) ∧ ls.length ≤ 1000 ∧ MatOk ls mt ∧ ∀ H', Same H H' → Q (.bl true) H'
def spNeedR (K : PySem.W.Frag) (C CR : Addr) : Sp := fun vs H Q _ => ∃ (p : Addr) (z : V) (xs : List Addr) (ws : List (List Int)), vs = [.ref p, z] ∧ RimsAt K C CR H p xs ws ∧ Q .non H
theorem nx_ret_lc {r : List V → Hp → VK → Prop} {wi : TI} {g : TG} {tt : TT} {te : TE} {vs : List Nat} {D : Ends} {σ : L2.St} {H : Hp} {b1 b2 : L2.St → Hp → Prop} {rt : VK}
    (h : wi σ H fun J H1 => tLc (fun _ H R => R J H) g tt te vs σ H1 fun y H2 => r [y] H2 D.rt) : tNext { nx := tRet (tCB r (tCons (tLc wi g tt te vs) tNil)) D, rt := rt, bk := b1, ct := b2 } σ H := h
theorem lcE {J : It} {G : Hp → Prop} {xs : List V} (wk : Walk J xs.length G (YPair (fun i => some (.int (i : Nat))) (fun i => xs[i]?))) {g : TG} {tt : TT} {te : TE} {vs : List Nat} {σ : L2.St} {H1 : Hp} {Q : VK} (f : Nat → Bool) (v : Nat → V) (hz : xs.length < 40000) (hG : ∀ H, Same H1 H → G H)
    (hs : ∀ i x, xs[i]? = some x → ∀ H, Same H1 H → ∀ T, H T = none → ∀ (Qy : V → Hp → Prop) (Qn : Hp → Prop), (f i = true → ∀ H', Same H H' → Qy (v i) H') → (f i = false → ∀ H', Same H H' → Qn H') →
      g (.ref T) (wipe σ vs) (L2.upd H T (.tup [.int (i : Nat), x])) fun σ2 H2 => wipe σ2 vs = wipe σ vs ∧ tt σ2 H2 fun b H3 => if b = true then te σ2 H3 Qy else Qn H3)
    (hd : ∀ (D : Addr) H', H1 D = none → Same H1 H' → H' D = some (.lst (((List.range xs.length).filter f).map v)) → Q (.ref D) H') : tLc (fun _ H R => R J H) g tt te vs σ H1 Q := by
  intro D hD
  refine lc_it wk (fun i H => Same H1 H ∧ H D = some (.lst (((List.range i).filter f).map v))) ⟨fun b o e => by rw [upd_ne (ne_of_none e hD)]; exact e, upd_same⟩ (fun i H _ q => hG _ q.1) ?_ ?_
  · rintro i x H H' hi q ⟨T, y1, y2, rfl, hT, rfl, e1, hx⟩
    cases e1
    refine hs i y2 hx H q.1 T hT _ _ (fun hf H2 s2 => ⟨_, s2 _ _ q.2, ?_, ?_, ?_⟩) (fun hf H2 s2 => ⟨fun b o e => s2 b o (q.1 b o e), ?_⟩)
    · refine Evl.sz_lt ?_
      rw [List.length_map]
      have := List.length_filter_le f (List.range i)
      rw [List.length_range] at this
      omega
    · intro b o e
      rw [upd_ne (ne_of_none e hD)]
      exact s2 b o (q.1 b o e)
    · rw [upd_same, List.range_succ, List.filter_append, List.map_append, List.filter_cons, if_pos hf]
      rfl
    · rw [List.range_succ, List.filter_append, List.filter_cons, if_neg (by rw [hf]; decide)]
      show H2 D = some (.lst (((List.range i).filter f ++ []).map v))
      rw [List.append_nil]
      exact s2 _ _ q.2
  · intro H q
    exact hd D H hD q.1 q.2
theorem ixt {X : Cx} {K : PySem.W.Frag} (h : X.K = K) : IxR X (rIxT K) := h ▸ ix_tup
section
variable {P : Program} {w : World} {K : PySem.W.Frag} {mg : Str → Option Value} {base : Heap} {C CR : Addr}
theorem scNeedR : FnScope ["value", "part"] ["value", "part"] (defScope sNeedR) := ⟨rfl, rfl, rfl, by decide +kernel, rfl, by decide +kernel, by decide +kernel⟩
theorem ok_needR {f : Addr} {fd : FuncData} (F : Fun K "need_rims" "need_rims" sNeedR f fd) (T : TxW K mg C) (TC : TxRC K mg CR) : FnOk P w K mg base CX0 1 f fd ["value", "part"] (spNeedR K C CR) := by
  refine F.ok scNeedR (fun vs H Q E h => ?_) (fun cdv A outer s H vs Q E hr h => ?_)
  · obtain ⟨p, z, xs, ws, rfl, _⟩ := h
    rfl
  · obtain ⟨p, z, xs, ws, rfl, R1, k⟩ := h
    refine ⟨_, pss_one (ps_if (pt_not (pt_val (pe_callB call_isi (by rfl) T.isin (by decide +kernel) (pa_cons (pv 0) (pa_cons (pe_glob (v := .ref CR) (by rfl) TC.mgR rfl) pa_nil))))) (pss_one ps_never) pss_nil), ?_⟩
    exact ⟨_, rfl, _, _, _, _, _, rfl, .own CR, R1.tyx T TC, kit_self CR, _, rfl, iteF k⟩
theorem scAreI : FnScope ["value", "part"] ["value"] (defScope sAreI) := ⟨rfl, rfl, rfl, by decide +kernel, rfl, by decide +kernel, by decide +kernel⟩
theorem ok_areI {f : Addr} {fd : FuncData} (F : Fun K "are_integers" "are_integers" sAreI f fd) (hall : mg "all" = none) (GL : Cal P w K mg base "is_listed" 1 ["value"] (spListE K)) (GI : Cal P w K mg base "is_integer" 1 ["value"] spIsInt) : FnOk P w K mg base CX0 2 f fd ["value"] (spAreI K) := by
  refine F.ok scAreI (fun vs H Q E h => ?_) (fun cdv A outer s H vs Q E hr h => ?_)
  · obtain ⟨a, ns, rfl, _⟩ := h
    rfl
  · obtain ⟨a, ns, rfl, hA, ln, k⟩ := h
    refine ⟨_, pss_one (ps_ret (pe_and (pe_cal GL hr (by decide) (by rfl) (pa_cons (pv 0) pa_nil)) (pe_one (pe_callB (cr_all rfl) (by rfl) hall (by decide +kernel) (pa_cons (pe_lc (own := [("part", 1)]) (g := gName 1) (tt := tYes) rfl scAreI.nd (pi_seqA (K := K) rfl (pv 0))
      (blkOk_by (N := ["value", "part"]) (sc := defScope sAreI) (by decide +kernel)) (fun _ _ _ _ _ => pg_name (i := 1) scAreI.nd rfl (Or.inl rfl)) (fun _ _ _ _ _ => pts_nil)
      (fun _ _ _ _ _ => pe_cal GI hr (by decide) (by rfl) (pa_cons (pv 1) pa_nil))) pa_nil))))), ?_⟩
    refine ⟨_, rfl, a, _, rfl, hA, fun H1 s1 => ⟨_, rfl, iteT ?_⟩⟩
    refine cb_lc ?_
    refine ⟨_, rfl, a, _, rfl, hA.same s1, fun J G wk hG => ?_⟩
    refine lcp wk (fun _ => true) (fun _ => .bl true) (by rw [List.length_map]; omega) hG ?_ ?_
    · intro x hx H2 s2 Qy Qn ky kn
      obtain ⟨i, hi, rfl⟩ := List.mem_map.mp hx
      exact ⟨rfl, yes_te ⟨_, rfl, .int i, _, rfl, .int i, ky rfl H2 (fun _ _ e => e)⟩⟩
    · intro D H2 hD s2 h2
      refine ⟨D, ns.map fun _ => true, rfl, SqL.of (by
        rw [h2, List.filter_eq_self.mpr (fun _ _ => rfl), List.map_map, List.map_map]
        rfl), ?_⟩
      have e : (ns.map fun _ => true).all id = true := by
        rw [List.all_eq_true]
        intro b hb
        obtain ⟨_, _, rfl⟩ := List.mem_map.mp hb
        rfl
      rw [e]
      exact k H2 (s1.trans s2)
theorem scPaired : FnScope ["value", "many", "place", "mate"] ["value", "many"] (defScope sPaired) := ⟨rfl, rfl, rfl, by decide +kernel, rfl, by decide +kernel, by decide +kernel⟩
theorem ok_paired {f : Addr} {fd : FuncData} (F : Fun K "are_paired" "are_paired" sPaired f fd) (TA : TxA mg) (R : TxR mg) (GI : Cal P w K mg base "are_integers" 2 ["value"] (spAreI K)) : FnOk P w K mg base CX0 3 f fd ["value", "many"] (spPaired K) := by
  refine F.ok scPaired (fun vs H Q E h => ?_) (fun cdv A outer s H vs Q E hr h => ?_)
  · obtain ⟨a, mt, n, rfl, _⟩ := h
    rfl
  · obtain ⟨a, mt, n, rfl, hA, hn, ⟨⟨lm, hm⟩, hp⟩, k⟩ := h
    refine ⟨_, pss_cons (ps_if (PW.pt (pw_or (pt_not (pt_val (pe_cal GI hr (by decide) (by rfl) (pa_cons (pv 0) pa_nil)))) (pw_or1 (pt_cmpR op_ne (pe_callB call_len_seq (by rfl) TA.len PySem.boot_len (pa_cons (pv 0) pa_nil)) (pv 1) (nomark _))))) (pss_one (ps_ret pe_bl)) pss_nil)
      (pss_cons (ps_for PassesOwn.never rfl (pi_enumA (K := K) rfl (by rfl) R.enum (pa_cons (pv 0) pa_nil)) (pg_tup (n := 2) rfl (pgs_cons (pg_name (i := 2) scPaired.nd rfl (Or.inl rfl)) (pgs_cons (pg_name (i := 3) scPaired.nd rfl (Or.inl rfl)) pgs_nil)))
        (pss_one (ps_if (PW.pt (pw_or (pt_not (pt_chain op_le op_lt pe_int (pv 3) (pv 1))) (pw_or (pt_cmpR op_eq (pv 3) (pv 2) (nomark _)) (pw_or1 (pt_cmpR op_ne (pe_ix (ixA (K := K) rfl) (pv 0) (pv 3) (fun _ _ => rfl)) (pv 2) (nomark _)))))) (pss_one (ps_ret pe_bl)) pss_nil)))
      (pss_one (ps_ret pe_bl))), ?_⟩
    refine ⟨_, rfl, a, mt, rfl, hA, by omega, fun H1 s1 => ⟨_, rfl, iteF ?_⟩⟩
    have hA1 := hA.same s1
    refine ⟨_, rfl, a, _, rfl, hA1, _, rfl, rfl, _, rfl, no_ne (decide_eq_true (by rw [List.length_map, lm])) ?_⟩
    refine ⟨_, rfl, a, _, rfl, hA1, fun J G wk hG => ?_⟩
    refine for_it wk (fun i σ H' => ∃ v2 v3 : Option V, σ = [some (.ref a), some (.int (n : Int)), v2, v3] ∧ Same H1 H') ⟨none, none, rfl, Same.refl _⟩ (fun i σ H' _ ⟨_, _, _, s⟩ => hG _ s) ?_ ?_
    · rintro i x σ H3 H4 hi ⟨v2, v3, rfl, sm⟩ ⟨T0, xi, yi, rfl, hT0, rfl, hx, hy⟩
      have hin : i < mt.length := by rw [List.length_map] at hi; exact hi
      obtain rfl := Option.some.inj hx
      have ey : yi = V.int mt[i] := by
        have hy : (iv mt)[i]? = some yi := hy
        rw [List.getElem?_map, List.getElem?_eq_getElem hin] at hy
        exact (Option.some.inj hy).symm
      subst ey
      obtain ⟨z0, z1⟩ := hm _ (List.getElem_mem hin)
      obtain ⟨p0, p1⟩ := hp i hin
      have sT := sm.trans (same_upd (o := .tup [.int (i : Nat), .int mt[i]]) hT0)
      have em : mt[i] = ((mt[i].toNat : Nat) : Int) := by omega
      refine ⟨T0, _, rfl, SqT.of upd_same, rfl, _, _, rfl, _, _, rfl, rfl, ?_⟩
      refine ⟨_, rfl, _, _, rfl, rfl, _, rfl, iteT' (decide_eq_true z0) ⟨_, rfl, _, _, rfl, rfl, _, rfl, no_ne (decide_eq_true z1) ?_⟩⟩
      refine ⟨_, rfl, _, rfl, rfl, _, rfl, iteF' (decide_eq_false fun z => p0 (by injection z)) ?_⟩
      refine ⟨_, rfl, _, rfl, a, _, _, _, rfl, rfl, hA1.same sT, (by rw [em]; exact atI_nat (iv_get p1)), _, rfl, rfl, _, rfl, no_ne (decide_eq_true rfl) ?_⟩
      exact ⟨_, _, rfl, sT⟩
    · rintro σ H' ⟨v2, v3, rfl, sm⟩
      exact k _ (s1.trans sm)
abbrev nAreM : List Str := ["letters", "value", "place", "mate"]
theorem scAreM : FnScope nAreM ["letters", "value"] (defScope sAreM) := ⟨rfl, rfl, rfl, by decide +kernel, rfl, by decide +kernel, by decide +kernel⟩
theorem ok_areM {f : Addr} {fd : FuncData} (F : Fun K "are_mates" "are_mates" sAreM f fd) (TA : TxA mg) (R : TxR mg) (hall : mg "all" = none) (GP : Cal P w K mg base "are_paired" 3 ["value", "many"] (spPaired K)) : FnOk P w K mg base CX0 4 f fd ["letters", "value"] (spAreM K) := by
  refine F.ok scAreM (fun vs H Q E h => ?_) (fun cdv A outer s H vs Q E hr h => ?_)
  · obtain ⟨l, a, ls, mt, rfl, _⟩ := h
    rfl
  · obtain ⟨l, a, ls, mt, rfl, hL, hA, ln, ⟨hp, hm⟩, k⟩ := h
    have lm := hp.1.1
    refine ⟨_, pss_cons (ps_if (pt_not (pt_val (pe_cal GP hr (by decide) (by rfl) (pa_cons (pv 1) (pa_cons (pe_callB call_len_seq (by rfl) TA.len PySem.boot_len (pa_cons (pv 0) pa_nil)) pa_nil))))) (pss_one (ps_ret pe_bl)) pss_nil)
      (pss_one (ps_ret (pe_callB (cr_all rfl) (by rfl) hall (by decide +kernel) (pa_cons (pe_lc (own := [("place", 2), ("mate", 3)]) (g := gTup K 2 (gCons (gName 2) (gCons (gName 3) gNil))) (tt := tYes) rfl scAreM.nd (pi_enumA (K := K) rfl (by rfl) R.enum (pa_cons (pv 1) pa_nil))
        (blkOk_by (N := nAreM) (sc := defScope sAreM) (by decide +kernel)) (fun _ _ _ _ _ => pg_tup (n := 2) rfl (pgs_cons (pg_name (i := 2) scAreM.nd rfl (Or.inl rfl)) (pgs_cons (pg_name (i := 3) scAreM.nd rfl (Or.inl rfl)) pgs_nil))) (fun _ _ _ _ _ => pts_nil)
        (fun _ _ _ _ _ => pe_cmpR op_eq (pe_ix (ixt (K := K) rfl) (pv 0) (pv 3) (fun _ _ => rfl)) (pe_un un_neg (pe_ix (ixt (K := K) rfl) (pv 0) (pv 2) (fun _ _ => rfl))) (nomark _))) pa_nil)))), ?_⟩
    refine ⟨_, rfl, _, rfl, l, _, rfl, .inr hL.sq, a, mt, ls.length, congrArg (fun z => [V.ref a, V.int z]) (by rw [List.length_map]), hA, ln, hp, fun H1 s1 => ⟨_, rfl, iteF ?_⟩⟩
    refine nx_ret_lc ?_
    refine ⟨_, rfl, a, _, rfl, hA.same s1, fun J G wk hG => ?_⟩
    refine lcE wk (fun _ => true) (fun _ => .bl true) (by rw [List.length_map]; omega) hG ?_ ?_
    · intro i x hx H2 s2 T0 hT Qy Qn ky kn
      have hin : i < mt.length := by
        have := (List.getElem?_eq_some_iff.mp hx).1
        rwa [List.length_map] at this
      obtain rfl : x = V.int mt[i] := by
        rw [List.getElem?_map, List.getElem?_eq_getElem hin] at hx
        exact (Option.some.inj hx).symm
      obtain ⟨z0, z1⟩ := hp.1.2 _ (List.getElem_mem hin)
      have sT := same_upd (o := .tup [.int (i : Nat), .int mt[i]]) hT
      have hL2 := (SqB.same ((s1.trans s2).trans sT) hL).sq
      have em : mt[i] = ((mt[i].toNat : Nat) : Int) := by omega
      have l1 : mt[i].toNat < ls.length := by omega
      have l2 : i < ls.length := by omega
      have eq := hm i hin
      rw [List.getD_eq_getElem?_getD, List.getD_eq_getElem?_getD, List.getElem?_eq_getElem l1, List.getElem?_eq_getElem l2] at eq
      have eq : ls[mt[i].toNat] = -ls[i] := eq
      refine ⟨T0, _, rfl, SqT.of upd_same, rfl, _, _, rfl, _, _, rfl, rfl, ?_⟩
      refine ⟨rfl, yes_te ?_⟩
      refine ⟨_, rfl, _, rfl, l, _, _, _, rfl, rfl, hL2, (by rw [em]; exact atI_nat (iv_get (List.getElem?_eq_getElem l1))), _, rfl, _, rfl, l, _, _, _, rfl, rfl, hL2, atI_nat (iv_get (List.getElem?_eq_getElem l2)), _, rfl, rfl, ?_⟩
      have e : decide (V.int ls[mt[i].toNat] = V.int (-ls[i])) = true := decide_eq_true (by rw [eq])
      show Qy (.bl (decide (V.int ls[mt[i].toNat] = V.int (-ls[i])))) _
      rw [e]
      exact ky rfl _ sT
    · intro D H2 hD s2 h2
      refine ⟨D, (List.range (iv mt).length).map fun _ => true, rfl, SqL.of (by
        rw [h2, List.filter_eq_self.mpr (fun _ _ => rfl), List.map_map]
        rfl), ?_⟩
      have e : ((List.range (iv mt).length).map fun _ => true).all id = true := by
        rw [List.all_eq_true]
        intro b hb
        obtain ⟨_, _, rfl⟩ := List.mem_map.mp hb
        rfl
      rw [e]
      exact k H2 (s1.trans s2)
end
end W13
set_option Elab.async false
set_option linter.all false
set_option maxRecDepth 100000
set_option maxHeartbeats 1000000
namespace W13
open PySem L2 PySem.Spec PyProof.Rows WR WB WE
abbrev sJoined : Stmt := top 29
/-- on to where a number leads, at most k times -/
def rt (ab : List Nat) : Nat → Nat → Nat
  | 0, x => x
  | k + 1, x => if ab.getD x 0 = x then x else rt ab k (ab.getD x 0)
def jnS (ab : List Nat) (p : Nat × Nat) : List Nat := ab.set (max (rt ab p.1 p.1) (rt ab p.2 p.2)) (min (rt ab p.1 p.1) (rt ab p.2 p.2))
def jn : List Nat → List (Nat × Nat) → List Nat
  | ab, [] => ab
  | ab, p :: r => jn (jnS ab p) r
/-- the number i put to the row of r -/
def putR : List (Nat × List Nat) → Nat → Nat → List (Nat × List Nat)
  | [], r, i => [(r, [i])]
  | (k, m) :: t, r, i => if k = r then (k, m ++ [i]) :: t else (k, m) :: putR t r i
def flr (ab : List Nat) : Nat → List Nat × List (Nat × List Nat)
  | 0 => (ab, [])
  | i + 1 => ((flr ab i).1.set i ((flr ab i).1.getD ((flr ab i).1.getD i 0) 0), putR (flr ab i).2 ((flr ab i).1.getD ((flr ab i).1.getD i 0) 0) i)
def joinF (n : Nat) (ps : List (Nat × Nat)) : List (List Nat) := (flr (jn (List.range n) ps) n).2.map (·.2)
/-- each leads to none that is greater -/
def DnOk (n : Nat) (ab : List Nat) : Prop := ab.length = n ∧ ∀ i, i < n → ab.getD i 0 ≤ i
theorem DnOk.rt_le {n : Nat} {ab : List Nat} (h : DnOk n ab) : ∀ (k x : Nat), x < n → rt ab k x ≤ x
  | 0, x, _ => Nat.le_refl _
  | k + 1, x, hx => by
    unfold rt
    split
    · exact Nat.le_refl _
    · exact Nat.le_trans (h.rt_le k _ (by have := h.2 x hx; omega)) (h.2 x hx)
theorem getD_set {l : List Nat} {i j v : Nat} (h : i < l.length) : (l.set i v).getD j 0 = if j = i then v else l.getD j 0 := by
  rw [List.getD_eq_getElem?_getD, List.getD_eq_getElem?_getD, List.getElem?_set]
  by_cases e : i = j
  · subst e
    rw [if_pos rfl, if_pos rfl, if_pos h]
    rfl
  · rw [if_neg e, if_neg (fun z => e z.symm)]
theorem DnOk.set {n : Nat} {ab : List Nat} (h : DnOk n ab) {i v : Nat} (hi : i < n) (hv : v ≤ i) : DnOk n (ab.set i v) := by
  refine ⟨by rw [List.length_set, h.1], fun j hj => ?_⟩
  rw [getD_set (by rw [h.1]; exact hi)]
  split
  · omega
  · exact h.2 j hj
theorem DnOk.jnS {n : Nat} {ab : List Nat} (h : DnOk n ab) {p : Nat × Nat} (h1 : p.1 < n) (h2 : p.2 < n) : DnOk n (jnS ab p) := by
  have a := h.rt_le p.1 p.1 h1
  have b := h.rt_le p.2 p.2 h2
  exact h.set (by omega) (by omega)
theorem dn_range (n : Nat) : DnOk n (List.range n) := by
  refine ⟨List.length_range, fun i hi => ?_⟩
  rw [List.getD_eq_getElem?_getD, List.getElem?_range hi]
  exact Nat.le_refl _
theorem DnOk.flr {n : Nat} {ab : List Nat} (h : DnOk n ab) : ∀ i, i ≤ n → DnOk n (W13.flr ab i).1
  | 0, _ => h
  | i + 1, hi => by
    have d := DnOk.flr h i (by omega)
    have a := d.2 i (by omega)
    have b := d.2 ((W13.flr ab i).1.getD i 0) (by omega)
    exact d.set (by omega) (by omega)
/-- where numbers lead stays the same for any k that is great enough -/
theorem DnOk.rt_end {n : Nat} {ab : List Nat} (h : DnOk n ab) {x : Nat} (k : Nat) (e : ab.getD x 0 = x) : rt ab k x = x := by
  cases k with
  | zero => rfl
  | succ k => unfold rt; rw [if_pos e]
theorem DnOk.rt_step {n : Nat} {ab : List Nat} (h : DnOk n ab) {x k : Nat} (hx : x < n) (hk : x ≤ k) (e : ab.getD x 0 ≠ x) : ∃ k', k = k' + 1 ∧ ab.getD x 0 ≤ k' ∧ rt ab k x = rt ab k' (ab.getD x 0) := by
  have a := h.2 x hx
  obtain ⟨k', rfl⟩ : ∃ k', k = k' + 1 := ⟨k - 1, by omega⟩
  refine ⟨k', rfl, by omega, ?_⟩
  conv => lhs; unfold rt
  rw [if_neg e]
theorem nats_get {l : List Nat} {i : Nat} (h : i < l.length) : atI (iv (nats l)) ((i : Nat) : Int) = some (V.int ((l.getD i 0 : Nat) : Int)) := by
  refine atI_nat (iv_get ?_)
  unfold nats
  rw [List.getElem?_map, List.getElem?_eq_getElem h, List.getD_eq_getElem?_getD, List.getElem?_eq_getElem h]
  rfl
theorem nats_set {l : List Nat} {i v : Nat} : (iv (nats l)).set i (V.int (v : Int)) = iv (nats (l.set i v)) := by
  unfold nats
  rw [List.map_set, ← List.map_set, ← List.map_set]
theorem nats_len (l : List Nat) : (iv (nats l)).length = l.length := by
  unfold nats
  rw [List.length_map, List.length_map]
theorem ixN_nat {n i : Nat} (h : i < n) : ixN n ((i : Nat) : Int) = some i := by
  unfold ixN
  rw [if_pos (by omega), if_pos (by omega), Int.toNat_natCast]
/-- rows of a dict: each key a number, its value a list of numbers -/
def RowsAt (H : Hp) (kvs : List (L2.Key × V)) (rs : List (Nat × List Nat)) : Prop := All2 (fun kv r => kv.1 = Sum.inl ((r.1 : Nat) : Int) ∧ ∃ q, kv.2 = V.ref q ∧ H q = some (.lst (iv (nats r.2)))) kvs rs
theorem rows_none {H : Hp} {kvs : List (L2.Key × V)} {rs : List (Nat × List Nat)} (h : RowsAt H kvs rs) {r i : Nat} (e : valV kvs (Sum.inl ((r : Nat) : Int)) = none) : putR rs r i = rs ++ [(r, [i])] := by
  induction h with
  | nil => rfl
  | @cons kv p kvs rs hp _ ih =>
    have n : ¬ kv.1 = Sum.inl ((r : Nat) : Int) := fun z => by
      rw [valV_pos z] at e
      cases e
    rw [valV_neg n] at e
    have n2 : ¬ p.1 = r := fun z => n (by rw [hp.1, z])
    obtain ⟨k, m⟩ := p
    unfold putR
    rw [if_neg n2, ih e]
    rfl
theorem rows_some {H : Hp} {kvs : List (L2.Key × V)} {rs : List (Nat × List Nat)} (h : RowsAt H kvs rs) {r i : Nat} {v : V} (e : valV kvs (Sum.inl ((r : Nat) : Int)) = some v) :
    ∃ K1 K2 R1 R2 m, kvs = K1 ++ (Sum.inl ((r : Nat) : Int), v) :: K2 ∧ rs = R1 ++ (r, m) :: R2 ∧ RowsAt H K1 R1 ∧ RowsAt H K2 R2 ∧ (∃ q, v = V.ref q ∧ H q = some (.lst (iv (nats m)))) ∧ putR rs r i = R1 ++ (r, m ++ [i]) :: R2 := by
  induction h with
  | nil => cases e
  | @cons kv p kvs rs hp t ih =>
    obtain ⟨k, m⟩ := p
    by_cases z : kv.1 = Sum.inl ((r : Nat) : Int)
    · rw [valV_pos z] at e
      obtain rfl : k = r := by
        have := hp.1.symm.trans z
        injection this with this
        omega
      cases e
      refine ⟨[], kvs, [], rs, m, ?_, rfl, .nil, t, hp.2, ?_⟩
      · rw [← z]
        rfl
      · unfold putR
        rw [if_pos rfl]
        rfl
    · rw [valV_neg z] at e
      have n2 : ¬ k = r := fun y => z (by rw [hp.1, y])
      obtain ⟨K1, K2, R1, R2, m2, e1, e2, h1, h2, h3, e3⟩ := ih e
      refine ⟨kv :: K1, K2, (k, m) :: R1, R2, m2, by rw [e1]; rfl, by rw [e2]; rfl, .cons hp h1, h2, h3, ?_⟩
      unfold putR
      rw [if_neg n2, e3]
      rfl
end W13
set_option Elab.async false
set_option linter.all false
set_option maxRecDepth 100000
set_option maxHeartbeats 1000000
namespace W13
open PySem L2 PySem.Spec PyProof.Rows WR WB WE
theorem call_tupNw {X : Cx} {K : PySem.W.Frag} (hK : X.K = K) : CallR X (.type "tuple") (fun xs H Q => ∃ p ys, xs = [.ref p] ∧ SqL K H p ys ∧ ∀ q (o : Obj), H q = none → o.dict = none → Q (.ref q) (L2.upd H q (.frz o (.tup ys)))) := by
  subst hK
  intro pins s σ H vs us Q I r h
  obtain ⟨p, ys, rfl, hq, k⟩ := h
  obtain ⟨u, rfl, rx⟩ := vals1 r
  cases rx
  obtain ⟨its, rv, pl, hz⟩ := I.list hq
  refine call_tuple_list pl.isList (fun h1 kp => ?_) (by rw [List.size_toArray, ← rv.length]; exact hz)
  have J : Inv X pins σ H { s with heap := h1 } := I.kept (t' := s.toks) kp
  have new : (h1.push { cls := .type "tuple", data := .seq its.toArray }).get? h1.objs.size = some { cls := .type "tuple", data := .seq its.toArray } := Heap.get?_push_size _ rfl
  exact ⟨.ref _, _, J.laid (t' := s.toks) (o := .frz { cls := .type "tuple", data := .seq its.toArray } (.tup ys)) (fun _ _ e => Heap.get?_push_of_some _ e) (Nat.le_refl _) ⟨new, hz, its, rv, IsTup.new _ _⟩, rfl, k _ _ (J.hok.fresh (Nat.le_refl _)) rfl⟩
def PrN (K : PySem.W.Frag) (H : Hp) (v : V) (p : Nat × Nat) : Prop := ∃ q : Addr, v = .ref q ∧ SqT K H q [.int (p.1 : Int), .int (p.2 : Int)]
theorem PrN.same {K : PySem.W.Frag} {H H' : Hp} {v : V} {p : Nat × Nat} (h : PrN K H v p) (s : Same H H') : PrN K H' v p := by
  obtain ⟨q, e, t⟩ := h
  exact ⟨q, e, WR.Same.seqT s t⟩
def spJoined (K : PySem.W.Frag) : Sp := fun vs H Q _ => ∃ (n : Nat) (a : Addr) (us : List V) (ps : List (Nat × Nat)), vs = [.int (n : Int), .ref a] ∧ H a = some (.lst us) ∧ All2 (PrN K H) us ps ∧ n ≤ 40 ∧ us.length ≤ 1000 ∧ (∀ p ∈ ps, p.1 < n ∧ p.2 < n) ∧
  ∀ q H', Same H H' → CornAt K H' q (joinF n ps) → Q (.ref q) H'
abbrev nJoined : List Str := ["many", "pairs", "above", "one", "other", "rows", "at", "row"]
theorem rgV_nats (n : Nat) : rgV 0 (n : Int) = iv (nats (List.range n)) := by
  unfold rgV nats
  show _ = ((List.range n).map fun (x : Nat) => (x : Int)).map V.int
  rw [List.map_map, show ((n : Int) - 0).toNat = n by omega]
  refine List.map_congr_left fun i _ => ?_
  show V.int (0 + (i : Nat)) = V.int ((i : Nat) : Int)
  rw [Int.zero_add]
theorem wk_vals {d : Addr} {o : Obj} {kvs : List (L2.Key × V)} : Walk (Itd d o kvs) (kvs.map (·.2)).length (fun H => H d = some (.frz o (.dK kvs))) (YAt (kvs.map (·.2))) := by
  have w := walk_values (d := d) (o := o) (kvs := kvs)
  rw [List.length_map]
  refine ⟨w.goes, w.stops, fun i H x H' hi g y => ?_⟩
  obtain ⟨e, k, hk⟩ := w.yields i H x H' hi g y
  refine ⟨e, ?_⟩
  rw [List.getElem?_map, hk]
  rfl
def slotN (i : Nat) (σ : L2.St) : Nat := match σ[i]? with | some (some (V.int y)) => y.toNat | _ => 0
theorem ret_cb_lock {r : List V → Hp → VK → Prop} {t : TE} {D : Ends} {σ : L2.St} {H : Hp} (h : tLockE t σ H fun y H2 => r [y] H2 D.rt) : tRet (tCB r (tCons (tLockE t) tNil)) D σ H := h
theorem flr_rows_len (ab : List Nat) : ∀ i, (∀ p ∈ (flr ab i).2, p.2.length ≤ i)
  | 0, p, h => nomatch h
  | i + 1, p, h => by
    have ih := flr_rows_len ab i
    have key : ∀ (rs : List (Nat × List Nat)) (r : Nat), (∀ p ∈ rs, p.2.length ≤ i) → ∀ p ∈ putR rs r i, p.2.length ≤ i + 1 := by
      intro rs r
      induction rs with
      | nil =>
        intro _ p hp
        unfold putR at hp
        rw [List.mem_singleton.mp hp]
        show 1 ≤ i + 1
        omega
      | cons x t iht =>
        intro hx p hp
        obtain ⟨k, m⟩ := x
        unfold putR at hp
        split at hp
        · rcases List.mem_cons.mp hp with rfl | hp
          · have := hx (k, m) List.mem_cons_self
            show (m ++ [i]).length ≤ i + 1
            rw [List.length_append]
            show m.length + 1 ≤ i + 1
            have this : m.length ≤ i := this
            omega
          · have := hx p (List.mem_cons_of_mem _ hp)
            omega
        · rcases List.mem_cons.mp hp with rfl | hp
          · have := hx (k, m) List.mem_cons_self
            have this : m.length ≤ i := this
            show m.length ≤ i + 1
            omega
          · exact iht (fun q hq => hx q (List.mem_cons_of_mem _ hq)) p hp
    exact key _ _ ih p h
section
variable {P : Program} {w : World} {K : PySem.W.Frag} {mg : Str → Option Value} {base : Heap} {C CR : Addr}
theorem scJoined : FnScope nJoined ["many", "pairs"] (defScope sJoined) := ⟨rfl, rfl, rfl, by decide +kernel, rfl, by decide +kernel, by decide +kernel⟩
theorem ok_joined {f : Addr} {fd : FuncData} (F : Fun K "joined" "joined" sJoined f fd) (TA : TxA mg) (R : TxR mg) (hlist : mg "list" = none) (hmax : mg "max" = none) (hmin : mg "min" = none) : FnOk P w K mg base CX0 1 f fd ["many", "pairs"] (spJoined K) := by
  refine F.ok scJoined (fun vs H Q E h => ?_) (fun cdv A outer s H vs Q E hr h => ?_)
  · obtain ⟨n, a, us, ps, rfl, _⟩ := h
    rfl
  · obtain ⟨n, a, us, ps, rfl, hA, hP, hn, hu, hps, k⟩ := h
    refine ⟨_, pss_cons (ps_set (i := 2) scJoined.nd rfl (Or.inl rfl) (pe_listRg rfl (by rfl) hlist (prg_1 (by rfl) R.range (pv 0))))
      (pss_cons (ps_for PassesOwn.never rfl (pi_list (pv 1)) (pg_tup (n := 2) rfl (pgs_cons (pg_name (i := 3) scJoined.nd rfl (Or.inl rfl)) (pgs_cons (pg_name (i := 4) scJoined.nd rfl (Or.inl rfl)) pgs_nil)))
        (pss_cons (ps_while PassesOwn.never (pt_cmpR op_ne (pe_ix ix_list (pv 2) (pv 3) (fun _ _ => rfl)) (pv 3) (nomark _)) (pss_one (ps_set (i := 3) scJoined.nd rfl (Or.inl rfl) (pe_ix ix_list (pv 2) (pv 3) (fun _ _ => rfl)))))
        (pss_cons (ps_while PassesOwn.never (pt_cmpR op_ne (pe_ix ix_list (pv 2) (pv 4) (fun _ _ => rfl)) (pv 4) (nomark _)) (pss_one (ps_set (i := 4) scJoined.nd rfl (Or.inl rfl) (pe_ix ix_list (pv 2) (pv 4) (fun _ _ => rfl)))))
        (pss_one (ps_asg (pe_callB (call_min2 rfl) (by rfl) hmin (by decide +kernel) (pa_cons (pv 3) (pa_cons (pv 4) pa_nil))) (pg_sub (pv 2) (pe_callB (call_max2 rfl) (by rfl) hmax (by decide +kernel) (pa_cons (pv 3) (pa_cons (pv 4) pa_nil))) set_list))))))
      (pss_cons (ps_set (i := 5) scJoined.nd rfl (Or.inl rfl) pe_dnewK)
      (pss_cons (ps_for PassesOwn.never rfl (pi_range1 (by rfl) R.range (pa_cons (pv 0) pa_nil)) (pg_name (i := 6) scJoined.nd rfl (Or.inl rfl))
        (pss_cons (ps_asg (pe_ix ix_list (pv 2) (pe_ix ix_list (pv 2) (pv 6) (fun _ _ => rfl)) (fun _ _ => rfl)) (pg_sub (pv 2) (pv 6) set_list))
        (pss_one (ps_expr (pe_bm PySem.F.plainAttrs_list PySem.F.slot_list_append PySem.F.type_list_append mt_append (pe_dsetd (pv 5) (pe_ix ix_list (pv 2) (pv 6) (fun _ _ => rfl)) (pe_lst pa_nil) ⟨rfl, rfl, rfl, rfl⟩) (pa_cons (pv 6) pa_nil))))))
      (pss_one (ps_ret (pe_callTy call_tupB (by rfl) TA.tuple (by decide +kernel) (pa_cons (pe_lock (pe_lc (own := [("row", 7)]) (g := gName 7) (tt := tYes) rfl scJoined.nd (pi_values (pv 5))
        (blkOk_by (N := nJoined) (sc := defScope sJoined) (by decide +kernel)) (fun _ _ _ _ _ => pg_name (i := 7) scJoined.nd rfl (Or.inl rfl)) (fun _ _ _ _ _ => pts_nil)
        (fun _ _ _ _ _ => pe_callTy (call_tupNw (K := K) rfl) (by rfl) TA.tuple (by decide +kernel) (pa_cons (pv 7) pa_nil)))) pa_nil))))))), ?_⟩
    refine ⟨_, rfl, n, rfl, RgOk.of_le (by omega) (by omega) (by omega) (by omega), fun lc hlc => ?_⟩
    rw [rgV_nats]
    have na : a ≠ lc := ne_of_none hA hlc
    refine ⟨_, rfl, a, rfl, ⟨us, SqL.of (by rw [upd_ne na]; exact hA)⟩, ?_⟩
    have lps := hP.length
    refine for_it (walk_list (K := K) (a := a) (xs := us)) (fun i σ H' => ∃ (v3 v4 : Option V) (ab : List Nat), σ = [some (.int (n : Int)), some (.ref a), some (.ref lc), v3, v4, none, none, none] ∧ Kept lc H H' ∧ H' lc = some (.lst (iv (nats ab))) ∧ DnOk n ab ∧ jn ab (ps.drop i) = jn (List.range n) ps)
      ⟨none, none, List.range n, rfl, fun b o nb e => by rw [upd_ne nb]; exact e, upd_same, dn_range n, rfl⟩ (fun i σ H' _ ⟨_, _, _, _, kp, _⟩ => SqL.of (kp _ _ na hA)) ?_ ?_
    · rintro i x σ H3 H4 hi ⟨v3, v4, ab, rfl, kp, hL, dn, ej⟩ ⟨rfl, hx⟩
      obtain ⟨⟨o1, o2⟩, hp, q, rfl, hq⟩ := hP.at hx
      have hq3 : SqT K H4 q [.int (o1 : Int), .int (o2 : Int)] := by
        refine hq.elim (fun r => .inl (r.elim (fun r => .inl (kp _ _ (ne_of_none r hlc) r)) fun ⟨o, r⟩ => .inr ⟨o, kp _ _ (ne_of_none r hlc) r⟩)) fun r => .inr r
      obtain ⟨b1, b2⟩ := hps (o1, o2) (List.mem_of_getElem? hp)
      have b1 : o1 < n := b1
      have b2 : o2 < n := b2
      refine ⟨q, _, rfl, hq3, rfl, _, _, rfl, _, _, rfl, rfl, ?_⟩
      refine while_by (fun σ H5 => ∃ (kk y : Nat), σ = [some (.int (n : Int)), some (.ref a), some (.ref lc), some (.int (y : Int)), some (.int (o2 : Int)), none, none, none] ∧ H4 = H5 ∧ y < n ∧ y ≤ kk ∧ rt ab kk y = rt ab o1 o1)
        (fun σ _ => slotN 3 σ) ⟨o1, o1, rfl, rfl, b1, Nat.le_refl _, rfl⟩ ?_ ?_
      · rintro σ H5 ⟨kk, y, rfl, rfl, hy, hyk, ey⟩
        have hyl : y < ab.length := by rw [dn.1]; exact hy
        refine ⟨_, rfl, _, rfl, lc, _, _, _, rfl, rfl, SqL.of hL, nats_get hyl, _, rfl, rfl, _, rfl, ?_⟩
        by_cases e : ab.getD y 0 = y
        · refine iteF' (by rw [e]; show (!decide (V.int (y : Int) = V.int (y : Int))) = false; rw [decide_eq_true rfl]; rfl) ?_
          rw [dn.rt_end _ e] at ey
          refine while_by (fun σ H5 => ∃ (kk y2 : Nat), σ = [some (.int (n : Int)), some (.ref a), some (.ref lc), some (.int (y : Int)), some (.int (y2 : Int)), none, none, none] ∧ H4 = H5 ∧ y2 < n ∧ y2 ≤ kk ∧ rt ab kk y2 = rt ab o2 o2)
            (fun σ _ => slotN 4 σ) ⟨o2, o2, rfl, rfl, b2, Nat.le_refl _, rfl⟩ ?_ ?_
          · rintro σ H5 ⟨kk2, y2, rfl, rfl, hy2, hyk2, ey2⟩
            have hyl2 : y2 < ab.length := by rw [dn.1]; exact hy2
            refine ⟨_, rfl, _, rfl, lc, _, _, _, rfl, rfl, SqL.of hL, nats_get hyl2, _, rfl, rfl, _, rfl, ?_⟩
            by_cases e2 : ab.getD y2 0 = y2
            · refine iteF' (by rw [e2]; show (!decide (V.int (y2 : Int) = V.int (y2 : Int))) = false; rw [decide_eq_true rfl]; rfl) ?_
              rw [dn.rt_end _ e2] at ey2
              have hmx : max y y2 < ab.length := by omega
              have e3 : (if (y2 : Int) < (y : Int) then (y2 : Int) else (y : Int)) = ((min y y2 : Nat) : Int) := by split <;> omega
              have e4 : (if (y2 : Int) > (y : Int) then (y2 : Int) else (y : Int)) = ((max y y2 : Nat) : Int) := by split <;> omega
              refine ⟨_, rfl, _, rfl, _, _, rfl, ?_⟩
              refine ⟨_, rfl, _, rfl, _, rfl, _, _, rfl, ?_⟩
              rw [e4]
              refine ⟨lc, _, _, max y y2, rfl, rfl, hL, by rw [nats_len]; exact ixN_nat hmx, ?_⟩
              rw [e3, nats_set]
              have ejs : ab.set (max y y2) (min y y2) = jnS ab (o1, o2) := by
                unfold jnS
                rw [← ey, ← ey2]
              rw [ejs]
              refine ⟨_, _, jnS ab (o1, o2), rfl, kp.trans Kept.upd, upd_same, dn.jnS b1 b2, ?_⟩
              rw [← ej]
              have ed : ps.drop i = (o1, o2) :: ps.drop (i + 1) := by
                have hil : i < ps.length := (List.getElem?_eq_some_iff.mp hp).1
                rw [List.drop_eq_getElem_cons hil]
                congr 1
                exact Option.some.inj ((List.getElem?_eq_getElem hil).symm.trans hp)
              rw [ed]
              rfl
            · have hle2 := dn.2 y2 hy2
              obtain ⟨k', ek, hk', er⟩ := dn.rt_step hy2 hyk2 e2
              refine iteT' (by show (!decide (V.int ((ab.getD y2 0 : Nat) : Int) = V.int (y2 : Int))) = true; rw [decide_eq_false (fun z => e2 (by injection z with z; omega))]; rfl) ?_
              refine ⟨_, rfl, _, rfl, lc, _, _, _, rfl, rfl, SqL.of hL, nats_get hyl2, ?_⟩
              refine ⟨⟨k', ab.getD y2 0, rfl, rfl, by omega, hk', er.symm.trans ey2⟩, ?_⟩
              show ((ab.getD y2 0 : Nat) : Int).toNat < ((y2 : Nat) : Int).toNat
              omega
          · rintro σ H5 Q Q' hh ⟨v, e1, u, e2, p, xs, z, v', ex, ey, hs, ha, u', e3, fl, c, ec, q⟩
            exact ⟨v, e1, u, e2, p, xs, z, v', ex, ey, hs, ha, u', e3, fl, c, ec, hh c H5 q⟩
        · have hle := dn.2 y hy
          obtain ⟨k', ek, hk', er⟩ := dn.rt_step hy hyk e
          refine iteT' (by show (!decide (V.int ((ab.getD y 0 : Nat) : Int) = V.int (y : Int))) = true; rw [decide_eq_false (fun z => e (by injection z with z; omega))]; rfl) ?_
          refine ⟨_, rfl, _, rfl, lc, _, _, _, rfl, rfl, SqL.of hL, nats_get hyl, ?_⟩
          refine ⟨⟨k', ab.getD y 0, rfl, rfl, by omega, hk', er.symm.trans ey⟩, ?_⟩
          show ((ab.getD y 0 : Nat) : Int).toNat < ((y : Nat) : Int).toNat
          omega
      · rintro σ H5 Q Q' hh ⟨v, e1, u, e2, p, xs, z, v', ex, ey, hs, ha, u', e3, fl, c, ec, q⟩
        exact ⟨v, e1, u, e2, p, xs, z, v', ex, ey, hs, ha, u', e3, fl, c, ec, hh c H5 q⟩
    · rintro σ H3 ⟨v3, v4, ab, rfl, kp, hL, dn, ej⟩
      rw [lps, List.drop_length] at ej
      have ej : ab = jn (List.range n) ps := ej
      have sm3 : Same H H3 := fun b o e => kp _ _ (ne_of_none e hlc) e
      refine fun dd hdd => ?_
      have nLd : lc ≠ dd := ne_of_none hL hdd
      have nHd : H dd = none := sm3.free hdd
      refine ⟨_, rfl, _, rfl, by omega, by omega, ?_⟩
      refine for_range (lo := 0) (n := ((n : Nat) : Int).toNat) (fun i σ H' => ∃ (v6 : Option V) (kvs : List (L2.Key × V)), σ = [some (.int (n : Int)), some (.ref a), some (.ref lc), v3, v4, some (.ref dd), v6, none] ∧ Same H H' ∧ H' lc = some (.lst (iv (nats (flr ab i).1))) ∧
          H' dd = some (.dK kvs) ∧ RowsAt H' kvs (flr ab i).2 ∧ (kvs.map (·.2)).Nodup ∧ kvs.length ≤ i ∧ ∀ q, V.ref q ∈ kvs.map (·.2) → H q = none ∧ q ≠ lc)
        ⟨none, [], rfl, sm3.trans (same_upd hdd), by rw [upd_ne nLd]; exact hL, upd_same, .nil, List.nodup_nil, Nat.le_refl _, fun _ h => nomatch h⟩ ?_ ?_
      · rintro i σ H4 hi ⟨v6, kvs, rfl, sm, hL4, hd4, hR4, nd, lk, new4⟩
        rw [Int.toNat_natCast] at hi
        rw [Int.zero_add]
        have dF := dn.flr i (by omega)
        have dG := dn.flr (i + 1) (by omega)
        obtain ⟨fl, efl⟩ : ∃ fl, fl = (flr ab i).1 := ⟨_, rfl⟩
        obtain ⟨fg, efg⟩ : ∃ fg, fg = (flr ab (i + 1)).1 := ⟨_, rfl⟩
        rw [← efl] at hL4 dF
        rw [← efg] at dG
        have eg : fg = fl.set i (fl.getD (fl.getD i 0) 0) := by rw [efg, efl]; rfl
        have hil : i < fl.length := by rw [dF.1]; exact hi
        have hjl : fl.getD i 0 < fl.length := by have := dF.2 i hi; omega
        refine ⟨_, rfl, _, rfl, _, rfl, lc, _, _, _, rfl, rfl, SqL.of hL4, nats_get hil, lc, _, _, _, rfl, rfl, SqL.of hL4, nats_get hjl, _, rfl, _, rfl, lc, _, _, i, rfl, rfl, hL4, by rw [nats_len]; exact ixN_nat hil, ?_⟩
        rw [nats_set, ← eg]
        obtain ⟨H5, e5⟩ : ∃ H5, H5 = L2.upd H4 lc (.lst (iv (nats fg))) := ⟨_, rfl⟩
        rw [← e5]
        have hL5 : H5 lc = some (.lst (iv (nats fg))) := by rw [e5, upd_same]
        have k45 : Kept lc H4 H5 := by rw [e5]; exact Kept.upd
        have sm5 : Same H H5 := by rw [e5]; exact same_put sm hlc
        have hd5 : H5 dd = some (.dK kvs) := k45 _ _ nLd.symm hd4
        have hR5 : RowsAt H5 kvs (flr ab i).2 := by
          have g : ∀ (xs : List (L2.Key × V)) (rs : List (Nat × List Nat)), RowsAt H4 xs rs → (∀ q, V.ref q ∈ xs.map (·.2) → q ≠ lc) → RowsAt H5 xs rs := by
            intro xs rs h
            induction h with
            | nil => intro _; exact .nil
            | cons r _ ih =>
              intro hn
              obtain ⟨r1, q, r2, r3⟩ := r
              refine .cons ⟨r1, q, r2, k45 _ _ (hn q (by rw [← r2]; exact List.mem_cons_self)) r3⟩ (ih fun q hq => hn q (List.mem_cons_of_mem _ hq))
          exact g _ _ hR4 fun q hq => (new4 q hq).2
        have hig : i < fg.length := by rw [dG.1]; exact hi
        have eri : fg.getD i 0 = fl.getD (fl.getD i 0) 0 := by rw [eg, getD_set hil, if_pos rfl]
        have er2 : (flr ab (i + 1)).2 = putR (flr ab i).2 (fg.getD i 0) i := by
          rw [eri, efl]
          rfl
        obtain ⟨r, er⟩ : ∃ r, r = fg.getD i 0 := ⟨_, rfl⟩
        refine ⟨_, rfl, dd, rfl, .inl ⟨kvs, .inl hd5⟩, _, rfl, _, rfl, lc, _, _, _, rfl, rfl, SqL.of hL5, nats_get hig, Nat.zero_le _, fun q hq => ?_⟩
        rw [← er] at er2 ⊢
        have ndq : dd ≠ q := ne_of_none hd5 hq
        have nlq : lc ≠ q := ne_of_none hL5 hq
        have nHq : H q = none := sm5.free hq
        obtain ⟨H6, e6⟩ : ∃ H6, H6 = L2.upd H5 q (.lst []) := ⟨_, rfl⟩
        rw [← e6]
        have s56 : Same H5 H6 := by rw [e6]; exact same_upd hq
        have hd6 := s56 _ _ hd5
        have hL6 := s56 _ _ hL5
        have hq6 : H6 q = some (.lst []) := by rw [e6, upd_same]
        have hR6 : RowsAt H6 kvs (flr ab i).2 := hR5.imp fun _ _ ⟨r1, q, r2, r3⟩ => ⟨r1, q, r2, s56 _ _ r3⟩
        have sm6 := sm5.trans s56
        refine ⟨kvs, Sum.inl ((r : Nat) : Int), hd6, rfl, Evl.sz_lt (by omega), fun v ev => ?_, fun ev => ?_⟩
        · obtain ⟨K1, K2, R1, R2, m, ek, eR, h1, h2, ⟨q0, rfl, hq0⟩, ep⟩ := rows_some (i := i) hR6 ev
          have hml : m.length ≤ i := flr_rows_len ab i (r, m) (by rw [eR]; simp)
          have mem0 : V.ref q0 ∈ kvs.map (·.2) := by rw [ek]; simp
          obtain ⟨n0, n0l⟩ := new4 q0 mem0
          have n0d : q0 ≠ dd := fun z => by
            rw [z, hd6] at hq0
            cases hq0
          refine ⟨.inl ⟨rfl, _, SqL.of hq0⟩, _, rfl, q0, _, _, rfl, rfl, hq0, Evl.sz_lt (by rw [nats_len]; omega), ?_⟩
          have k67 : Kept q0 H6 (L2.upd H6 q0 (.lst (iv (nats m) ++ [.int (i : Int)]))) := Kept.upd
          have nd1 := nd
          rw [ek, List.map_append, List.map_cons, List.nodup_append] at nd1
          obtain ⟨nd1, nd2, nd3⟩ := nd1
          rw [List.nodup_cons] at nd2
          have g : ∀ (xs : List (L2.Key × V)) (rs : List (Nat × List Nat)), RowsAt H6 xs rs → V.ref q0 ∉ xs.map (·.2) → RowsAt (L2.upd H6 q0 (.lst (iv (nats m) ++ [.int (i : Int)]))) xs rs := by
            intro xs rs h
            induction h with
            | nil => intro _; exact .nil
            | cons r _ ih =>
              intro hn
              obtain ⟨r1, q, r2, r3⟩ := r
              refine .cons ⟨r1, q, r2, k67 _ _ (fun z => hn (by rw [List.map_cons, r2, z]; exact List.mem_cons_self)) r3⟩ (ih fun z => hn (List.mem_cons_of_mem _ z))
          refine ⟨_, kvs, rfl, same_put sm6 n0, ?_, k67 _ _ n0d.symm hd6, ?_, nd, by omega, new4⟩
          · rw [← efg]
            exact k67 _ _ n0l.symm hL6
          · rw [er2, ep, ek]
            refine All2.app (g _ _ h1 fun z => nd3 _ z _ List.mem_cons_self rfl) (.cons ⟨rfl, q0, rfl, ?_⟩ (g _ _ h2 nd2.1))
            rw [upd_same]
            unfold nats iv
            rw [List.map_append, List.map_append]
            rfl
        · have eK := putK_new (V.ref q) ev
          rw [eK]
          obtain ⟨H7, e7⟩ : ∃ H7, H7 = L2.upd H6 dd (.dK (kvs ++ [(Sum.inl ((r : Nat) : Int), V.ref q)])) := ⟨_, rfl⟩
          rw [← e7]
          have k67 : Kept dd H6 H7 := by rw [e7]; exact Kept.upd
          have hd7 : H7 dd = some (.dK (kvs ++ [(Sum.inl ((r : Nat) : Int), V.ref q)])) := by rw [e7, upd_same]
          have hq7 := k67 _ _ ndq.symm hq6
          have hL7 := k67 _ _ nLd hL6
          have sm7 : Same H H7 := by rw [e7]; exact same_put sm6 nHd
          have hR7 : RowsAt H7 kvs (flr ab i).2 := hR6.imp fun _ _ ⟨r1, q, r2, r3⟩ => ⟨r1, q, r2, k67 _ _ (fun z => by rw [z, hd6] at r3; cases r3) r3⟩
          refine ⟨.inl ⟨rfl, _, SqL.of hq7⟩, _, rfl, q, _, _, rfl, rfl, hq7, Evl.sz_lt (by show 0 < 100000; omega), ?_⟩
          have k78 : Kept q H7 (L2.upd H7 q (.lst ([] ++ [.int (i : Int)]))) := Kept.upd
          have nq : V.ref q ∉ kvs.map (·.2) := fun z => by
            obtain ⟨kv, hkv, ekv⟩ := List.mem_map.mp z
            obtain ⟨p, _, _, q1, e1, h1⟩ := All2.mem hR5 hkv
            have : q1 = q := by
              rw [e1] at ekv
              injection ekv
            rw [this, hq] at h1
            cases h1
          have g : ∀ (xs : List (L2.Key × V)) (rs : List (Nat × List Nat)), RowsAt H7 xs rs → V.ref q ∉ xs.map (·.2) → RowsAt (L2.upd H7 q (.lst ([] ++ [.int (i : Int)]))) xs rs := by
            intro xs rs h
            induction h with
            | nil => intro _; exact .nil
            | cons r _ ih =>
              intro hn
              obtain ⟨r1, q2, r2, r3⟩ := r
              refine .cons ⟨r1, q2, r2, k78 _ _ (fun z => hn (by rw [List.map_cons, r2, z]; exact List.mem_cons_self)) r3⟩ (ih fun z => hn (List.mem_cons_of_mem _ z))
          refine ⟨_, _, rfl, same_put sm7 nHq, ?_, k78 _ _ ndq hd7, ?_, ?_, by rw [List.length_append]; show kvs.length + 1 ≤ i + 1; omega, ?_⟩
          · rw [← efg]
            exact k78 _ _ nlq hL7
          · rw [er2, rows_none hR7 ev]
            exact All2.app (g _ _ hR7 nq) (.cons ⟨rfl, q, rfl, upd_same⟩ .nil)
          · rw [List.map_append, List.nodup_append]
            refine ⟨nd, by simp, ?_⟩
            rintro x hx y hy rfl
            rw [List.map_cons, List.map_nil, List.mem_singleton] at hy
            have hy : x = V.ref q := hy
            exact nq (by rw [← hy]; exact hx)
          · intro z hz
            rw [List.map_append, List.mem_append] at hz
            rcases hz with hz | hz
            · exact new4 z hz
            · rw [List.map_cons, List.map_nil, List.mem_singleton] at hz
              injection hz with hz
              rw [hz]
              exact ⟨nHq, nlq.symm⟩
      · rintro σ H4 ⟨v6, kvs, rfl, sm, hL4, hd4, hR4, nd, lk, new4⟩
        rw [Int.toNat_natCast] at hR4 lk
        dsimp only
        refine ret_cb_lock ?_
        refine ⟨dd, .dK kvs, hd4, trivial, fun od => ?_⟩
        refine lc_in ?_
        refine ⟨_, rfl, dd, od, kvs, rfl, upd_same, ?_⟩
        have rows : All2 (fun (v : V) (r : Nat × List Nat) => ∃ q, v = V.ref q ∧ H4 q = some (.lst (iv (nats r.2)))) (kvs.map (·.2)) (flr ab n).2 := by
          have g : ∀ (xs : List (L2.Key × V)) (rs : List (Nat × List Nat)), RowsAt H4 xs rs → All2 (fun (v : V) (r : Nat × List Nat) => ∃ q, v = V.ref q ∧ H4 q = some (.lst (iv (nats r.2)))) (xs.map (·.2)) rs := by
            intro xs rs h
            induction h with
            | nil => exact .nil
            | cons r _ ih => exact .cons r.2 ih
          exact g _ _ hR4
        have lrow := rows.length
        have nH1 : ∀ q xs, H4 q = some (.lst xs) → q ≠ dd := fun q xs e z => by
          rw [z, hd4] at e
          cases e
        refine lcM (wk_vals (d := dd) (o := od) (kvs := kvs)) (flr ab n).2 (fun D H5 v r => ∃ q, v = V.ref q ∧ q ≠ dd ∧ SqB K H5 q (iv (nats r.2))) (fun D H5 H6 v b ⟨q, e, nq, h⟩ s => ⟨q, e, nq, SqB.same s h⟩) (fun D H5 ws o v b hD ⟨q, e, nq, h⟩ => ⟨q, e, nq, SqB.keptL hD Kept.upd h⟩)
          (by rw [List.length_map]; omega) lrow (fun H5 s => s _ _ upd_same) ?_ (fun _ _ _ _ _ => gName_mono) ?_
        · intro i x b hx hb D H5 hD hDD s5 Qy ky
          obtain ⟨r, hr2, q, rfl, hq⟩ := rows.at hx
          obtain rfl : r = b := Option.some.inj (hr2.symm.trans hb)
          have nqd := nH1 q _ hq
          have hq5 : H5 q = some (.lst (iv (nats r.2))) := s5 _ _ (by rw [upd_ne nqd]; exact hq)
          have hd5 : H5 dd = some (.frz od (.dK kvs)) := s5 _ _ upd_same
          refine ⟨rfl, _, rfl, q, _, rfl, SqL.of hq5, fun q2 o h2 ho => ?_⟩
          refine ky _ _ (same_upd h2) ⟨q2, rfl, (ne_of_none hd5 h2).symm, ⟨.inl (.inr ⟨o, upd_same⟩), ⟨o, _, upd_same, ho⟩⟩⟩
        · intro D H5 ws hD s5 hDD hW
          have hd5 : H5 dd = some (.frz od (.dK kvs)) := s5 _ _ upd_same
          have nDd : D ≠ dd := fun z => by
            rw [z, hd5] at hDD
            cases hDD
          refine ⟨hd5, D, ws, rfl, .inl ⟨SqL.of (by rw [upd_ne nDd]; exact hDD), fun q H6 s6 B6 => ?_⟩⟩
          have sm5 : Same H4 (L2.upd H5 dd (.dK kvs)) := fun b o e => by
            by_cases z : b = dd
            · rw [z, hd4] at e
              rw [z, upd_same, e]
            · rw [upd_ne z]
              exact s5 _ _ (by rw [upd_ne z]; exact e)
          have kd5 : ∀ q xs, q ≠ dd → SqB K H5 q xs → SqB K (L2.upd H5 dd (.dK kvs)) q xs := fun q xs nq ⟨h1, o, u, h2, h3⟩ => by
            refine ⟨?_, ⟨o, u, by rw [upd_ne nq]; exact h2, h3⟩⟩
            exact h1.elim (fun r => .inl (r.elim (fun r => .inl (by rw [upd_ne nq]; exact r)) fun ⟨o, r⟩ => .inr ⟨o, by rw [upd_ne nq]; exact r⟩)) fun r => .inr r
          refine k q H6 ((sm.trans sm5).trans s6) ⟨ws, B6, ?_⟩
          have fin : All2 (fun v c => ∃ q, v = V.ref q ∧ SqB K H6 q (iv (nats c))) ws ((flr ab n).2.map (·.2)) := by
            have g : ∀ (xs : List V) (rs : List (Nat × List Nat)), All2 (fun v (r : Nat × List Nat) => ∃ q, v = V.ref q ∧ q ≠ dd ∧ SqB K H5 q (iv (nats r.2))) xs rs → All2 (fun v c => ∃ q, v = V.ref q ∧ SqB K H6 q (iv (nats c))) xs (rs.map (·.2)) := by
              intro xs rs h
              induction h with
              | nil => exact .nil
              | cons r _ ih =>
                obtain ⟨q, e, nq, h⟩ := r
                exact .cons ⟨q, e, SqB.same s6 (kd5 q _ nq h)⟩ ih
            exact g _ _ hW
          rw [ej] at fin
          exact fin
end
end W13
set_option Elab.async false
set_option linter.all false
set_option maxRecDepth 100000
set_option maxHeartbeats 1000000
namespace W13
open PySem L2 PySem.Spec PyProof.Rows WR WB WE
abbrev sPieces : Stmt := top 56
abbrev sInitS : Stmt := inClass (top 57) 0
theorem lcY {β : Type} {J : It} {n : Nat} {G : Hp → Prop} {Y : Nat → Hp → V → Hp → Prop} (w : Walk J n G Y) (hY : ∀ i H x H', Y i H x H' → Same H H') (ys : List β) (R : Addr → Hp → V → β → Prop) (hst : ∀ D H H' v b, R D H v b → Same H H' → R D H' v b) (hput : ∀ D H ws o v b, H D = some (.lst ws) → R D H v b → R D (L2.upd H D o) v b)
    (hz : n < 40000) (hl : n = ys.length) {g : TG} {te : TE} {vs : List Nat} {σ : L2.St} {H1 : Hp} {Q : VK} (hG : ∀ H, Same H1 H → G H)
    (hs : ∀ (i : Nat) (x : V) (b : β) (H H' : Hp), ys[i]? = some b → Same H1 H → Y i H x H' → ∀ D, H1 D = none → (∃ ws, H' D = some (.lst ws)) → ∀ (Qy : V → Hp → Prop), (∀ v H2, Same H' H2 → R D H2 v b → Qy v H2) →
      g x (wipe σ vs) H' fun σ2 H2 => wipe σ2 vs = wipe σ vs ∧ te σ2 H2 Qy)
    (hg : ∀ x σ1 H A B, (∀ σ2 H2, A σ2 H2 → B σ2 H2) → g x σ1 H A → g x σ1 H B)
    (hd : ∀ (D : Addr) H' ws, H1 D = none → Same H1 H' → H' D = some (.lst ws) → All2 (R D H') ws ys → Q (.ref D) H') : tLc (fun _ H R => R J H) g tYes te vs σ H1 Q := by
  intro D hD
  refine lc_it w (fun i H => Same H1 H ∧ ∃ ws, H D = some (.lst ws) ∧ All2 (R D H) ws (ys.take i)) ⟨fun b o e => by rw [upd_ne (ne_of_none e hD)]; exact e, [], upd_same, by simp only [List.take_zero]; exact .nil⟩ (fun i H _ q => hG H q.1) ?_ ?_
  · rintro i x H H' hi ⟨sm, ws, hw, h2⟩ y
    have hi2 : i < ys.length := by omega
    have sY := hY _ _ _ _ y
    refine hg _ _ _ _ _ (fun σ2 H2 q => ⟨q.1, yes_te q.2⟩) (hs i x ys[i] H H' (List.getElem?_eq_getElem hi2) sm y D hD ⟨ws, sY _ _ hw⟩ _ fun v H2 s2 r => ?_)
    have s3 := sY.trans s2
    have hw2 := s3 _ _ hw
    have hlen := h2.length
    rw [List.length_take] at hlen
    refine ⟨ws, hw2, Evl.sz_lt (by omega), fun b o e => ?_, ws ++ [v], upd_same, ?_⟩
    · rw [upd_ne (ne_of_none e hD)]
      exact s3 _ _ (sm _ _ e)
    · rw [List.take_succ_eq_append_getElem hi2]
      exact (h2.imp fun v b r => hput D H2 ws _ v b hw2 (hst D _ _ v b r s3)).app (.cons (hput D H2 ws _ v _ hw2 r) .nil)
  · rintro H ⟨sm, ws, hw, h2⟩
    rw [List.take_of_length_le (by omega)] at h2
    exact hd D H ws hD sm hw h2
theorem yp_same {f g : Nat → Option V} {i : Nat} {H H' : Hp} {x : V} (y : YPair f g i H x H') : Same H H' := by
  obtain ⟨T, _, _, _, hT, e, _⟩ := y
  rw [e]
  exact same_upd hT
theorem ar_lcA {wi : TI} {g : TG} {tt : TT} {te : TE} {vs : List Nat} {σ : L2.St} {H : Hp} {Q : List V → Hp → Prop}
    (h : wi σ H fun J H1 => tLc (fun _ H R => R J H) g tt te vs σ H1 fun y H2 => Q [y] H2) : tCons (tLc wi g tt te vs) tNil σ H Q := h
/-- the number of the word of a place -/
def home (ws : List (List Int)) (i : Nat) : Nat := ((hmF 0 ws).getD i 0).toNat
def pcP (ws : List (List Int)) (mt : List Int) : List (Nat × Nat) := (List.range mt.length).map fun i => (home ws i, home ws (mt.getD i 0).toNat)
def pcF (ws : List (List Int)) (mt : List Int) : List (List Nat) := joinF ws.length (pcP ws mt)
theorem hmF_rng : ∀ (ws : List (List Int)) (f : Nat), ∀ z ∈ hmF f ws, (f : Int) ≤ z ∧ z < ((f + ws.length : Nat) : Int)
  | [], _, z, h => nomatch h
  | w :: r, f, z, h => by
    unfold hmF at h
    rw [List.mem_append] at h
    rw [List.length_cons]
    rcases h with h | h
    · have := (List.mem_replicate.mp h).2
      omega
    · have := hmF_rng r (f + 1) z h
      omega
theorem home_at {ws : List (List Int)} {i : Nat} (h : i < ws.flatten.length) : (hmF 0 ws)[i]? = some ((home ws i : Nat) : Int) ∧ home ws i < ws.length := by
  have hl : i < (hmF 0 ws).length := by rw [hmF_len]; exact h
  have r := hmF_rng ws 0 _ (List.getElem_mem hl)
  have e : home ws i = ((hmF 0 ws)[i]).toNat := by
    unfold home
    rw [List.getD_eq_getElem?_getD, List.getElem?_eq_getElem hl]
    rfl
  rw [e, List.getElem?_eq_getElem hl]
  refine ⟨?_, by omega⟩
  congr 1
  omega
def spPieces (K : PySem.W.Frag) (C CR : Addr) : Sp := fun vs H Q _ => ∃ (p m : Addr) (xs : List Addr) (ws : List (List Int)) (mt : List Int), vs = [.ref p, .ref m] ∧ RimsAt K C CR H p xs ws ∧ RimOk ws ∧ SqE K H m (iv mt) ∧ MatesOk ws.flatten.length mt ∧
  ∀ q H', Same H H' → CornAt K H' q (pcF ws mt) → Q (.ref q) H'
abbrev nPieces : List Str := ["rims", "mates", "place", "mate"]
theorem PrN.put {K : PySem.W.Frag} {D : Addr} {H : Hp} {ws : List V} {o : HO} {v : V} {p : Nat × Nat} (hD : H D = some (.lst ws)) (h : PrN K H v p) : PrN K (L2.upd H D o) v p := by
  obtain ⟨q, e, t⟩ := h
  exact ⟨q, e, SqT.keptL hD Kept.upd t⟩
section
variable {P : Program} {w : World} {K : PySem.W.Frag} {mg : Str → Option Value} {base : Heap} {C CR CS : Addr}
theorem scPieces : FnScope nPieces ["rims", "mates"] (defScope sPieces) := ⟨rfl, rfl, rfl, by decide +kernel, rfl, by decide +kernel, by decide +kernel⟩
theorem ok_pieces {f : Addr} {fd : FuncData} (F : Fun K "pieces_of" "pieces_of" sPieces f fd) (TC : TxRC K mg CR) (TA : TxA mg) (R : TxR mg) (GJ : Cal P w K mg base "joined" 1 ["many", "pairs"] (spJoined K)) : FnOk P w K mg base CX0 2 f fd ["rims", "mates"] (spPieces K C CR) := by
  refine F.ok scPieces (fun vs H Q E h => ?_) (fun cdv A outer s H vs Q E hr h => ?_)
  · obtain ⟨p, m, xs, ws, mt, rfl, _⟩ := h
    rfl
  · obtain ⟨p, m, xs, ws, mt, rfl, R1, ⟨l1, l4, hne, l24, hl, hb⟩, hM, ⟨lm, hm⟩, k⟩ := h
    refine ⟨_, pss_one (ps_ret (pe_cal GJ hr (by decide) (by rfl) (pa_cons (pe_callB call_len_seq (by rfl) TA.len PySem.boot_len (pa_cons (pe_fld (pv 0) rfl) pa_nil)) (pa_cons (pe_lc (own := [("place", 2), ("mate", 3)]) (g := gTup K 2 (gCons (gName 2) (gCons (gName 3) gNil))) (tt := tYes) rfl scPieces.nd (pi_enumA (K := K) rfl (by rfl) R.enum (pa_cons (pv 1) pa_nil))
        (blkOk_by (N := nPieces) (sc := defScope sPieces) (by decide +kernel)) (fun _ _ _ _ _ => pg_tup (n := 2) rfl (pgs_cons (pg_name (i := 2) scPieces.nd rfl (Or.inl rfl)) (pgs_cons (pg_name (i := 3) scPieces.nd rfl (Or.inl rfl)) pgs_nil))) (fun _ _ _ _ _ => pts_nil)
        (fun _ _ _ _ _ => pe_tup (pa_cons (pe_ix (ixt (K := K) rfl) (pe_fldK (K := K) rfl (pv 0) rfl) (pv 2) (fun _ _ => rfl)) (pa_cons (pe_ix (ixt (K := K) rfl) (pe_fldK (K := K) rfl (pv 0) rfl) (pv 3) (fun _ _ => rfl)) pa_nil)))) pa_nil)))), ?_⟩
    have lxw : xs.length = ws.length := R1.choose_spec.choose_spec.choose_spec.choose_spec.choose_spec.2.2.1.length
    obtain ⟨dx, tw, tl, th, tn, h1, h2, h3, h4, h5, h6⟩ := id R1
    refine ⟨_, rfl, p, CR, dx, _, _, rfl, h1, TC.cl, TC.n1, rf_words, tw, _, rfl, .inr h2.sq, ?_⟩
    refine ar_lcA ?_
    refine ⟨_, rfl, m, _, rfl, hM, fun J G wk hG => ?_⟩
    refine lcY wk (fun _ _ _ _ => yp_same) (pcP ws mt) (fun _ H v b => PrN K H v b) (fun _ _ _ _ _ h s => h.same s) (fun _ _ _ _ _ _ hD h => h.put hD) (by rw [List.length_map]; omega) (by rw [List.length_map]; unfold pcP; rw [List.length_map, List.length_range]) hG ?_ (fun _ _ _ _ _ => gTup_mono) ?_
    · rintro i x b H2 H3 hb sm ⟨T, y1, y2, rfl, hT, rfl, e1, e2⟩ D hD _ Qy ky
      cases e1
      have hin : i < mt.length := by
        have := (List.getElem?_eq_some_iff.mp hb).1
        unfold pcP at this
        rwa [List.length_map, List.length_range] at this
      obtain rfl : y2 = V.int mt[i] := by
        have e2 : (iv mt)[i]? = some y2 := e2
        rw [List.getElem?_map, List.getElem?_eq_getElem hin] at e2
        exact (Option.some.inj e2).symm
      obtain ⟨z0, z1⟩ := hm _ (List.getElem_mem hin)
      have em : mt[i] = ((mt[i].toNat : Nat) : Int) := by omega
      obtain ⟨a1, b1⟩ := home_at (ws := ws) (i := i) (by omega)
      obtain ⟨a2, b2⟩ := home_at (ws := ws) (i := mt[i].toNat) (by omega)
      have eb : b = (home ws i, home ws mt[i].toNat) := by
        unfold pcP at hb
        rw [List.getElem?_map, List.getElem?_range hin] at hb
        have this : b = (home ws i, home ws (mt.getD i 0).toNat) := (Option.some.inj hb).symm
        rw [List.getD_eq_getElem?_getD, List.getElem?_eq_getElem hin] at this
        exact this
      have sT := sm.trans (same_upd (o := .tup [.int (i : Nat), .int mt[i]]) hT)
      refine ⟨T, _, rfl, SqT.of upd_same, rfl, _, _, rfl, _, _, rfl, rfl, rfl, ?_⟩
      refine ⟨_, rfl, p, CR, dx, _, _, rfl, sT _ _ h1, TC.cl, TC.n6, rf_homes, _, rfl, th, _, _, _, rfl, rfl, (SqB.same sT h5).sq, atI_nat (iv_get a1), ?_⟩
      refine ⟨_, rfl, p, CR, dx, _, _, rfl, sT _ _ h1, TC.cl, TC.n6, rf_homes, _, rfl, th, _, _, _, rfl, rfl, (SqB.same sT h5).sq, (by rw [em]; exact atI_nat (iv_get a2)), ?_⟩
      refine ⟨by show 2 ≤ sizeLine; decide, fun q hq => ?_⟩
      refine ky _ _ (same_upd hq) ⟨q, rfl, ?_⟩
      rw [eb]
      exact SqT.of upd_same
    · intro D H2 us hD s2 h2 hA
      have lu := hA.length
      refine ⟨ws.length, D, us, pcP ws mt, by rw [List.length_map, lxw]; rfl, h2, hA, by omega, ?_, ?_, fun q H3 s3 c3 => k q H3 (s2.trans s3) c3⟩
      · rw [lu]
        unfold pcP
        rw [List.length_map, List.length_range]
        omega
      · intro b hb
        unfold pcP at hb
        obtain ⟨i, hi, rfl⟩ := List.mem_map.mp hb
        rw [List.mem_range] at hi
        obtain ⟨z0, z1⟩ := hm _ (List.getElem_mem hi)
        have e : mt.getD i 0 = mt[i] := by
          rw [List.getD_eq_getElem?_getD, List.getElem?_eq_getElem hi]
          rfl
        rw [e]
        exact ⟨(home_at (by omega)).2, (home_at (by omega)).2⟩
end
end W13
set_option Elab.async false
set_option linter.all false
set_option maxRecDepth 100000
set_option maxHeartbeats 1000000
namespace W13
open PySem L2 PySem.Spec PyProof.Rows WR WB WE
theorem CornAt.same {K : PySem.W.Frag} {H H' : Hp} {a : Addr} {cs : List (List Nat)} (h : CornAt K H a cs) (s : Same H H') : CornAt K H' a cs := by
  obtain ⟨vs, h1, h2⟩ := h
  exact ⟨vs, SqB.same s h1, h2.imp fun _ _ ⟨q, e, r⟩ => ⟨q, e, SqB.same s r⟩⟩
theorem CornAt.put {K : PySem.W.Frag} {H : Hp} {a p C dx : Addr} {fs : List (Str × V)} {o : HO} {cs : List (List Nat)} (h : CornAt K H a cs) (hp : H p = some (.ins C dx fs)) : CornAt K (L2.upd H p o) a cs := by
  obtain ⟨vs, h1, h2⟩ := h
  exact ⟨vs, SqB.put h1 hp, h2.imp fun _ _ ⟨q, e, r⟩ => ⟨q, e, SqB.put r hp⟩⟩
def cornF (ws : List (List Int)) (mt : List Int) : List (List Nat) := (crn (nxF 0 ws) mt ws.flatten.length ws.flatten.length).2
def costF (ws : List (List Int)) (mt : List Int) : Int := ((ws.flatten.length / 2 : Nat) : Int) - ((cornF ws mt).length : Int)
def handF (ws : List (List Int)) (mt : List Int) : Int := (2 * ((pcF ws mt).length : Int) - (ws.length : Int) + costF ws mt) / 2
def sf (rp tm tc : Addr) (c : Int) (tp : Addr) (g : Int) : List (Str × V) := [("rims", .ref rp), ("mates", .ref tm), ("corners", .ref tc), ("cost", .int c), ("pieces", .ref tp), ("handles", .int g)]
theorem ps1 {rp : Addr} : putF "rims" (.ref rp) ([] : List (Str × V)) = ([("rims", .ref rp)] : List (Str × V)) := rfl
theorem ps2 {rp tm : Addr} : putF "mates" (.ref tm) ([("rims", .ref rp)] : List (Str × V)) = ([("rims", .ref rp), ("mates", .ref tm)] : List (Str × V)) := by
  rw [pf_ne (show ¬ (("rims" : Str) = "mates") by decide +kernel)]
  rfl
theorem ps3 {rp tm tc : Addr} : putF "corners" (.ref tc) ([("rims", .ref rp), ("mates", .ref tm)] : List (Str × V)) = ([("rims", .ref rp), ("mates", .ref tm), ("corners", .ref tc)] : List (Str × V)) := by
  rw [pf_ne (show ¬ (("rims" : Str) = "corners") by decide +kernel), pf_ne (show ¬ (("mates" : Str) = "corners") by decide +kernel)]
  rfl
theorem ps4 {rp tm tc : Addr} {c : Int} : putF "cost" (.int c) ([("rims", .ref rp), ("mates", .ref tm), ("corners", .ref tc)] : List (Str × V)) = ([("rims", .ref rp), ("mates", .ref tm), ("corners", .ref tc), ("cost", .int c)] : List (Str × V)) := by
  rw [pf_ne (show ¬ (("rims" : Str) = "cost") by decide +kernel), pf_ne (show ¬ (("mates" : Str) = "cost") by decide +kernel), pf_ne (show ¬ (("corners" : Str) = "cost") by decide +kernel)]
  rfl
theorem ps5 {rp tm tc tp : Addr} {c : Int} : putF "pieces" (.ref tp) ([("rims", .ref rp), ("mates", .ref tm), ("corners", .ref tc), ("cost", .int c)] : List (Str × V)) = ([("rims", .ref rp), ("mates", .ref tm), ("corners", .ref tc), ("cost", .int c), ("pieces", .ref tp)] : List (Str × V)) := by
  rw [pf_ne (show ¬ (("rims" : Str) = "pieces") by decide +kernel), pf_ne (show ¬ (("mates" : Str) = "pieces") by decide +kernel), pf_ne (show ¬ (("corners" : Str) = "pieces") by decide +kernel), pf_ne (show ¬ (("cost" : Str) = "pieces") by decide +kernel)]
  rfl
theorem ps6 {rp tm tc tp : Addr} {c g : Int} : putF "handles" (.int g) ([("rims", .ref rp), ("mates", .ref tm), ("corners", .ref tc), ("cost", .int c), ("pieces", .ref tp)] : List (Str × V)) = sf rp tm tc c tp g := by
  rw [pf_ne (show ¬ (("rims" : Str) = "handles") by decide +kernel), pf_ne (show ¬ (("mates" : Str) = "handles") by decide +kernel), pf_ne (show ¬ (("corners" : Str) = "handles") by decide +kernel), pf_ne (show ¬ (("cost" : Str) = "handles") by decide +kernel), pf_ne (show ¬ (("pieces" : Str) = "handles") by decide +kernel)]
  rfl
theorem sf_rims {rp tm tc tp : Addr} {c g : Int} : (sf rp tm tc c tp g).lookup ("rims" : Str) = some (.ref rp) := lk_eq
theorem sf_mates {rp tm tc tp : Addr} {c g : Int} : (sf rp tm tc c tp g).lookup ("mates" : Str) = some (.ref tm) := by
  unfold sf
  rw [lk_ne (by decide +kernel)]
  exact lk_eq
theorem sf_corners {rp tm tc tp : Addr} {c g : Int} : (sf rp tm tc c tp g).lookup ("corners" : Str) = some (.ref tc) := by
  unfold sf
  rw [lk_ne (by decide +kernel), lk_ne (by decide +kernel)]
  exact lk_eq
theorem sf_cost {rp tm tc tp : Addr} {c g : Int} : (sf rp tm tc c tp g).lookup ("cost" : Str) = some (.int c) := by
  unfold sf
  rw [lk_ne (by decide +kernel), lk_ne (by decide +kernel), lk_ne (by decide +kernel)]
  exact lk_eq
def SewAt (K : PySem.W.Frag) (C CR CS : Addr) (H : Hp) (p rp : Addr) (xs : List Addr) (ws : List (List Int)) (mt : List Int) : Prop :=
  ∃ dx tm tc tp, H p = some (.ins CS dx (sf rp tm tc (costF ws mt) tp (handF ws mt))) ∧ RimsAt K C CR H rp xs ws ∧ SqB K H tm (iv mt) ∧ CornAt K H tc (cornF ws mt) ∧ CornAt K H tp (pcF ws mt)
theorem SewAt.same {K : PySem.W.Frag} {C CR CS : Addr} {H H' : Hp} {p rp : Addr} {xs : List Addr} {ws : List (List Int)} {mt : List Int} (h : SewAt K C CR CS H p rp xs ws mt) (s : Same H H') : SewAt K C CR CS H' p rp xs ws mt := by
  obtain ⟨dx, tm, tc, tp, h1, h2, h3, h4, h5⟩ := h
  exact ⟨dx, tm, tc, tp, s _ _ h1, h2.same s, SqB.same s h3, h4.same s, h5.same s⟩
theorem tup_of {K : PySem.W.Frag} {H : Hp} {m : Addr} {xs : List V} {Q : VK} (h : SqW K H m xs) (k : NewB K H Q xs) : (SqL K H m xs ∧ NewB K H Q xs) ∨ (SqB K H m xs ∧ Q (.ref m) H) :=
  h.elim (fun a => .inl ⟨a, k⟩) fun b => .inr ⟨b, k.self b⟩
structure TxSC (K : PySem.W.Frag) (mg : Str → Option Value) (CS : Addr) : Prop where
  cl : Cls K CS
  n1 : NoAttr K CS "rims"
  n2 : NoAttr K CS "mates"
  n3 : NoAttr K CS "corners"
  n4 : NoAttr K CS "cost"
  n5 : NoAttr K CS "pieces"
  n6 : NoAttr K CS "handles"
  mgS : mg "Sewing" = some (.ref CS)
  ca : PySem.W.findIn K (.ref CS) "__class__" = some (some (.builtin "object.__class__"))
  cm : PySem.W.mroIn K CS (.type "object") = some true
def spInitS (K : PySem.W.Frag) (C CR CS : Addr) : Sp := fun vs H Q _ => ∃ (H0 : Hp) (p dx rp m : Addr) (xs : List Addr) (ws : List (List Int)) (mt : List Int), vs = [.ref p, .ref rp, .ref m] ∧ Same H0 H ∧ H0 p = none ∧ H p = some (.ins CS dx []) ∧ RimsAt K C CR H0 rp xs ws ∧ RimOk ws ∧ SqW K H0 m (iv mt) ∧ MatOk ws.flatten mt ∧
  ∀ H', Same H0 H' → SewAt K C CR CS H' p rp xs ws mt → Q .non H'
abbrev nInitS : List Str := ["self", "rims", "mates"]
section
variable {P : Program} {w : World} {K : PySem.W.Frag} {mg : Str → Option Value} {base : Heap} {C CR CS : Addr}
theorem scInitS : FnScope nInitS ["self", "rims", "mates"] (defScope sInitS) := ⟨rfl, rfl, rfl, by decide +kernel, rfl, by decide +kernel, by decide +kernel⟩
theorem ok_initS {f : Addr} {fd : FuncData} (F : Fun K "__init__" "Sewing.__init__" sInitS f fd) (TC : TxRC K mg CR) (TS : TxSC K mg CS) (TA : TxA mg) (GR : Cal P w K mg base "need_rims" 1 ["value", "part"] (spNeedR K C CR)) (GM : Cal P w K mg base "are_mates" 4 ["letters", "value"] (spAreM K))
    (GC : Cal P w K mg base "corners_of" 1 ["rims", "mates"] (spCorn K C CR)) (GP : Cal P w K mg base "pieces_of" 2 ["rims", "mates"] (spPieces K C CR)) : FnOk P w K mg base CX0 5 f fd ["self", "rims", "mates"] (spInitS K C CR CS) := by
  refine F.ok scInitS (fun vs H Q E h => ?_) (fun cdv A outer s H vs Q E hr h => ?_)
  · obtain ⟨H0, p, dx, rp, m, xs, ws, mt, rfl, _⟩ := h
    rfl
  · obtain ⟨H0, p, dx, rp, m, xs, ws, mt, rfl, s0, p0, hp, R0, ok, hM, mk, k⟩ := h
    refine ⟨_, pss_cons (ps_expr (pe_cal GR hr (by decide) (by rfl) (pa_cons (pv 1) (pa_cons pe_str pa_nil))))
      (pss_cons (ps_if (pt_not (pt_val (pe_cal GM hr (by decide) (by rfl) (pa_cons (pe_fld (pv 1) rfl) (pa_cons (pv 2) pa_nil))))) (pss_one ps_never) pss_nil)
      (pss_cons (ps_fld (pv 0) (pv 1) rfl)
      (pss_cons (ps_fld (pv 0) (pe_callTy call_tupB (by rfl) TA.tuple (by decide +kernel) (pa_cons (pv 2) pa_nil)) rfl)
      (pss_cons (ps_fld (pv 0) (pe_cal GC hr (by decide) (by rfl) (pa_cons (pv 1) (pa_cons (pv 2) pa_nil))) rfl)
      (pss_cons (ps_fld (pv 0) (pe_op op_sub (pe_fld (pv 1) rfl) (pe_callB call_len_seq (by rfl) TA.len PySem.boot_len (pa_cons (pe_fld (pv 0) rfl) pa_nil))) rfl)
      (pss_cons (ps_fld (pv 0) (pe_cal GP hr (by decide) (by rfl) (pa_cons (pv 1) (pa_cons (pv 2) pa_nil))) rfl)
      (pss_one (ps_fld (pv 0) (pe_op op_fdiv (pe_op op_add (pe_op op_sub (pe_op op_mul pe_int (pe_callB call_len_seq (by rfl) TA.len PySem.boot_len (pa_cons (pe_fld (pv 0) rfl) pa_nil))) (pe_callB call_len_seq (by rfl) TA.len PySem.boot_len (pa_cons (pe_fld (pv 1) rfl) pa_nil))) (pe_fld (pv 0) rfl)) pe_int) rfl)))))))), ?_⟩
    have l24 := ok.2.2.2.1
    obtain ⟨dr, tw, tl, th, tn, h1, h2, h3, h4, h5, h6⟩ := id R0
    have lxw : xs.length = ws.length := h3.length
    refine ⟨_, rfl, rp, _, xs, ws, rfl, R0.same s0, ?_⟩
    refine ⟨_, rfl, rp, CR, dr, _, _, rfl, s0 _ _ h1, TC.cl, TC.n2, rf_letters, _, rfl, tl, m, ws.flatten, mt, rfl, SqB.same s0 h4, hM.e.same s0, by omega, mk, fun H1 s1 => ⟨_, rfl, iteF ?_⟩⟩
    have s01 := s0.trans s1
    have hp1 := s1 _ _ hp
    -- its rims
    refine ⟨_, rfl, _, rfl, p, CS, dx, _, rfl, hp1, TS.cl, TS.n1, (by show 0 < 1000; decide), ?_⟩
    have s02 := same_put (o := (.ins CS dx (putF "rims" (.ref rp) []))) s01 p0
    have hp2 : L2.upd H1 p (.ins CS dx (putF "rims" (.ref rp) [])) p = some (.ins CS dx [("rims", .ref rp)]) := by rw [upd_same, ps1]
    obtain ⟨H2, e2⟩ : ∃ H', H' = L2.upd H1 p (.ins CS dx (putF "rims" (.ref rp) [])) := ⟨_, rfl⟩
    rw [← e2] at s02 hp2 ⊢
    clear e2
    -- its mates
    refine ⟨_, rfl, m, iv mt, rfl, tup_of (hM.same s02) fun tm H3 s3 B3 => ?_⟩
    have hp3 := s3 _ _ hp2
    have s03 := s02.trans s3
    refine ⟨_, rfl, p, CS, dx, _, rfl, hp3, TS.cl, TS.n2, (by show 1 < 1000; decide), ?_⟩
    have s04 := same_put (o := (.ins CS dx (putF "mates" (.ref tm) [("rims", .ref rp)]))) s03 p0
    have hp4 : L2.upd H3 p (.ins CS dx (putF "mates" (.ref tm) [("rims", .ref rp)])) p = some (.ins CS dx [("rims", .ref rp), ("mates", .ref tm)]) := by rw [upd_same, ps2]
    have B4 := SqB.put (o := (.ins CS dx (putF "mates" (.ref tm) [("rims", .ref rp)]))) B3 hp3
    obtain ⟨H4, e4⟩ : ∃ H', H' = L2.upd H3 p (.ins CS dx (putF "mates" (.ref tm) [("rims", .ref rp)])) := ⟨_, rfl⟩
    rw [← e4] at s04 hp4 B4 ⊢
    clear e4
    -- its corners
    refine ⟨_, rfl, _, rfl, rp, m, xs, ws, mt, rfl, R0.same s04, ok, hM.e.same s04, mk.1.1, fun tc H5 s5 C5 => ?_⟩
    have hp5 := s5 _ _ hp4
    have s05 := s04.trans s5
    have B5 := SqB.same s5 B4
    refine ⟨_, rfl, p, CS, dx, _, rfl, hp5, TS.cl, TS.n3, (by show 2 < 1000; decide), ?_⟩
    have s06 := same_put (o := (.ins CS dx (putF "corners" (.ref tc) [("rims", .ref rp), ("mates", .ref tm)]))) s05 p0
    have hp6 : L2.upd H5 p (.ins CS dx (putF "corners" (.ref tc) [("rims", .ref rp), ("mates", .ref tm)])) p = some (.ins CS dx [("rims", .ref rp), ("mates", .ref tm), ("corners", .ref tc)]) := by rw [upd_same, ps3]
    have B6 := SqB.put (o := (.ins CS dx (putF "corners" (.ref tc) [("rims", .ref rp), ("mates", .ref tm)]))) B5 hp5
    have C6 := CornAt.put (o := (.ins CS dx (putF "corners" (.ref tc) [("rims", .ref rp), ("mates", .ref tm)]))) C5 hp5
    obtain ⟨H6, e6⟩ : ∃ H', H' = L2.upd H5 p (.ins CS dx (putF "corners" (.ref tc) [("rims", .ref rp), ("mates", .ref tm)])) := ⟨_, rfl⟩
    rw [← e6] at s06 hp6 B6 C6 ⊢
    clear e6
    -- its cost
    have C6' : CornAt K H6 tc (cornF ws mt) := C6
    obtain ⟨vc, c1, c2⟩ := id C6'
    have lvc : vc.length = (cornF ws mt).length := c2.length
    refine ⟨_, rfl, rp, CR, dr, _, _, rfl, s06 _ _ h1, TC.cl, TC.n4, rf_bands, _, rfl, p, CS, dx, _, _, rfl, hp6, TS.cl, TS.n3, ?_, tc, _, rfl, .inr c1.sq, _, _, rfl, rfl, ?_⟩
    · rw [lk_ne (by decide +kernel), lk_ne (by decide +kernel)]
      exact lk_eq
    have ec : ((ws.flatten.length / 2 : Nat) : Int) - ((vc.length : Nat) : Int) = costF ws mt := by
      unfold costF
      rw [lvc]
    try dsimp only
    rw [ec]
    refine ⟨_, rfl, p, CS, dx, _, rfl, hp6, TS.cl, TS.n4, (by show 3 < 1000; decide), ?_⟩
    have s07 := same_put (o := (.ins CS dx (putF "cost" (.int (costF ws mt)) [("rims", .ref rp), ("mates", .ref tm), ("corners", .ref tc)]))) s06 p0
    have hp7 : L2.upd H6 p (.ins CS dx (putF "cost" (.int (costF ws mt)) [("rims", .ref rp), ("mates", .ref tm), ("corners", .ref tc)])) p = some (.ins CS dx [("rims", .ref rp), ("mates", .ref tm), ("corners", .ref tc), ("cost", .int (costF ws mt))]) := by rw [upd_same, ps4]
    have B7 := SqB.put (o := (.ins CS dx (putF "cost" (.int (costF ws mt)) [("rims", .ref rp), ("mates", .ref tm), ("corners", .ref tc)]))) B6 hp6
    have C7 := CornAt.put (o := (.ins CS dx (putF "cost" (.int (costF ws mt)) [("rims", .ref rp), ("mates", .ref tm), ("corners", .ref tc)]))) C6' hp6
    obtain ⟨H7, e7⟩ : ∃ H', H' = L2.upd H6 p (.ins CS dx (putF "cost" (.int (costF ws mt)) [("rims", .ref rp), ("mates", .ref tm), ("corners", .ref tc)])) := ⟨_, rfl⟩
    rw [← e7] at s07 hp7 B7 C7 ⊢
    clear e7
    -- its pieces
    refine ⟨_, rfl, _, rfl, rp, m, xs, ws, mt, rfl, R0.same s07, ok, hM.e.same s07, mk.1.1, fun tp H8 s8 P8 => ?_⟩
    have hp8 := s8 _ _ hp7
    have s08 := s07.trans s8
    have B8 := SqB.same s8 B7
    have C8 := C7.same s8
    refine ⟨_, rfl, p, CS, dx, _, rfl, hp8, TS.cl, TS.n5, (by show 4 < 1000; decide), ?_⟩
    have s09 := same_put (o := (.ins CS dx (putF "pieces" (.ref tp) [("rims", .ref rp), ("mates", .ref tm), ("corners", .ref tc), ("cost", .int (costF ws mt))]))) s08 p0
    have hp9 : L2.upd H8 p (.ins CS dx (putF "pieces" (.ref tp) [("rims", .ref rp), ("mates", .ref tm), ("corners", .ref tc), ("cost", .int (costF ws mt))])) p = some (.ins CS dx [("rims", .ref rp), ("mates", .ref tm), ("corners", .ref tc), ("cost", .int (costF ws mt)), ("pieces", .ref tp)]) := by rw [upd_same, ps5]
    have B9 := SqB.put (o := (.ins CS dx (putF "pieces" (.ref tp) [("rims", .ref rp), ("mates", .ref tm), ("corners", .ref tc), ("cost", .int (costF ws mt))]))) B8 hp8
    have C9 := CornAt.put (o := (.ins CS dx (putF "pieces" (.ref tp) [("rims", .ref rp), ("mates", .ref tm), ("corners", .ref tc), ("cost", .int (costF ws mt))]))) C8 hp8
    have P9 := CornAt.put (o := (.ins CS dx (putF "pieces" (.ref tp) [("rims", .ref rp), ("mates", .ref tm), ("corners", .ref tc), ("cost", .int (costF ws mt))]))) P8 hp8
    obtain ⟨H9, e9⟩ : ∃ H', H' = L2.upd H8 p (.ins CS dx (putF "pieces" (.ref tp) [("rims", .ref rp), ("mates", .ref tm), ("corners", .ref tc), ("cost", .int (costF ws mt))])) := ⟨_, rfl⟩
    rw [← e9] at s09 hp9 B9 C9 P9 ⊢
    clear e9
    -- its handles
    obtain ⟨vp, q1, q2⟩ := id P9
    have lvp : vp.length = (pcF ws mt).length := q2.length
    have k5 : List.lookup ("pieces" : Str) ([("rims", .ref rp), ("mates", .ref tm), ("corners", .ref tc), ("cost", .int (costF ws mt)), ("pieces", .ref tp)] : List (Str × V)) = some (.ref tp) := by
      rw [lk_ne (by decide +kernel), lk_ne (by decide +kernel), lk_ne (by decide +kernel), lk_ne (by decide +kernel)]
      exact lk_eq
    have k4 : List.lookup ("cost" : Str) ([("rims", .ref rp), ("mates", .ref tm), ("corners", .ref tc), ("cost", .int (costF ws mt)), ("pieces", .ref tp)] : List (Str × V)) = some (.int (costF ws mt)) := by
      rw [lk_ne (by decide +kernel), lk_ne (by decide +kernel), lk_ne (by decide +kernel)]
      exact lk_eq
    refine ⟨_, rfl, p, CS, dx, _, _, rfl, hp9, TS.cl, TS.n5, k5, tp, _, rfl, .inr q1.sq, _, _, rfl, rfl, .inl ⟨by decide, by decide⟩, ?_⟩
    refine ⟨_, rfl, rp, CR, dr, _, _, rfl, s09 _ _ h1, TC.cl, TC.n1, rf_words, tw, _, rfl, .inr (SqB.same s09 h2).sq, _, _, rfl, rfl, ?_⟩
    refine ⟨_, rfl, p, CS, dx, _, _, rfl, hp9, TS.cl, TS.n4, k4, _, _, rfl, rfl, ?_⟩
    refine ⟨_, _, rfl, rfl, ⟨by decide, by decide⟩, ?_⟩
    have eg : (2 * ((vp.length : Nat) : Int) - (((xs.map V.ref).length : Nat) : Int) + costF ws mt) / 2 = handF ws mt := by
      unfold handF
      rw [lvp, List.length_map, lxw]
    try dsimp only
    rw [eg]
    refine ⟨_, rfl, p, CS, dx, _, rfl, hp9, TS.cl, TS.n6, (by show 5 < 1000; decide), ?_⟩
    have s10 := same_put (o := (.ins CS dx (putF "handles" (.int (handF ws mt)) [("rims", .ref rp), ("mates", .ref tm), ("corners", .ref tc), ("cost", .int (costF ws mt)), ("pieces", .ref tp)]))) s09 p0
    refine k _ s10 ⟨dx, tm, tc, tp, by rw [upd_same, ps6], R0.same s10, SqB.put B9 hp9, C9.put hp9, P9.put hp9⟩
end
end W13
set_option Elab.async false
set_option linter.all false
set_option maxRecDepth 100000
set_option maxHeartbeats 1000000
namespace W13
open PySem L2 PySem.Spec PyProof.Rows WR WB WE
abbrev sMany : Stmt := top 58
def fct (n : Nat) : Nat := Builtin.Math.factorialNat n
theorem fct_small : ∀ n, n < 25 → fct n < 2 ^ 80 := by decide +kernel
def rFct : List V → Hp → VK → Prop := fun vs H Q => ∃ n : Nat, vs = [.int (n : Int)] ∧ n < 25 ∧ Q (.int ((fct n : Nat) : Int)) H
theorem cr_fct {X : Cx} : CallR X (.builtin "math.factorial") rFct := by
  intro pins s σ H vs us Q I r h
  obtain ⟨n, rfl, hn, q⟩ := h
  obtain ⟨u, rfl, ru⟩ := vals1 r
  obtain ⟨t, rfl⟩ := ru
  have big : fct n < 2 ^ 80 := fct_small n hn
  have lg : (((Builtin.Math.factorialNat ((n : Int)).toNat : Nat) : Int)).natAbs.log2 < bitsLine := by
    rw [Int.toNat_natCast, Int.natAbs_natCast]
    exact Nat.lt_of_lt_of_le (PySem.Flt.log2_lt_of (by decide) big) (by decide)
  refine PySem.W.mg_factorial (by unfold Builtin.Math.maxSsize; omega) (by omega) (by unfold Builtin.Math.manyFactors; omega) lg ?_
  rw [Int.toNat_natCast]
  exact ⟨.int _, H, I.tok _, ⟨_, rfl⟩, q⟩
theorem ip_mulW {X : Cx} : PIp X .Mult (fun x y H Q => ∃ i j, x = .int i ∧ y = .int j ∧ CMulW i j ∧ Q (.int (i * j)) H) := by
  intro pins s σ H x y v u Q I rx ry ⟨i, j, e1, e2, small, q⟩
  subst e1
  subst e2
  obtain ⟨t, rfl⟩ := rx
  obtain ⟨t', rfl⟩ := ry
  exact imul_int ⟨.int _, H, I.tok _, ⟨_, rfl⟩, q⟩ small.ok
/-- the kinds of letters, ascending -/
def kindsF (ls : List Int) : List Int := ((List.range 26).map fun (i : Nat) => (i : Int) + 1).filter fun k => decide (k ∈ ls ∨ -k ∈ ls)
theorem kinds_is {ls ks : List Int} (h : Lts ls) (hk : kindsOk ls ks) : ks = kindsF ls := by
  refine sorted_ext _ _ hk.1 ?_ ?_
  · refine List.Pairwise.filter _ ?_
    rw [List.pairwise_map]
    exact List.Pairwise.imp (fun {a b} h => by omega) List.pairwise_lt_range
  · intro x
    rw [hk.2]
    unfold kindsF
    rw [List.mem_filter, decide_eq_true_eq, List.mem_map]
    constructor
    · rintro ⟨y, hy, e⟩
      obtain ⟨a, b⟩ := h y hy
      refine ⟨⟨y.natAbs - 1, List.mem_range.mpr (by omega), by omega⟩, ?_⟩
      rcases Int.natAbs_eq y with z | z
      · exact .inl (by rw [e, ← z]; exact hy)
      · exact .inr (by rw [e, ← z]; exact hy)
    · rintro ⟨⟨i, _, e⟩, h | h⟩
      · exact ⟨x, h, by omega⟩
      · exact ⟨-x, h, by omega⟩
def manyF (ls : List Int) : Nat := ((kindsF ls).map fun k => fct (ls.count k)).foldl (· * ·) 1
def spMany (K : PySem.W.Frag) (C CR : Addr) : Sp := fun vs H Q _ => ∃ (p : Addr) (xs : List Addr) (ws : List (List Int)), vs = [.ref p] ∧ RimsAt K C CR H p xs ws ∧ RimOk ws ∧ ∀ H', Same H H' → Q (.int ((manyF ws.flatten : Nat) : Int)) H'
abbrev nMany : List Str := ["rims", "many", "kind"]
theorem foldl_snoc {f : Int → Nat} {ks : List Int} {i : Nat} {k : Int} (h : ks[i]? = some k) : ((ks.take (i + 1)).map f).foldl (· * ·) 1 = ((ks.take i).map f).foldl (· * ·) 1 * f k := by
  have hi := (List.getElem?_eq_some_iff.mp h).1
  have e : ks[i] = k := Option.some.inj ((List.getElem?_eq_getElem hi).symm.trans h)
  rw [List.take_succ_eq_append_getElem hi, List.map_append, List.foldl_append, e]
  rfl
section
variable {P : Program} {w : World} {K : PySem.W.Frag} {mg : Str → Option Value} {base : Heap} {C CR CS : Addr}
theorem scMany : FnScope nMany ["rims"] (defScope sMany) := ⟨rfl, rfl, rfl, by decide +kernel, rfl, by decide +kernel, by decide +kernel⟩
theorem ok_many {f : Addr} {fd : FuncData} (F : Fun K "many_sewings" "many_sewings" sMany f fd) (TC : TxRC K mg CR) (hfac : mg "factorial" = some (.builtin "math.factorial")) (GR : Cal P w K mg base "need_rims" 1 ["value", "part"] (spNeedR K C CR)) (GK : Cal P w K mg base "kinds_of" 1 ["letters"] (spKinds K)) :
    FnOk P w K mg base CX0 2 f fd ["rims"] (spMany K C CR) := by
  refine F.ok scMany (fun vs H Q E h => ?_) (fun cdv A outer s H vs Q E hr h => ?_)
  · obtain ⟨p, xs, ws, rfl, _⟩ := h
    rfl
  · obtain ⟨p, xs, ws, rfl, R1, ok, k⟩ := h
    refine ⟨_, pss_cons (ps_expr (pe_cal GR hr (by decide) (by rfl) (pa_cons (pv 0) (pa_cons pe_str pa_nil))))
      (pss_cons (ps_set (i := 1) scMany.nd rfl (Or.inl rfl) pe_int)
      (pss_cons (ps_for PassesOwn.never rfl (pi_tup (pe_cal GK hr (by decide) (by rfl) (pa_cons (pe_fld (pv 0) rfl) pa_nil))) (pg_name (i := 2) scMany.nd rfl (Or.inl rfl))
        (pss_one (ps_aug (i := 1) scMany.nd rfl (Or.inl rfl) (pe_callBfun cr_fct (by rfl) hfac (pa_cons (pe_mG (tyB_ok (K := K) rfl) PySem.F.plainAttrs_tuple PySem.F.slot_tuple_count PySem.F.type_tuple_count (mt_tcount (K := K) rfl) (pe_fld (pv 0) rfl) (pa_cons (pv 2) pa_nil)) pa_nil)) ip_mulW)))
      (pss_one (ps_ret (pv 1))))), ?_⟩
    obtain ⟨l1, l4, hne, l24, hl, hb⟩ := ok
    obtain ⟨dx, tw, tl, th, tn, h1, h2, h3, h4, h5, h6⟩ := id R1
    refine ⟨_, rfl, p, _, xs, ws, rfl, R1, ?_⟩
    refine ⟨_, rfl, p, CR, dx, _, _, rfl, h1, TC.cl, TC.n2, rf_letters, tl, ws.flatten, rfl, .inr h4.sq, by omega, hl, fun ks hk q H1 s1 T1 => ?_⟩
    have ek := kinds_is hl hk
    have lk : ks.length ≤ 26 := kinds_len hl hk
    refine ⟨q, rfl, ⟨_, T1⟩, ?_⟩
    refine for_it (walk_tup (K := K) (a := q) (xs := iv ks)) (fun i σ H' => ∃ (v2 : Option V), σ = [some (.ref p), some (.int ((((ks.take i).map fun k => fct (ws.flatten.count k)).foldl (· * ·) 1 : Nat) : Int)), v2] ∧ H1 = H' ∧ ((ks.take i).map fun k => fct (ws.flatten.count k)).foldl (· * ·) 1 < 2 ^ (80 * i + 1))
      ⟨none, rfl, rfl, by rw [List.take_zero]; show 1 < 2 ^ 1; decide⟩ (fun i σ H' _ ⟨_, _, e, _⟩ => e ▸ T1) ?_ ?_
    · rintro i x σ H2 H3 hi ⟨v2, rfl, rfl, lt⟩ ⟨rfl, hx⟩
      rw [List.length_map] at hi
      obtain rfl : x = V.int ks[i] := by
        rw [List.getElem?_map, List.getElem?_eq_getElem hi] at hx
        exact (Option.some.inj hx).symm
      have hc : ws.flatten.count ks[i] < 25 := by
        have := List.count_le_length (a := ks[i]) (l := ws.flatten)
        omega
      have f1 := fct_small _ hc
      refine ⟨_, rfl, _, rfl, p, CR, dx, _, _, rfl, s1 _ _ h1, TC.cl, TC.n2, rf_letters, ⟨tl, _, rfl, SqB.same s1 h4⟩, _, rfl, tl, ws.flatten, _, rfl, rfl, (SqB.same s1 h4).sq, _, rfl, hc, _, _, rfl, rfl, ?_, ?_⟩
      · exact wide_mul (a := 80 * i + 1) (b := 80) (by rw [Int.natAbs_natCast]; exact lt) (by rw [Int.natAbs_natCast]; exact f1) (by omega) (by omega) (by omega)
      · have e := foldl_snoc (f := fun k => fct (ws.flatten.count k)) (List.getElem?_eq_getElem hi)
        refine ⟨some (V.int ks[i]), ?_, rfl, ?_⟩
        · rw [e, Int.natCast_mul]
          rfl
        · rw [e, show 80 * (i + 1) + 1 = (80 * i + 1) + 80 by omega, Nat.pow_add]
          exact Nat.mul_lt_mul'' lt f1
    · rintro σ H2 ⟨v2, rfl, rfl, _⟩
      rw [List.length_map, List.take_length, ek]
      exact ⟨_, rfl, k _ s1⟩
end
end W13
set_option Elab.async false
set_option linter.all false
set_option maxRecDepth 100000
set_option maxHeartbeats 1000000
namespace W13
open PySem L2 PySem.Spec PyProof.Rows WR WB WE
abbrev sFill : Stmt := top 27
def om : Option Nat → V
  | none => .non
  | some x => .int (x : Int)
def cN (m : List (Option Nat)) : Nat := m.countP Option.isNone
def fN (m : List (Option Nat)) : Nat := m.findIdx Option.isNone
def fillF (ps : List (List Nat)) : Nat → List (Option Nat) → List (List Nat)
  | 0, _ => []
  | d + 1, m => if m.any Option.isNone = true then
      ((ps.getD (fN m) []).map fun q => if (m.getD q (some 0)).isNone = true then fillF ps d ((m.set (fN m) (some q)).set q (some (fN m))) else []).flatten
    else [m.map (·.getD 0)]
/-- lists of numbers in a list, none of them at ff -/
def PartsAt (H : Hp) (ff a : Addr) (ps : List (List Nat)) : Prop := a ≠ ff ∧ ∃ vs, H a = some (.lst vs) ∧ All2 (fun v r => ∃ q, v = V.ref q ∧ q ≠ ff ∧ H q = some (.lst (iv (nats r)))) vs ps
theorem PartsAt.kept {H H' : Hp} {ff a : Addr} {ps : List (List Nat)} (h : PartsAt H ff a ps) (k : Kept ff H H') : PartsAt H' ff a ps := by
  obtain ⟨n, vs, h1, h2⟩ := h
  exact ⟨n, vs, k _ _ n h1, h2.imp fun _ _ ⟨q, e, nq, r⟩ => ⟨q, e, nq, k _ _ nq r⟩⟩
def RowsB (K : PySem.W.Frag) (H : Hp) (vs : List V) (rs : List (List Nat)) : Prop := All2 (fun v r => ∃ q, v = V.ref q ∧ SqB K H q (iv (nats r))) vs rs
theorem RowsB.keptL {K : PySem.W.Frag} {H H' : Hp} {ff : Addr} {us vs : List V} {rs : List (List Nat)} (hl : H ff = some (.lst us)) (k : Kept ff H H') (h : RowsB K H vs rs) : RowsB K H' vs rs :=
  h.imp fun _ _ ⟨q, e, r⟩ => ⟨q, e, SqB.keptL hl k r⟩
structure PartOk (ps : List (List Nat)) : Prop where
  len : ps.length ≤ 40
  row : ∀ r ∈ ps, r.length ≤ 40
  rng : ∀ r ∈ ps, ∀ q ∈ r, q < ps.length
def spFill (K : PySem.W.Frag) (d : Nat) : Sp := fun vs H Q _ => ∃ (a mm ff : Addr) (ps : List (List Nat)) (m : List (Option Nat)) (fs : List V), vs = [.ref a, .ref mm, .ref ff] ∧ PartsAt H ff a ps ∧ PartOk ps ∧ mm ≠ ff ∧ H mm = some (.lst (m.map om)) ∧ m.length = ps.length ∧ cN m ≤ d ∧
  H ff = some (.lst fs) ∧ fs.length + (fillF ps (d + 1) m).length ≤ 10000 ∧ ∀ H' new, Kept ff H H' → H' ff = some (.lst (fs ++ new)) → RowsB K H' new (fillF ps (d + 1) m) → Q .non H'
abbrev nFill : List Str := ["partners", "mates", "found", "place", "mate", "more"]
theorem om_flat (o : Option Nat) : flatV (om o) = true := by cases o <;> rfl
theorem oms_flat (m : List (Option Nat)) : (m.map om).all flatV = true := by
  rw [List.all_eq_true]
  intro v hv
  obtain ⟨o, _, rfl⟩ := List.mem_map.mp hv
  exact om_flat o
theorem om_eq (o : Option Nat) : eqV (om o) .non = o.isNone := by cases o <;> rfl
theorem in_none (m : List (Option Nat)) : inV .non (m.map om) = m.any Option.isNone := by
  unfold inV
  rw [List.any_map]
  congr 1
  funext o
  exact om_eq o
theorem om_at {m : List (Option Nat)} {i : Nat} (h : i < m.length) : atI (m.map om) ((i : Nat) : Int) = some (om (m.getD i (some 0))) := by
  refine atI_nat ?_
  rw [List.getElem?_map, List.getElem?_eq_getElem h, List.getD_eq_getElem?_getD, List.getElem?_eq_getElem h]
  rfl
theorem om_set {m : List (Option Nat)} {i x : Nat} : (m.map om).set i (V.int (x : Int)) = (m.set i (some x)).map om := by
  rw [List.map_set]
  rfl
theorem no_none {m : List (Option Nat)} (h : m.any Option.isNone = false) : m.map om = iv (nats (m.map (·.getD 0))) := by
  unfold iv nats
  rw [List.map_map, List.map_map]
  refine List.map_congr_left fun o ho => ?_
  cases o with
  | some x => rfl
  | none =>
    rw [List.any_eq_false] at h
    exact absurd rfl (h none ho)
theorem fN_lt {m : List (Option Nat)} (h : m.any Option.isNone = true) : fN m < m.length := by
  unfold fN
  rw [List.findIdx_lt_length]
  obtain ⟨x, hx, e⟩ := List.any_eq_true.mp h
  exact ⟨x, hx, e⟩
theorem fN_at {m : List (Option Nat)} (h : m.any Option.isNone = true) : m[fN m]? = some none := by
  have l := fN_lt h
  have e : (m[fN m]).isNone = true := List.findIdx_getElem (w := l)
  rw [List.getElem?_eq_getElem l]
  cases z : m[fN m] with
  | none => rfl
  | some x => rw [z] at e; cases e
theorem fN_not {m : List (Option Nat)} {j : Nat} {o : Option Nat} (hj : j < fN m) (h : m[j]? = some o) : o.isNone = false := by
  have hl := (List.getElem?_eq_some_iff.mp h).1
  have e := List.not_of_lt_findIdx (p := Option.isNone) (xs := m) hj
  obtain ⟨_, e2⟩ := List.getElem?_eq_some_iff.mp h
  rw [e2] at e
  cases o with
  | none => simp at e
  | some x => rfl
theorem cN_set {m : List (Option Nat)} {i x : Nat} : cN (m.set i (some x)) ≤ cN m := by
  unfold cN
  induction m generalizing i with
  | nil => exact Nat.le_refl _
  | cons a t ih =>
    cases i with
    | zero =>
      rw [List.set_cons_zero, List.countP_cons, List.countP_cons]
      show t.countP Option.isNone + 0 ≤ _
      omega
    | succ i =>
      rw [List.set_cons_succ, List.countP_cons, List.countP_cons]
      have := ih (i := i)
      omega
theorem cN_none {m : List (Option Nat)} {i x : Nat} (h : m[i]? = some none) : cN (m.set i (some x)) + 1 = cN m := by
  unfold cN
  induction m generalizing i with
  | nil => cases h
  | cons a t ih =>
    cases i with
    | zero =>
      obtain rfl : a = none := Option.some.inj h
      rw [List.set_cons_zero, List.countP_cons, List.countP_cons]
      show t.countP Option.isNone + 0 + 1 = t.countP Option.isNone + 1
      omega
    | succ i =>
      rw [List.set_cons_succ, List.countP_cons, List.countP_cons]
      have := ih (i := i) h
      omega
/-- what comes of one mate -/
def fillG (ps : List (List Nat)) (d : Nat) (m : List (Option Nat)) (q : Nat) : List (List Nat) := if (m.getD q (some 0)).isNone = true then fillF ps d ((m.set (fN m) (some q)).set q (some (fN m))) else []
theorem fill_yes {ps : List (List Nat)} {d : Nat} {m : List (Option Nat)} (h : m.any Option.isNone = true) : fillF ps (d + 1) m = ((ps.getD (fN m) []).map (fillG ps d m)).flatten := by
  conv => lhs; unfold fillF
  rw [if_pos h]
  rfl
theorem fill_no {ps : List (List Nat)} {d : Nat} {m : List (Option Nat)} (h : m.any Option.isNone = false) : fillF ps (d + 1) m = [m.map (·.getD 0)] := by
  unfold fillF
  rw [if_neg (by rw [h]; decide)]
section
variable {P : Program} {w : World} {K : PySem.W.Frag} {mg : Str → Option Value} {base : Heap} {C CR CS : Addr}
theorem scFill : FnScope nFill ["partners", "mates", "found"] (defScope sFill) := ⟨rfl, rfl, rfl, by decide +kernel, rfl, by decide +kernel, by decide +kernel⟩
theorem ok_fill {f : Addr} {fd : FuncData} (F : Fun K "fill_mates" "fill_mates" sFill f fd) (TA : TxA mg) (hlist : mg "list" = none) (hmg : mg "fill_mates" = some (.ref f)) (hb : Binds K fd ["partners", "mates", "found"] []) :
    ∀ d, FnOk P w K mg base CX0 (d + 1) f fd ["partners", "mates", "found"] (spFill K d) := by
  intro d
  induction d with
  | zero =>
    refine F.ok scFill (fun vs H Q E h => ?_) (fun cdv A outer s H vs Q E hr h => ?_)
    · obtain ⟨a, mm, ff, ps, m, fs, rfl, _⟩ := h
      rfl
    · obtain ⟨a, mm, ff, ps, m, fs, rfl, hP, pok, nm, hm, lm, hc, hF, sz, k⟩ := h
      have hno : m.any Option.isNone = false := by
        rw [List.any_eq_false]
        intro o ho z
        have : 0 < cN m := List.countP_pos_iff.mpr ⟨o, ho, z⟩
        omega
      refine ⟨_, pss_cons (ps_if (pt_cmpR op_notIn_seq pe_non (pv 1) (by rfl)) (pss_cons (ps_expr (pe_bm PySem.F.plainAttrs_list PySem.F.slot_list_append PySem.F.type_list_append mt_append (pv 2) (pa_cons (pe_callTy call_tupB (by rfl) TA.tuple (by decide +kernel) (pa_cons (pv 1) pa_nil)) pa_nil))) (pss_one ps_retN)) pss_nil)
        (pss_cons ps_never (pss_one ps_never)), ?_⟩
      refine ⟨_, rfl, mm, _, rfl, .inl (SqL.of hm), rfl, oms_flat m, _, rfl, ?_⟩
      refine iteT' (by rw [in_none, hno]; rfl) ?_
      refine ⟨_, rfl, .inl ⟨rfl, _, SqL.of hF⟩, _, rfl, mm, _, rfl, .inl ⟨SqL.of hm, fun q H1 s1 B1 => ?_⟩⟩
      have hF1 := s1 _ _ hF
      refine ⟨ff, _, _, rfl, rfl, hF1, Evl.sz_lt (by omega), ?_⟩
      have kf : Kept ff H1 (L2.upd H1 ff (.lst (fs ++ [.ref q]))) := Kept.upd
      refine k _ [.ref q] (fun b o nb e => kf _ _ nb (s1 _ _ e)) upd_same ?_
      rw [fill_no hno]
      rw [no_none hno] at B1
      exact .cons ⟨q, rfl, SqB.keptL hF1 kf B1⟩ .nil
  | succ d ih =>
    have GF : Cal P w K mg base "fill_mates" (d + 1) ["partners", "mates", "found"] (spFill K d) := ⟨f, fd, ih, hmg, F.kp, hb⟩
    refine F.ok scFill (fun vs H Q E h => ?_) (fun cdv A outer s H vs Q E hr h => ?_)
    · obtain ⟨a, mm, ff, ps, m, fs, rfl, _⟩ := h
      rfl
    · obtain ⟨a, mm, ff, ps, m, fs, rfl, hP, pok, nm, hm, lm, hc, hF, sz, k⟩ := h
      refine ⟨_, pss_cons (ps_if (pt_cmpR op_notIn_seq pe_non (pv 1) (by rfl)) (pss_cons (ps_expr (pe_bm PySem.F.plainAttrs_list PySem.F.slot_list_append PySem.F.type_list_append mt_append (pv 2) (pa_cons (pe_callTy call_tupB (by rfl) TA.tuple (by decide +kernel) (pa_cons (pv 1) pa_nil)) pa_nil))) (pss_one ps_retN)) pss_nil)
        (pss_cons (ps_set (i := 3) scFill.nd rfl (Or.inl rfl) (pe_bm PySem.F.plainAttrs_list PySem.F.slot_list_index PySem.F.type_list_index mt_index (pv 1) (pa_cons pe_non pa_nil)))
        (pss_one (ps_for PassesOwn.never rfl (pi_list (pe_ix ix_list (pv 0) (pv 3) (fun _ _ => rfl))) (pg_name (i := 4) scFill.nd rfl (Or.inl rfl))
          (pss_one (ps_if (pt_cmpR op_isN (pe_ix ix_list (pv 1) (pv 4) (fun _ _ => rfl)) pe_non (nomark _))
            (pss_cons (ps_set (i := 5) scFill.nd rfl (Or.inl rfl) (pe_callTy call_list_of (by rfl) hlist (by decide +kernel) (pa_cons (pv 1) pa_nil)))
            (pss_cons (ps_asg (pe_tup (pa_cons (pv 4) (pa_cons (pv 3) pa_nil))) (pg_tup (n := 2) rfl (pgs_cons (pg_sub (pv 5) (pv 3) set_list) (pgs_cons (pg_sub (pv 5) (pv 4) set_list) pgs_nil))))
            (pss_one (ps_expr (pe_cal GF hr (Nat.le_refl _) (by rfl) (pa_cons (pv 0) (pa_cons (pv 5) (pa_cons (pv 2) pa_nil)))))))) pss_nil))))), ?_⟩
      refine ⟨_, rfl, mm, _, rfl, .inl (SqL.of hm), rfl, oms_flat m, _, rfl, ?_⟩
      by_cases hno : m.any Option.isNone = false
      · refine iteT' (by rw [in_none, hno]; rfl) ?_
        refine ⟨_, rfl, .inl ⟨rfl, _, SqL.of hF⟩, _, rfl, mm, _, rfl, .inl ⟨SqL.of hm, fun q H1 s1 B1 => ?_⟩⟩
        have hF1 := s1 _ _ hF
        refine ⟨ff, _, _, rfl, rfl, hF1, Evl.sz_lt (by omega), ?_⟩
        have kf : Kept ff H1 (L2.upd H1 ff (.lst (fs ++ [.ref q]))) := Kept.upd
        refine k _ [.ref q] (fun b o nb e => kf _ _ nb (s1 _ _ e)) upd_same ?_
        rw [fill_no hno]
        rw [no_none hno] at B1
        exact .cons ⟨q, rfl, SqB.keptL hF1 kf B1⟩ .nil
      · have hyes : m.any Option.isNone = true := by
          cases z : m.any Option.isNone with
          | true => rfl
          | false => exact absurd z hno
        refine iteF' (by rw [in_none, hyes]; rfl) ?_
        have hl := fN_lt hyes
        refine ⟨_, rfl, .inl ⟨rfl, _, SqL.of hm⟩, mm, _, .non, fN m, .non, rfl, rfl, SqL.of hm, rfl, oms_flat m, (by rw [List.getElem?_map, fN_at hyes]; rfl), rfl, ?_, ?_⟩
        · intro j z' hj hz
          rw [List.getElem?_map] at hz
          cases e : m[j]? with
          | none => rw [e] at hz; cases hz
          | some o =>
            rw [e] at hz
            obtain rfl : om o = z' := Option.some.inj hz
            rw [om_eq]
            exact fN_not hj e
        refine at_set ?_
        try dsimp only
        obtain ⟨na, vs, hA, hR⟩ := id hP
        have lvs := hR.length
        have hpl : fN m < ps.length := by omega
        have hvl : fN m < vs.length := by omega
        obtain ⟨row, hrow, q0, eq0, nq0, hq0⟩ := hR.at (List.getElem?_eq_getElem hvl)
        have erow : ps.getD (fN m) [] = row := by rw [List.getD_eq_getElem?_getD, hrow]; rfl
        have mrow : row ∈ ps := List.mem_of_getElem? hrow
        refine ⟨_, rfl, _, rfl, a, _, _, _, rfl, rfl, SqL.of hA, atI_nat (by rw [List.getElem?_eq_getElem hvl, eq0]), ?_⟩
        refine ⟨q0, rfl, ⟨_, SqL.of hq0⟩, ?_⟩
        have efl : fillF ps (d + 1 + 1) m = (row.map (fillG ps (d + 1) m)).flatten := by rw [fill_yes hyes, erow]
        rw [efl] at sz k
        have part : ∀ i, i ≤ row.length → ((row.take i).map (fillG ps (d + 1) m)).flatten.length ≤ (row.map (fillG ps (d + 1) m)).flatten.length := by
          intro i hi
          conv => rhs; rw [← List.take_append_drop i row, List.map_append, List.flatten_append, List.length_append]
          omega
        refine for_it (walk_list (K := K) (a := q0) (xs := iv (nats row))) (fun i σ H' => ∃ (v4 v5 : Option V) (new : List V), σ = [some (.ref a), some (.ref mm), some (.ref ff), some (.int ((fN m : Nat) : Int)), v4, v5] ∧ Kept ff H H' ∧ H' ff = some (.lst (fs ++ new)) ∧ RowsB K H' new (((row.take i).map (fillG ps (d + 1) m)).flatten))
          ⟨none, none, [], rfl, Kept.refl, by rw [List.append_nil]; exact hF, .nil⟩ (fun i σ H' _ ⟨_, _, _, _, kp, _⟩ => SqL.of (kp _ _ nq0 hq0)) ?_ ?_
        · rintro i x σ H2 H3 hi ⟨v4, v5, new, rfl, kp, hF2, hB2⟩ ⟨rfl, hx⟩
          rw [nats_len] at hi
          obtain rfl : x = V.int ((row[i] : Nat) : Int) := by
            unfold nats at hx
            rw [List.getElem?_map, List.getElem?_map, List.getElem?_eq_getElem hi] at hx
            exact (Option.some.inj hx).symm
          obtain ⟨q, eq⟩ : ∃ q, q = row[i] := ⟨_, rfl⟩
          rw [← eq]
          have hql : q < ps.length := pok.rng row mrow q (eq ▸ List.getElem_mem hi)
          have etk : ((row.take (i + 1)).map (fillG ps (d + 1) m)).flatten = ((row.take i).map (fillG ps (d + 1) m)).flatten ++ fillG ps (d + 1) m q := by
            rw [List.take_succ_eq_append_getElem hi, List.map_append, List.flatten_append, eq]
            simp
          have hm3 := kp _ _ nm hm
          have szi := part (i + 1) (by omega)
          rw [etk, List.length_append] at szi
          have lnew : new.length = ((row.take i).map (fillG ps (d + 1) m)).flatten.length := hB2.length
          refine ⟨_, rfl, _, rfl, mm, _, _, _, rfl, rfl, SqL.of hm3, om_at (by omega), rfl, _, rfl, ?_⟩
          by_cases hn : (m.getD q (some 0)).isNone = true
          · have egn : m.getD q (some 0) = none := by
              cases z : m.getD q (some 0) with
              | none => rfl
              | some y => rw [z] at hn; cases hn
            refine iteT' (by rw [egn]; rfl) ?_
            have eG : fillG ps (d + 1) m q = fillF ps (d + 1) ((m.set (fN m) (some q)).set q (some (fN m))) := by
              unfold fillG
              rw [if_pos hn]
            rw [eG] at etk szi
            refine ⟨_, rfl, mm, _, rfl, .inl (SqL.of hm3), fun mo hmo => ?_⟩
            obtain ⟨H4, e4⟩ : ∃ H4, H4 = L2.upd H3 mo (.lst (m.map om)) := ⟨_, rfl⟩
            rw [← e4]
            have hmo4 : H4 mo = some (.lst (m.map om)) := by rw [e4, upd_same]
            have s34 : Same H3 H4 := by rw [e4]; exact same_upd hmo
            have nmo : mo ≠ ff := (ne_of_none hF2 hmo).symm
            refine ⟨_, rfl, _, rfl, by show 2 ≤ sizeLine; decide, fun t ht => ?_⟩
            have s45 := same_upd (o := .tup [.int (q : Int), .int ((fN m : Nat) : Int)]) ht
            refine ⟨t, _, rfl, SqT.of upd_same, rfl, _, _, rfl, _, rfl, _, rfl, mo, _, _, fN m, rfl, rfl, s45 _ _ hmo4, by rw [List.length_map]; exact ixN_nat (by omega), ?_⟩
            rw [om_set]
            refine ⟨_, _, rfl, _, rfl, _, rfl, mo, _, _, q, rfl, rfl, upd_same, by rw [List.length_map, List.length_set]; exact ixN_nat (by omega), rfl, ?_⟩
            rw [om_set]
            have s36 := same_put (o := .lst (((m.set (fN m) (some q)).set q (some (fN m))).map om)) (same_put (o := .lst ((m.set (fN m) (some q)).map om)) (s34.trans s45) hmo) hmo
            have hmo6 : L2.upd (L2.upd (L2.upd H4 t (.tup [.int (q : Int), .int ((fN m : Nat) : Int)])) mo (.lst ((m.set (fN m) (some q)).map om))) mo (.lst (((m.set (fN m) (some q)).set q (some (fN m))).map om)) mo = some (.lst (((m.set (fN m) (some q)).set q (some (fN m))).map om)) := upd_same
            obtain ⟨H6, e6⟩ : ∃ H6, H6 = L2.upd (L2.upd (L2.upd H4 t (.tup [.int (q : Int), .int ((fN m : Nat) : Int)])) mo (.lst ((m.set (fN m) (some q)).map om))) mo (.lst (((m.set (fN m) (some q)).set q (some (fN m))).map om)) := ⟨_, rfl⟩
            rw [← e6] at s36 hmo6 ⊢
            have k6 : Kept ff H H6 := fun b o nb e => s36 _ _ (kp _ _ nb e)
            have hF6 := s36 _ _ hF2
            have hc6 : cN ((m.set (fN m) (some q)).set q (some (fN m))) ≤ d := by
              have c1 := cN_set (m := m.set (fN m) (some q)) (i := q) (x := fN m)
              have c2 := cN_none (x := q) (fN_at hyes)
              omega
            refine ⟨_, rfl, _, rfl, _, rfl, a, mo, ff, ps, (m.set (fN m) (some q)).set q (some (fN m)), fs ++ new, rfl, hP.kept k6, pok, nmo, hmo6, by rw [List.length_set, List.length_set]; exact lm, hc6, hF6, by rw [List.length_append]; omega, fun H7 new2 k7 hF7 hB7 => ?_⟩
            refine ⟨_, _, new ++ new2, rfl, k6.trans k7, by rw [hF7, List.append_assoc], ?_⟩
            rw [etk]
            exact All2.app (RowsB.keptL hF6 k7 (hB2.imp fun _ _ ⟨q, e, r⟩ => ⟨q, e, SqB.same s36 r⟩)) hB7
          · have hn' : (m.getD q (some 0)).isNone = false := by
              cases z : (m.getD q (some 0)).isNone with
              | false => rfl
              | true => exact absurd z hn
            have eG : fillG ps (d + 1) m q = [] := by
              unfold fillG
              rw [if_neg hn]
            refine iteF' ?_ ?_
            · cases z : m.getD q (some 0) with
              | none => rw [z] at hn; exact absurd rfl hn
              | some y => rfl
            refine ⟨_, _, new, rfl, kp, hF2, ?_⟩
            rw [etk, eG, List.append_nil]
            exact hB2
        · rintro σ H2 ⟨v4, v5, new, rfl, kp, hF2, hB2⟩
          rw [nats_len, List.take_length] at hB2
          exact k _ new kp hF2 hB2
end
end W13
set_option Elab.async false
set_option linter.all false
set_option maxRecDepth 100000
set_option maxHeartbeats 1000000
namespace W13
open PySem L2 PySem.Spec PyProof.Rows WR WB WE
def prtF (ls : List Int) : List (List Nat) := ls.map fun l => (List.range ls.length).filter fun j => decide (ls.getD j 0 = -l)
def matesF (ps : List (List Nat)) : List (List Nat) := fillF ps 25 (List.replicate ps.length none)
/-- so far each mate is the mate of its own, with the contrary letter -/
def MtOk (ls : List Int) (m : List (Option Nat)) : Prop := m.length = ls.length ∧ ∀ i x, m[i]? = some (some x) → x < ls.length ∧ x ≠ i ∧ m[x]? = some (some i) ∧ ls.getD x 0 = -ls.getD i 0
theorem prt_at {ls : List Int} {p q : Nat} (hp : p < ls.length) (h : q ∈ (prtF ls).getD p []) : q < ls.length ∧ ls.getD q 0 = -ls.getD p 0 := by
  unfold prtF at h
  rw [List.getD_eq_getElem?_getD, List.getElem?_map, List.getElem?_eq_getElem hp] at h
  have h : q ∈ (List.range ls.length).filter fun j => decide (ls.getD j 0 = -ls[p]) := h
  rw [List.mem_filter, List.mem_range, decide_eq_true_eq] at h
  refine ⟨h.1, ?_⟩
  rw [h.2]
  congr 1
  rw [List.getD_eq_getElem?_getD, List.getElem?_eq_getElem hp]
  rfl
theorem getD_ne {ls : List Int} (h : Lts ls) {i : Nat} (hi : i < ls.length) : ls.getD i 0 ≠ 0 := by
  rw [List.getD_eq_getElem?_getD, List.getElem?_eq_getElem hi]
  have := (h _ (List.getElem_mem hi)).1
  show ls[i] ≠ 0
  omega
theorem set2_at {m : List (Option Nat)} {p q : Nat} (hp : p < m.length) (hq : q < m.length) (n : q ≠ p) (i : Nat) : ((m.set p (some q)).set q (some p))[i]? = if i = q then some (some p) else if i = p then some (some q) else m[i]? := by
  rw [List.getElem?_set, List.length_set, List.getElem?_set]
  by_cases e : q = i
  · subst e
    rw [if_pos rfl, if_pos hq, if_pos rfl]
  · have e1 : ¬ i = q := fun z => e z.symm
    rw [if_neg e, if_neg e1]
    by_cases e2 : p = i
    · subst e2
      rw [if_pos rfl, if_pos hp, if_pos rfl]
    · have e3 : ¬ i = p := fun z => e2 z.symm
      rw [if_neg e2, if_neg e3]
theorem MtOk.step {ls : List Int} {m : List (Option Nat)} (hl : Lts ls) (h : MtOk ls m) {p q : Nat} (hp : m[p]? = some none) (hq : m[q]? = some none) (hc : ls.getD q 0 = -ls.getD p 0) : MtOk ls ((m.set p (some q)).set q (some p)) := by
  have lp := (List.getElem?_eq_some_iff.mp hp).1
  have lq := (List.getElem?_eq_some_iff.mp hq).1
  have nqp : q ≠ p := fun z => by
    have := getD_ne hl (i := p) (by rw [← h.1]; exact lp)
    rw [z] at hc
    omega
  refine ⟨by rw [List.length_set, List.length_set]; exact h.1, fun i x hx => ?_⟩
  rw [set2_at lp lq nqp] at hx
  by_cases e1 : i = q
  · rw [if_pos e1] at hx
    obtain rfl : p = x := by injection hx with z; injection z
    refine ⟨by rw [← h.1]; exact lp, fun z => nqp (by rw [← e1, ← z]), ?_, by rw [e1, hc]; omega⟩
    rw [set2_at lp lq nqp, if_neg (fun z => nqp z.symm), if_pos rfl, e1]
  · rw [if_neg e1] at hx
    by_cases e2 : i = p
    · rw [if_pos e2] at hx
      obtain rfl : q = x := by injection hx with z; injection z
      refine ⟨by rw [← h.1]; exact lq, fun z => nqp (z.trans e2), ?_, by rw [e2, hc]⟩
      rw [set2_at lp lq nqp, if_pos rfl, e2]
    · rw [if_neg e2] at hx
      obtain ⟨a, b, c, d⟩ := h.2 i x hx
      refine ⟨a, b, ?_, d⟩
      have n1 : x ≠ q := fun z => by rw [z, hq] at c; cases c
      have n2 : x ≠ p := fun z => by rw [z, hp] at c; cases c
      rw [set2_at lp lq nqp, if_neg n1, if_neg n2]
      exact c
theorem MtOk.done {ls : List Int} {m : List (Option Nat)} (h : MtOk ls m) (no : m.any Option.isNone = false) : MatOk ls (nats (m.map (·.getD 0))) := by
  have get : ∀ i (hi : i < m.length), ∃ x, m[i]? = some (some x) ∧ (nats (m.map (·.getD 0)))[i]? = some ((x : Nat) : Int) := by
    intro i hi
    rw [List.any_eq_false] at no
    cases z : m[i] with
    | none => exact absurd (by rw [z]; rfl) (no _ (List.getElem_mem hi))
    | some x =>
      refine ⟨x, by rw [List.getElem?_eq_getElem hi, z], ?_⟩
      unfold nats
      rw [List.getElem?_map, List.getElem?_map, List.getElem?_eq_getElem hi, z]
      rfl
  have len : (nats (m.map (·.getD 0))).length = m.length := by
    unfold nats
    rw [List.length_map, List.length_map]
  have at_ : ∀ i (hi : i < (nats (m.map (·.getD 0))).length), ∃ x, m[i]? = some (some x) ∧ (nats (m.map (·.getD 0)))[i] = ((x : Nat) : Int) := by
    intro i hi
    obtain ⟨x, e1, e2⟩ := get i (by rw [← len]; exact hi)
    rw [List.getElem?_eq_getElem hi] at e2
    exact ⟨x, e1, Option.some.inj e2⟩
  refine ⟨⟨⟨by rw [len, h.1], fun z hz => ?_⟩, fun i hi => ?_⟩, fun i hi => ?_⟩
  · obtain ⟨i, hi, rfl⟩ := List.getElem_of_mem hz
    obtain ⟨x, e1, e2⟩ := at_ i hi
    have := (h.2 i x e1).1
    omega
  · obtain ⟨x, e1, e2⟩ := at_ i hi
    obtain ⟨a, b, c, d⟩ := h.2 i x e1
    rw [e2, Int.toNat_natCast]
    refine ⟨by omega, ?_⟩
    obtain ⟨y, f1, f2⟩ := get x (by rw [h.1]; exact a)
    rw [c] at f1
    injection f1 with f1
    injection f1 with f1
    rw [f2, ← f1]
  · obtain ⟨x, e1, e2⟩ := at_ i hi
    rw [e2, Int.toNat_natCast]
    exact (h.2 i x e1).2.2.2
theorem getD_none {m : List (Option Nat)} {q : Nat} (h : (m.getD q (some 0)).isNone = true) : m[q]? = some none := by
  rw [List.getD_eq_getElem?_getD] at h
  cases e : m[q]? with
  | none => rw [e] at h; cases h
  | some o =>
    rw [e] at h
    cases o with
    | none => rfl
    | some x => cases h
theorem fill_ok {ls : List Int} (hl : Lts ls) : ∀ (d : Nat) (m : List (Option Nat)), MtOk ls m → ∀ r ∈ fillF (prtF ls) d m, MatOk ls (nats r)
  | 0, m, _, r, hr => nomatch hr
  | d + 1, m, h, r, hr => by
    by_cases no : m.any Option.isNone = true
    · rw [fill_yes no, List.mem_flatten] at hr
      obtain ⟨l, hl1, hr⟩ := hr
      obtain ⟨q, hq, rfl⟩ := List.mem_map.mp hl1
      unfold fillG at hr
      split at hr
      · rename_i hn
        have lp := fN_lt no
        obtain ⟨a, b⟩ := prt_at (by rw [← h.1]; exact lp) hq
        exact fill_ok hl d _ (h.step hl (fN_at no) (getD_none hn) b) r hr
      · cases hr
    · have no' : m.any Option.isNone = false := by
        cases z : m.any Option.isNone with
        | false => rfl
        | true => exact absurd z no
      rw [fill_no no', List.mem_singleton] at hr
      rw [hr]
      exact h.done no'
theorem prt_len (ls : List Int) : (prtF ls).length = ls.length := by
  unfold prtF
  rw [List.length_map]
theorem mates_ok {ls : List Int} (hl : Lts ls) {r : List Nat} (h : r ∈ matesF (prtF ls)) : MatOk ls (nats r) := by
  refine fill_ok hl 25 _ ⟨by rw [List.length_replicate, prt_len], fun i x hx => ?_⟩ r h
  rw [List.getElem?_replicate] at hx
  split at hx
  · injection hx with z; cases z
  · cases hx
theorem prt_ok {ls : List Int} (h : ls.length ≤ 24) : PartOk (prtF ls) := by
  refine ⟨by rw [prt_len]; omega, fun r hr => ?_, fun r hr q hq => ?_⟩
  · unfold prtF at hr
    obtain ⟨l, _, rfl⟩ := List.mem_map.mp hr
    have := List.length_filter_le (fun j => decide (ls.getD j 0 = -l)) (List.range ls.length)
    rw [List.length_range] at this
    omega
  · unfold prtF at hr
    obtain ⟨l, _, rfl⟩ := List.mem_map.mp hr
    rw [List.mem_filter, List.mem_range] at hq
    rw [prt_len]
    exact hq.1
abbrev sAllM : Stmt := top 28
def spAllM (K : PySem.W.Frag) : Sp := fun vs H Q _ => ∃ (a : Addr) (us : List V) (ps : List (List Nat)), vs = [.ref a] ∧ H a = some (.lst us) ∧ All2 (fun v r => ∃ q, v = V.ref q ∧ H q = some (.lst (iv (nats r)))) us ps ∧ PartOk ps ∧ ps.length ≤ 24 ∧ (matesF ps).length ≤ 10000 ∧
  ∀ p H' new, H p = none → Same H H' → H' p = some (.lst new) → RowsB K H' new (matesF ps) → Q (.ref p) H'
abbrev nAllM : List Str := ["partners", "found"]
section
variable {P : Program} {w : World} {K : PySem.W.Frag} {mg : Str → Option Value} {base : Heap} {C CR CS : Addr}
theorem scAllM : FnScope nAllM ["partners"] (defScope sAllM) := ⟨rfl, rfl, rfl, by decide +kernel, rfl, by decide +kernel, by decide +kernel⟩
theorem ok_allM {f : Addr} {fd : FuncData} (F : Fun K "all_mates" "all_mates" sAllM f fd) (TA : TxA mg) (GF : Cal P w K mg base "fill_mates" 25 ["partners", "mates", "found"] (spFill K 24)) : FnOk P w K mg base CX0 26 f fd ["partners"] (spAllM K) := by
  refine F.ok scAllM (fun vs H Q E h => ?_) (fun cdv A outer s H vs Q E hr h => ?_)
  · obtain ⟨a, us, ps, rfl, _⟩ := h
    rfl
  · obtain ⟨a, us, ps, rfl, hA, hR, pok, l24, sz, k⟩ := h
    refine ⟨_, pss_cons (ps_set (i := 1) scAllM.nd rfl (Or.inl rfl) (pe_lst pa_nil))
      (pss_cons (ps_expr (pe_cal GF hr (by decide) (by rfl) (pa_cons (pv 0) (pa_cons (pe_op op_rep (pe_lst (pa_cons pe_non pa_nil)) (pe_callB call_len_seq (by rfl) TA.len PySem.boot_len (pa_cons (pv 0) pa_nil))) (pa_cons (pv 1) pa_nil)))))
      (pss_one (ps_ret (pv 1)))), ?_⟩
    have lup := hR.length
    refine ⟨Nat.zero_le _, fun ff hff => ?_⟩
    have s1 := same_upd (o := .lst []) hff
    obtain ⟨H1, e1⟩ : ∃ H1, H1 = L2.upd H ff (.lst []) := ⟨_, rfl⟩
    have hF1 : H1 ff = some (.lst []) := by rw [e1, upd_same]
    rw [← e1] at s1 ⊢
    refine ⟨_, rfl, by show 1 ≤ sizeLine; decide, fun l1 h1 => ?_⟩
    have s2 := same_upd (o := .lst [.non]) h1
    obtain ⟨H2, e2⟩ : ∃ H2, H2 = L2.upd H1 l1 (.lst [.non]) := ⟨_, rfl⟩
    have hL2 : H2 l1 = some (.lst [.non]) := by rw [e2, upd_same]
    rw [← e2] at s2 ⊢
    have s02 := s1.trans s2
    refine ⟨_, rfl, a, us, rfl, .inl (SqL.of (s02 _ _ hA)), l1, _, _, rfl, rfl, hL2, by omega, by omega, ?_, fun l2 h2 => ?_⟩
    · show 1 * ((us.length : Nat) : Int).toNat ≤ sizeLine
      rw [Int.toNat_natCast]
      exact Nat.le_trans (by omega) (show 24 ≤ sizeLine by decide)
    have e3 : (List.replicate ((us.length : Nat) : Int).toNat [V.non]).flatten = (List.replicate ps.length (none : Option Nat)).map om := by
      rw [Int.toNat_natCast, lup, List.map_replicate]
      have g : ∀ n : Nat, (List.replicate n [V.non]).flatten = List.replicate n V.non := by
        intro n
        induction n with
        | zero => rfl
        | succ n ih => rw [List.replicate_succ, List.flatten_cons, ih]; rfl
      exact g _
    rw [e3]
    have s3 := same_upd (o := .lst ((List.replicate ps.length (none : Option Nat)).map om)) h2
    obtain ⟨H3, e3⟩ : ∃ H3, H3 = L2.upd H2 l2 (.lst ((List.replicate ps.length (none : Option Nat)).map om)) := ⟨_, rfl⟩
    have hL3 : H3 l2 = some (.lst ((List.replicate ps.length (none : Option Nat)).map om)) := by rw [e3, upd_same]
    rw [← e3] at s3 ⊢
    have s03 := s02.trans s3
    have hF3 := s3 _ _ (s2 _ _ hF1)
    refine ⟨_, rfl, a, l2, ff, ps, List.replicate ps.length none, [], rfl, ⟨ne_of_none hA hff, us, s03 _ _ hA, hR.imp fun _ _ ⟨q, e, r⟩ => ⟨q, e, ne_of_none r hff, s03 _ _ r⟩⟩, pok, (ne_of_none (s2 _ _ hF1) h2).symm, hL3, List.length_replicate, ?_, hF3, by show 0 + (matesF ps).length ≤ 10000; omega, fun H4 new k4 hF4 hB4 => ?_⟩
    · unfold cN
      exact Nat.le_trans List.countP_le_length (by rw [List.length_replicate]; exact l24)
    refine ⟨_, rfl, k ff H4 new hff (fun b o e => k4 _ _ (ne_of_none e hff) (s03 _ _ e)) hF4 hB4⟩
end
end W13
set_option Elab.async false
set_option linter.all false
set_option maxRecDepth 100000
set_option maxHeartbeats 1000000
namespace W13
open PySem L2 PySem.Spec PyProof.Rows WR WB WE
abbrev sAllS : Stmt := top 59
structure MkS (P : Program) (w : World) (K : PySem.W.Frag) (mg : Str → Option Value) (base : Heap) (C CR CS : Addr) : Prop where
  ex : ∃ (f : Addr) (fd : FuncData), Mk K CS f ∧ FnOk P w K mg base CX0 5 f fd ["self", "rims", "mates"] (spInitS K C CR CS) ∧ Binds K fd ["self", "rims", "mates"] []
section
variable {X : Cx} {C CR CS : Addr} {p pos : Pos} {e : Expr} {es : List Expr} {t : TA} {j : Nat} {K : PySem.W.Frag}
theorem pe_sewK (hK : X.K = K) (M : MkS X.prog X.w K X.mg X.base C CR CS) (T : TxSC K X.mg CS) (hr : Room j X.A) (hkj : 6 ≤ j) (hg : Gl X "Sewing") (ha : PA X (e :: es) t)
    (he : starEach (e :: es) X.env = (false, eval e X.env) :: starEach es X.env := by rfl) (hpl : (backTo pos (starEach es X.env)).any (·.1) = false := by rfl) :
    PE X (.Call (.Name "Sewing" p) (e :: es) [] pos) (tMake CS (spInitS K C CR CS) [] E0 t) := by
  subst hK
  obtain ⟨f, fd, M, F, hb⟩ := M.ex
  exact pe_make M F (hr.mono hkj) hg T.mgS hb .nil pass0 ha (by decide) he hpl
end
theorem sew_at {K : PySem.W.Frag} {C CR CS : Addr} {H1 : Hp} {rp m x dx : Addr} {xs : List Addr} {ws : List (List Int)} {mt : List Int} {G : Hp → Prop} {E : XK} (nx : H1 x = none) (ndx : H1 dx = none) (R1 : RimsAt K C CR H1 rp xs ws) (ok : RimOk ws) (hm : SqW K H1 m (iv mt)) (mk : MatOk ws.flatten mt)
    (k : ∀ H', Same H1 H' → SewAt K C CR CS H' x rp xs ws mt → G H') : spInitS K C CR CS [.ref x, .ref rp, .ref m] (L2.upd (L2.upd H1 dx (.own x)) x (.ins CS dx [])) (fun v H2 => v = .non ∧ G H2) E := by
  have s0 : Same H1 (L2.upd (L2.upd H1 dx (.own x)) x (.ins CS dx [])) := fun b o e => by
    rw [upd_ne (ne_of_none e nx), upd_ne (ne_of_none e ndx)]
    exact e
  exact ⟨H1, x, dx, rp, m, xs, ws, mt, rfl, s0, nx, upd_same, R1, ok, hm, mk, fun H' s' W' => ⟨rfl, k H' s' W'⟩⟩
theorem lcR {n : Nat} {g : TG} {tt : TT} {te : TE} {vs : List Nat} {σ : L2.St} {H1 : Hp} {Q : VK} (f : Nat → Bool) (hz : n < 40000)
    (hs : ∀ i, i < n → ∀ H, Same H1 H → ∀ (Qy : V → Hp → Prop) (Qn : Hp → Prop), (f i = true → ∀ H', Same H H' → Qy (.int ((i : Nat) : Int)) H') → (f i = false → ∀ H', Same H H' → Qn H') →
      g (.int ((i : Nat) : Int)) (wipe σ vs) H fun σ2 H2 => wipe σ2 vs = wipe σ vs ∧ tt σ2 H2 fun b H3 => if b = true then te σ2 H3 Qy else Qn H3)
    (hd : ∀ (D : Addr) H', H1 D = none → Same H1 H' → H' D = some (.lst (iv (nats ((List.range n).filter f)))) → Q (.ref D) H') : tLc (fun _ H R => R (Itr 0 n) H) g tt te vs σ H1 Q := by
  intro D hD
  refine lc_it (walk_range (lo := 0) (n := n)) (fun i H => Same H1 H ∧ H D = some (.lst (iv (nats ((List.range i).filter f))))) ⟨fun b o e => by rw [upd_ne (ne_of_none e hD)]; exact e, upd_same⟩ (fun i H _ q => trivial) ?_ ?_
  · rintro i x H H' hi q ⟨rfl, ex⟩
    obtain rfl : x = V.int ((i : Nat) : Int) := by
      rw [ex]
      show V.int (0 + ((i : Nat) : Int)) = _
      rw [Int.zero_add]
    refine hs i hi H' q.1 _ _ (fun hf H2 s2 => ⟨_, s2 _ _ q.2, ?_, ?_, ?_⟩) (fun hf H2 s2 => ⟨fun b o e => s2 b o (q.1 b o e), ?_⟩)
    · refine Evl.sz_lt ?_
      rw [nats_len]
      have := List.length_filter_le f (List.range i)
      rw [List.length_range] at this
      omega
    · intro b o e
      rw [upd_ne (ne_of_none e hD)]
      exact s2 b o (q.1 b o e)
    · rw [upd_same, List.range_succ, List.filter_append, List.filter_cons, if_pos hf]
      unfold nats iv
      rw [List.map_append, List.map_append]
      rfl
    · rw [List.range_succ, List.filter_append, List.filter_cons, if_neg (by rw [hf]; decide)]
      show H2 D = some (.lst (iv (nats ((List.range i).filter f ++ []))))
      rw [List.append_nil]
      exact s2 _ _ q.2
  · intro H q
    exact hd D H hD q.1 q.2
theorem ret_cb_lcA {r : List V → Hp → VK → Prop} {wi : TI} {g : TG} {tt : TT} {te : TE} {vs : List Nat} {D : Ends} {σ : L2.St} {H : Hp}
    (h : wi σ H fun J H1 => tLc (fun _ H R => R J H) g tt te vs σ H1 fun y H2 => r [y] H2 D.rt) : tRet (tCB r (tCons (tLc wi g tt te vs) tNil)) D σ H := h
/-- the scope of the comprehension in a statement x = [..] -/
def lcScope : Stmt → Scope
  | .Assign _ (.ListComp _ _ sc _) _ => sc
  | _ => defScope sAllS
abbrev outS : Scope := relS (lcScope ((defBody sAllS).getD 2 (.Pass ⟨0, 0, 0, 0⟩))) (defScope sAllS)
/-- sewings of rims -/
def SewsAt (K : PySem.W.Frag) (C CR CS : Addr) (H : Hp) (q rp : Addr) (xs : List Addr) (ws : List (List Int)) (rs : List (List Nat)) : Prop :=
  ∃ vs, SqB K H q vs ∧ All2 (fun v r => ∃ p, v = V.ref p ∧ SewAt K C CR CS H p rp xs ws (nats r)) vs rs
def sewF (ws : List (List Int)) : List (List Nat) := matesF (prtF ws.flatten)
def spAllS (K : PySem.W.Frag) (C CR CS : Addr) : Sp := fun vs H Q _ => ∃ (p : Addr) (xs : List Addr) (ws : List (List Int)), vs = [.ref p] ∧ RimsAt K C CR H p xs ws ∧ RimOk ws ∧ manyF ws.flatten ≤ 720 ∧ (sewF ws).length ≤ 1000 ∧
  ∀ q H', Same H H' → SewsAt K C CR CS H' q p xs ws (sewF ws) → Q (.ref q) H'
abbrev nAllS : List Str := ["rims", "letters", "partners", "letter", "mate", "mates"]
theorem SewAt.put {K : PySem.W.Frag} {C CR CS : Addr} {H : Hp} {D p rp : Addr} {xs : List Addr} {ws : List (List Int)} {mt : List Int} {us : List V} {o : HO} (h : SewAt K C CR CS H p rp xs ws mt) (hD : H D = some (.lst us)) : SewAt K C CR CS (L2.upd H D o) p rp xs ws mt := by
  have kB : ∀ {a ys}, SqB K H a ys → SqB K (L2.upd H D o) a ys := fun h => SqB.keptL hD Kept.upd h
  have kI : ∀ {a C dx fs}, H a = some (.ins C dx fs) → L2.upd H D o a = some (.ins C dx fs) := fun {a C dx fs} e => by
    rw [upd_ne (fun z => by rw [z, hD] at e; cases e)]
    exact e
  have kC : ∀ {a cs}, CornAt K H a cs → CornAt K (L2.upd H D o) a cs := fun ⟨vs, h1, h2⟩ => ⟨vs, kB h1, h2.imp fun _ _ ⟨q, e, r⟩ => ⟨q, e, kB r⟩⟩
  obtain ⟨dx, tm, tc, tp, h1, ⟨d2, tw, tl, th, tn, r1, r2, r3, r4, r5, r6⟩, h3, h4, h5⟩ := h
  refine ⟨dx, tm, tc, tp, kI h1, ⟨d2, tw, tl, th, tn, kI r1, kB r2, r3.imp fun a ns wa => ?_, kB r4, kB r5, kB r6⟩, kB h3, kC h4, kC h5⟩
  obtain ⟨dx, tl, tk, ks, w1, w2, w3, w4⟩ := wa
  exact ⟨dx, tl, tk, ks, kI w1, kB w2, SqT.keptL hD Kept.upd w3, w4⟩
section
variable {P : Program} {w : World} {K : PySem.W.Frag} {mg : Str → Option Value} {base : Heap} {C CR CS : Addr}
theorem scAllS : FnScope nAllS ["rims"] (defScope sAllS) := ⟨rfl, rfl, rfl, by decide +kernel, rfl, by decide +kernel, by decide +kernel⟩
theorem ok_allS {f : Addr} {fd : FuncData} (F : Fun K "all_sewings" "all_sewings" sAllS f fd) (TC : TxRC K mg CR) (TS : TxSC K mg CS) (TA : TxA mg) (R : TxR mg) (hmost : ∃ t, mg "MOST_SEWINGS" = some (.int 720 t)) (M : MkS P w K mg base C CR CS) (GY : Cal P w K mg base "many_sewings" 2 ["rims"] (spMany K C CR)) (GA : Cal P w K mg base "all_mates" 26 ["partners"] (spAllM K)) :
    FnOk P w K mg base CX0 27 f fd ["rims"] (spAllS K C CR CS) := by
  refine F.ok scAllS (fun vs H Q E h => ?_) (fun cdv A outer s H vs Q E hr h => ?_)
  · obtain ⟨p, xs, ws, rfl, _⟩ := h
    rfl
  · obtain ⟨p, xs, ws, rfl, R1, ok, hmany, hsz, k⟩ := h
    obtain ⟨tM, mM⟩ := hmost
    refine ⟨_, pss_cons (ps_if (pt_cmpR op_gt (pe_cal GY hr (by decide) (by rfl) (pa_cons (pv 0) pa_nil)) (pe_glob (v := .int 720) (by rfl) mM ⟨_, rfl⟩) (nomark _)) (pss_one ps_never) pss_nil)
      (pss_cons (ps_set (i := 1) scAllS.nd rfl (Or.inr rfl) (pe_fld (pv 0) rfl))
      (pss_cons (ps_setLc (i := 2) (own := [("letter", 3)]) (g := gName 3) (tt := tYes) rfl scAllS.nd rfl rfl (sw_true rfl rfl rfl (by decide +kernel)) (pi_tup (pv 1))
          (blkOk_by (N := nAllS) (sc := defScope sAllS) (by decide +kernel)) (fun _ _ _ _ _ => pg_name (i := 3) scAllS.nd rfl (Or.inr rfl)) (fun _ _ _ _ _ => pts_nil)
          (fun _ _ _ _ _ => pe_lc (own := [("mate", 4)]) (g := gName 4) rfl scAllS.nd (pi_range1 (by rfl) R.range (pa_cons (pe_fldK (K := K) rfl (pv 0) rfl) pa_nil))
            (blkOk_by (N := nAllS) (sc := outS) (by decide +kernel)) (fun _ _ _ _ _ => pg_name (i := 4) scAllS.nd rfl (Or.inl rfl)) (fun _ _ _ _ _ => pts_one (pt_cmpR op_eq (pe_ix (ixt (K := K) rfl) (pv 1) (pv 4) (fun _ _ => rfl)) (pe_un un_neg (pv 3)) (nomark _)))
            (fun _ _ _ _ _ => pv 4)))
      (pss_one (ps_ret (pe_callTy call_tupB (by rfl) TA.tuple (by decide +kernel) (pa_cons (pe_lc (own := [("mates", 5)]) (g := gName 5) (tt := tYes) rfl scAllS.nd (pi_list (pe_cal GA hr (by decide) (by rfl) (pa_cons (pv 2) pa_nil)))
          (blkOk_by (N := nAllS) (sc := defScope sAllS) (by decide +kernel)) (fun _ _ _ _ _ => pg_name (i := 5) scAllS.nd rfl (Or.inl rfl)) (fun _ _ _ _ _ => pts_nil)
          (fun _ _ _ _ _ => pe_sewK (K := K) rfl M TS hr (by decide) (by rfl) (pa_cons (pv 0) (pa_cons (pv 5) pa_nil)))) pa_nil)))))), ?_⟩
    obtain ⟨l1, l4, hne, l24, hl, hb⟩ := id ok
    obtain ⟨dx, tw, tl, th, tn, h1, h2, h3, h4, h5, h6⟩ := id R1
    have lp := prt_len ws.flatten
    refine ⟨_, rfl, p, xs, ws, rfl, R1, ok, fun H1 s1 => ⟨_, _, rfl, rfl, _, rfl, iteF' (decide_eq_false (by omega)) ?_⟩⟩
    refine ⟨_, rfl, p, CR, dx, _, _, rfl, s1 _ _ h1, TC.cl, TC.n2, rf_letters, ?_⟩
    refine at_set ?_
    try dsimp only
    refine as_lc ?_
    have B1 := SqB.same s1 h4
    refine ⟨_, rfl, tl, rfl, ⟨_, B1.sq⟩, ?_⟩
    refine lcM (walk_tup (K := K) (a := tl) (xs := iv ws.flatten)) (prtF ws.flatten) (fun D H v r => ∃ q, v = V.ref q ∧ q ≠ D ∧ H q = some (.lst (iv (nats r)))) (fun D H H' v b ⟨q, e, nq, h⟩ s => ⟨q, e, nq, s _ _ h⟩)
      (fun D H us o v b hD ⟨q, e, nq, h⟩ => ⟨q, e, nq, by rw [upd_ne nq]; exact h⟩) (by rw [List.length_map]; omega) (by rw [List.length_map, lp]) (fun H s => (SqB.same s B1).sq) ?_ (fun _ _ _ _ _ => gName_mono) ?_
    · intro i x r hx hr2 D H2 hD ⟨us, hDD⟩ s2 Qy ky
      have hi : i < ws.flatten.length := by
        have := (List.getElem?_eq_some_iff.mp hx).1
        rwa [List.length_map] at this
      obtain rfl : x = V.int ws.flatten[i] := by
        rw [List.getElem?_map, List.getElem?_eq_getElem hi] at hx
        exact (Option.some.inj hx).symm
      have er : r = (List.range ws.flatten.length).filter fun j => decide (ws.flatten.getD j 0 = -ws.flatten[i]) := by
        unfold prtF at hr2
        rw [List.getElem?_map, List.getElem?_eq_getElem hi] at hr2
        exact (Option.some.inj hr2).symm
      have s02 := s1.trans s2
      refine ⟨rfl, ?_⟩
      refine lc_in ?_
      refine ⟨_, rfl, p, CR, dx, _, _, rfl, s02 _ _ h1, TC.cl, TC.n3, rf_many, _, rfl, by omega, by omega, ?_⟩
      rw [Int.toNat_natCast]
      refine lcR (fun j => decide (ws.flatten.getD j 0 = -ws.flatten[i])) (by omega) ?_ ?_
      · intro j hj H3 s3 Qz Qn kz kn
        have ej : atI (iv ws.flatten) ((j : Nat) : Int) = some (V.int ws.flatten[j]) := atI_nat (iv_get (List.getElem?_eq_getElem hj))
        have eg : ws.flatten.getD j 0 = ws.flatten[j] := by rw [List.getD_eq_getElem?_getD, List.getElem?_eq_getElem hj]; rfl
        refine ⟨rfl, ?_⟩
        refine ⟨_, rfl, _, rfl, tl, _, _, _, rfl, rfl, (SqB.same (s02.trans s3) h4).sq, ej, _, rfl, _, rfl, rfl, _, rfl, ?_⟩
        by_cases c : ws.flatten.getD j 0 = -ws.flatten[i]
        · have c2 : decide (V.int ws.flatten[j] = V.int (-ws.flatten[i])) = true := decide_eq_true (by rw [← eg, c])
          refine iteT' c2 ⟨_, rfl, kz (decide_eq_true c) H3 (fun _ _ e => e)⟩
        · have c2 : decide (V.int ws.flatten[j] = V.int (-ws.flatten[i])) = false := decide_eq_false fun z => c (by injection z with z; rw [eg, z])
          refine iteF' c2 (kn (decide_eq_false c) H3 (fun _ _ e => e))
      · intro D2 H3 hD2 s3 h3
        refine ky _ H3 s3 ⟨D2, rfl, (ne_of_none hDD hD2).symm, ?_⟩
        rw [er]
        exact h3
    · intro D H2 us hD s2 hDD hus
      refine at_set ?_
      have s02 := s1.trans s2
      try dsimp only
      refine ret_cb_lcA ?_
      refine ⟨_, rfl, D, us, prtF ws.flatten, rfl, hDD, hus.imp fun _ _ ⟨q, e, _, h⟩ => ⟨q, e, h⟩, prt_ok l24, by rw [lp]; exact l24, Nat.le_trans hsz (by decide), fun q3 H3 new hq3 s3 h3 B3 => ?_⟩
      refine ⟨q3, rfl, ⟨_, SqL.of h3⟩, ?_⟩
      have s03 := s02.trans s3
      have R3 := R1.same s03
      have l3 : new.length = (sewF ws).length := B3.length
      refine lcM (walk_list (K := K) (a := q3) (xs := new)) (sewF ws) (fun _ H v r => ∃ z, v = V.ref z ∧ SewAt K C CR CS H z p xs ws (nats r)) (fun _ _ _ _ _ ⟨z, e, h⟩ s => ⟨z, e, h.same s⟩) (fun _ _ _ _ _ _ hD ⟨z, e, h⟩ => ⟨z, e, h.put hD⟩) (by omega) l3 (fun H s => s.seq (SqL.of h3)) ?_ (fun _ _ _ _ _ => gName_mono) ?_
      · intro i x r hx hr2 D4 H4 hD4 _ s4 Qy ky
        obtain ⟨r', hr3, z, rfl, Bz⟩ := All2.at B3 hx
        obtain rfl : r' = r := Option.some.inj (hr3.symm.trans hr2)
        refine ⟨rfl, _, rfl, _, rfl, fun x5 dx5 nx5 ndx5 _ => ?_⟩
        exact sew_at nx5 ndx5 (R3.same s4) ok (.inr (SqB.same s4 Bz)) (mates_ok hl (List.mem_of_getElem? hr2)) fun H5 s5 W5 => ky _ H5 s5 ⟨x5, rfl, W5⟩
      · intro D4 H4 vs4 hD4 s4 hDD4 hW
        refine ⟨D4, vs4, rfl, .inl ⟨SqL.of hDD4, fun q5 H5 s5 B5 => ?_⟩⟩
        exact k q5 H5 ((s03.trans s4).trans s5) ⟨vs4, B5, hW.imp fun _ _ ⟨z, e, h⟩ => ⟨z, e, h.same s5⟩⟩
end
end W13
set_option Elab.async false
set_option linter.all false
set_option maxRecDepth 100000
set_option maxHeartbeats 1000000
namespace W13
open PySem L2 PySem.Spec PyProof.Rows WR WB WE
abbrev sCens : Stmt := top 60
def costsF (ws : List (List Int)) : List Int := (sewF ws).map fun r => costF ws (nats r)
/-- what stands in a list of small numbers, ascending -/
def dsF (cs : List Int) : List Int := ((List.range 64).map fun (i : Nat) => (i : Int) - 32).filter fun c => decide (c ∈ cs)
def censusF (ws : List (List Int)) : List (Int × Int) := (dsF (costsF ws)).map fun c => (c, (((costsF ws).count c : Nat) : Int))
def CensAt (K : PySem.W.Frag) (H : Hp) (q : Addr) (ps : List (Int × Int)) : Prop := ∃ vs, SqB K H q vs ∧ All2 (PrT K H) vs ps
theorem CensAt.same {K : PySem.W.Frag} {H H' : Hp} {q : Addr} {ps : List (Int × Int)} (h : CensAt K H q ps) (s : Same H H') : CensAt K H' q ps := by
  obtain ⟨vs, h1, h2⟩ := h
  exact ⟨vs, SqB.same s h1, h2.imp fun _ _ r => r.same s⟩
theorem crn_len (nx mt : List Int) (n : Nat) : ∀ i, (crn nx mt n i).2.length ≤ i
  | 0 => Nat.le_refl _
  | i + 1 => by
    have ih := crn_len nx mt n i
    show (if (orb nx mt (n + 1) (crn nx mt n i).1 i []).2 = [] then (crn nx mt n i).2 else (crn nx mt n i).2 ++ [(orb nx mt (n + 1) (crn nx mt n i).1 i []).2]).length ≤ i + 1
    split
    · omega
    · rw [List.length_append]
      show (crn nx mt n i).2.length + 1 ≤ i + 1
      omega
theorem cost_rng {ws : List (List Int)} {mt : List Int} (h : ws.flatten.length ≤ 24) : -24 ≤ costF ws mt ∧ costF ws mt ≤ 12 := by
  have c : (cornF ws mt).length ≤ ws.flatten.length := crn_len _ _ _ _
  unfold costF
  omega
theorem ds_is {cs ks : List Int} (r : ∀ c ∈ cs, -24 ≤ c ∧ c ≤ 12) (p : ks.Pairwise (· < ·)) (m : ∀ k, k ∈ ks ↔ k ∈ cs) : ks = dsF cs := by
  refine sorted_ext _ _ p ?_ fun x => ?_
  · refine List.Pairwise.filter _ ?_
    rw [List.pairwise_map]
    exact List.Pairwise.imp (fun {a b} h => by omega) List.pairwise_lt_range
  · rw [m]
    unfold dsF
    rw [List.mem_filter, decide_eq_true_eq, List.mem_map]
    constructor
    · intro h
      obtain ⟨a, b⟩ := r x h
      exact ⟨⟨(x + 32).toNat, List.mem_range.mpr (by omega), by omega⟩, h⟩
    · exact fun h => h.2
theorem few_in {L : List Int} (nd : L.Nodup) (r : ∀ c ∈ L, -24 ≤ c ∧ c ≤ 12) : L.length < 64 := by
  have h := pigeon 63 (L.map (· + 25)) ?_ ?_
  · rw [List.length_map] at h
    omega
  · have : ∀ (L : List Int), L.Nodup → (L.map (· + 25)).Nodup := by
      intro L
      induction L with
      | nil => intro _; exact List.nodup_nil
      | cons a t ih =>
        intro h
        rw [List.nodup_cons] at h
        rw [List.map_cons, List.nodup_cons]
        refine ⟨fun z => ?_, ih h.2⟩
        obtain ⟨b, hb, e⟩ := List.mem_map.mp z
        have : b = a := by omega
        exact h.1 (this ▸ hb)
    exact this L nd
  · intro k hk
    obtain ⟨c, hc, rfl⟩ := List.mem_map.mp hk
    have := r c hc
    omega
def spCens (K : PySem.W.Frag) (C CR : Addr) : Sp := fun vs H Q _ => ∃ (p : Addr) (xs : List Addr) (ws : List (List Int)), vs = [.ref p] ∧ RimsAt K C CR H p xs ws ∧ RimOk ws ∧ manyF ws.flatten ≤ 720 ∧ (sewF ws).length ≤ 1000 ∧
  ∀ q H', Same H H' → CensAt K H' q (censusF ws) → Q (.ref q) H'
abbrev nCens : List Str := ["rims", "costs", "sewing", "cost"]
theorem all_ints {vs : List V} {ns : List Int} (h : All2 (fun v b => v = V.int b) vs ns) : vs = iv ns := by
  induction h with
  | nil => rfl
  | cons e _ ih => rw [e, ih]; rfl
section
variable {P : Program} {w : World} {K : PySem.W.Frag} {mg : Str → Option Value} {base : Heap} {C CR CS : Addr}
theorem scCens : FnScope nCens ["rims"] (defScope sCens) := ⟨rfl, rfl, rfl, by decide +kernel, rfl, by decide +kernel, by decide +kernel⟩
theorem ok_cens {f : Addr} {fd : FuncData} (F : Fun K "census" "census" sCens f fd) (TS : TxSC K mg CS) (TA : TxA mg) (hsorted : mg "sorted" = none) (hset : mg "set" = none) (GA : Cal P w K mg base "all_sewings" 27 ["rims"] (spAllS K C CR CS)) :
    FnOk P w K mg base CX0 28 f fd ["rims"] (spCens K C CR) := by
  refine F.ok scCens (fun vs H Q E h => ?_) (fun cdv A outer s H vs Q E hr h => ?_)
  · obtain ⟨p, xs, ws, rfl, _⟩ := h
    rfl
  · obtain ⟨p, xs, ws, rfl, R1, ok, hmany, hsz, k⟩ := h
    refine ⟨_, pss_cons (ps_set (i := 1) scCens.nd rfl (Or.inr rfl) (pe_lc (own := [("sewing", 2)]) (g := gName 2) (tt := tYes) rfl scCens.nd (pi_tup (pe_cal GA hr (by decide) (by rfl) (pa_cons (pv 0) pa_nil)))
          (blkOk_by (N := nCens) (sc := defScope sCens) (by decide +kernel)) (fun _ _ _ _ _ => pg_name (i := 2) scCens.nd rfl (Or.inl rfl)) (fun _ _ _ _ _ => pts_nil)
          (fun _ _ _ _ _ => pe_fldK (K := K) rfl (pv 2) rfl)))
      (pss_one (ps_ret (pe_callTy call_tupB (by rfl) TA.tuple (by decide +kernel) (pa_cons (pe_lc (own := [("cost", 3)]) (g := gName 3) (tt := tYes) rfl scCens.nd (pi_list (pe_callB (cr_sortedSet rfl) (by rfl) hsorted (by decide +kernel) (pa_cons (pe_callTy (WS.call_setLI rfl) (by rfl) hset (by decide +kernel) (pa_cons (pv 1) pa_nil)) pa_nil)))
          (blkOk_by (N := nCens) (sc := defScope sCens) (by decide +kernel)) (fun _ _ _ _ _ => pg_name (i := 3) scCens.nd rfl (Or.inl rfl)) (fun _ _ _ _ _ => pts_nil)
          (fun _ _ _ _ _ => pe_tup (pa_cons (pv 3) (pa_cons (pe_bmK (K := K) rfl PySem.F.plainAttrs_list PySem.F.slot_list_count PySem.F.type_list_count (mt_lcountK (K := K) rfl) (pv 1) (pa_cons (pv 3) pa_nil)) pa_nil)))) pa_nil)))), ?_⟩
    have l24 := ok.2.2.2.1
    refine as_lc ?_
    refine ⟨_, rfl, p, xs, ws, rfl, R1, ok, hmany, hsz, fun q H1 s1 ⟨vs, B1, A1⟩ => ?_⟩
    refine ⟨q, rfl, ⟨_, B1.sq⟩, ?_⟩
    have lv := A1.length
    have rng : ∀ c ∈ costsF ws, -24 ≤ c ∧ c ≤ 12 := fun c hc => by
      obtain ⟨r, _, rfl⟩ := List.mem_map.mp hc
      exact cost_rng l24
    refine lcM (walk_tup (K := K) (a := q) (xs := vs)) (costsF ws) (fun _ _ v b => v = V.int b) (fun _ _ _ _ _ h _ => h) (fun _ _ _ _ _ _ _ h => h) (by omega) (by unfold costsF; rw [List.length_map]; exact lv) (fun H s => (SqB.same s B1).sq) ?_ (fun _ _ _ _ _ => gName_mono) ?_
    · intro i x b hx hb D H2 hD _ s2 Qy ky
      obtain ⟨r, hr2, z, rfl, Sz⟩ := A1.at hx
      have eb : b = costF ws (nats r) := by
        unfold costsF at hb
        rw [List.getElem?_map, hr2] at hb
        exact (Option.some.inj hb).symm
      obtain ⟨dx, tm, tc, tp, z1, _⟩ := Sz.same s2
      exact ⟨rfl, _, rfl, z, CS, dx, _, _, rfl, z1, TS.cl, TS.n4, sf_cost, ky _ H2 (fun _ _ e => e) (by rw [eb])⟩
    · intro D H2 us hD s2 hDD hus
      rw [all_ints hus] at hDD
      refine at_set ?_
      try dsimp only
      refine ret_cb_lcA ?_
      have lc : (costsF ws).length ≤ 1000 := by unfold costsF; rw [List.length_map]; exact hsz
      refine ⟨_, rfl, D, costsF ws, rfl, SqL.of hDD, lc, fun S L hS nd mem => ?_⟩
      refine ⟨S, _, L.length, rfl, upd_same, few_in nd (fun c hc => rng c ((mem c).mp hc)), fun ks q4 asc mem4 _ hq4 => ?_⟩
      have eks : ks = dsF (costsF ws) := ds_is rng asc fun k => by rw [mem4, decide_eq_true_eq]
      have s24 := (same_upd (o := SetO w S (fun j => decide (j ∈ costsF ws)) L.length) hS).trans (same_upd (o := .lst (iv ks)) hq4)
      have hq5 : L2.upd (L2.upd H2 S (SetO w S (fun j => decide (j ∈ costsF ws)) L.length)) q4 (.lst (iv ks)) q4 = some (.lst (iv ks)) := upd_same
      refine ⟨q4, rfl, ⟨_, SqL.of hq5⟩, ?_⟩
      have hD4 := s24 _ _ hDD
      have lks : ks.length < 64 := few_in (asc.imp fun h => by omega) fun c hc => rng c (by rw [mem4, decide_eq_true_eq] at hc; exact hc)
      refine lcM (walk_list (K := K) (a := q4) (xs := iv ks)) (ks.map fun c => (c, (((costsF ws).count c : Nat) : Int))) (fun _ H v b => PrT K H v b) (fun _ _ _ _ _ h s => h.same s) (fun _ _ _ _ _ _ hD h => h.put hD) (by rw [List.length_map]; omega) (by rw [List.length_map, List.length_map]) (fun H s => s.seq (SqL.of hq5)) ?_ (fun _ _ _ _ _ => gName_mono) ?_
      · intro i x b hx hb D5 H5 hD5 _ s5 Qy ky
        have hi : i < ks.length := by
          have := (List.getElem?_eq_some_iff.mp hx).1
          rwa [List.length_map] at this
        obtain rfl : x = V.int ks[i] := by
          rw [List.getElem?_map, List.getElem?_eq_getElem hi] at hx
          exact (Option.some.inj hx).symm
        have eb : b = (ks[i], (((costsF ws).count ks[i] : Nat) : Int)) := by
          rw [List.getElem?_map, List.getElem?_eq_getElem hi] at hb
          exact (Option.some.inj hb).symm
        refine ⟨rfl, ?_⟩
        refine ⟨_, rfl, _, rfl, .inl ⟨rfl, _, SqL.of (s5 _ _ hD4)⟩, _, rfl, D, costsF ws, _, rfl, rfl, SqL.of (s5 _ _ hD4), by show 2 ≤ sizeLine; decide, fun t ht => ?_⟩
        exact ky _ _ (same_upd ht) ⟨t, rfl, by rw [eb]; exact SqT.of upd_same⟩
      · intro D5 H5 vs5 hD5 s5 hDD5 hV
        refine ⟨D5, vs5, rfl, .inl ⟨SqL.of hDD5, fun q6 H6 s6 B6 => ?_⟩⟩
        refine k q6 H6 (((s1.trans s2).trans (s24.trans s5)).trans s6) ⟨vs5, B6, ?_⟩
        rw [eks] at hV
        exact hV.imp fun _ _ h => h.same s6
end
end W13
set_option Elab.async false
set_option linter.all false
set_option maxRecDepth 100000
set_option maxHeartbeats 1000000
namespace W13
open PySem L2 PySem.Spec PyProof.Rows WR WB WE
abbrev sOrders : Stmt := top 72
theorem lcF {β : Type} {J : It} {n : Nat} {G : Hp → Prop} {Y : Nat → Hp → V → Hp → Prop} (w : Walk J n G Y) (hY : ∀ i H x H', Y i H x H' → Same H H') (out : Nat → Option β) (R : Addr → Hp → V → β → Prop) (hst : ∀ D H H' v b, R D H v b → Same H H' → R D H' v b) (hput : ∀ D H ws o v b, H D = some (.lst ws) → R D H v b → R D (L2.upd H D o) v b)
    (hz : n < 40000) {g : TG} {tt : TT} {te : TE} {vs : List Nat} {σ : L2.St} {H1 : Hp} {Q : VK} (hG : ∀ H, Same H1 H → G H)
    (hs : ∀ (i : Nat) (x : V) (H H' : Hp), i < n → Same H1 H → Y i H x H' → ∀ D, H1 D = none → (∃ ws, H' D = some (.lst ws)) → ∀ (Qy : V → Hp → Prop) (Qn : Hp → Prop), (∀ b v H2, out i = some b → Same H' H2 → R D H2 v b → Qy v H2) → (out i = none → ∀ H2, Same H' H2 → Qn H2) →
      g x (wipe σ vs) H' fun σ2 H2 => wipe σ2 vs = wipe σ vs ∧ tt σ2 H2 fun b H3 => if b = true then te σ2 H3 Qy else Qn H3)
    (hd : ∀ (D : Addr) H' ws, H1 D = none → Same H1 H' → H' D = some (.lst ws) → All2 (R D H') ws ((List.range n).filterMap out) → Q (.ref D) H') : tLc (fun _ H R => R J H) g tt te vs σ H1 Q := by
  intro D hD
  refine lc_it w (fun i H => Same H1 H ∧ ∃ ws, H D = some (.lst ws) ∧ All2 (R D H) ws ((List.range i).filterMap out)) ⟨fun b o e => by rw [upd_ne (ne_of_none e hD)]; exact e, [], upd_same, .nil⟩ (fun i H _ q => hG H q.1) ?_ ?_
  · rintro i x H H' hi ⟨sm, ws, hw, h2⟩ y
    have sY := hY _ _ _ _ y
    have hlen := h2.length
    have lf := List.length_filterMap_le out (List.range i)
    rw [List.length_range] at lf
    refine hs i x H H' hi sm y D hD ⟨ws, sY _ _ hw⟩ _ _ (fun b v H2 ho s2 r => ?_) (fun ho H2 s2 => ?_)
    · have s3 := sY.trans s2
      have hw2 := s3 _ _ hw
      refine ⟨ws, hw2, Evl.sz_lt (by omega), fun b o e => ?_, ws ++ [v], upd_same, ?_⟩
      · rw [upd_ne (ne_of_none e hD)]
        exact s3 _ _ (sm _ _ e)
      · rw [List.range_succ, List.filterMap_append, List.filterMap_cons, ho]
        exact (h2.imp fun v b r => hput D H2 ws _ v b hw2 (hst D _ _ v b r s3)).app (.cons (hput D H2 ws _ v _ hw2 r) .nil)
    · have s3 := sY.trans s2
      refine ⟨sm.trans s3, ws, s3 _ _ hw, ?_⟩
      rw [List.range_succ, List.filterMap_append, List.filterMap_cons, ho]
      show All2 (R D H2) ws (List.filterMap out (List.range i) ++ [])
      rw [List.append_nil]
      exact h2.imp fun v b r => hst D _ _ v b r s3
  · rintro H ⟨sm, ws, hw, h2⟩
    exact hd D H ws hD sm hw h2
theorem ya_same {xs : List V} {i : Nat} {H H' : Hp} {x : V} (y : YAt xs i H x H') : Same H H' := by
  rw [y.1]
  exact Same.refl _
theorem range_fm {α β : Type} (F : α → Option β) (d : α) (xs : List α) : (List.range xs.length).filterMap (fun i => F (xs.getD i d)) = xs.filterMap F := by
  have e : (List.range xs.length).map (fun i => xs.getD i d) = xs := by
    refine List.ext_getElem (by rw [List.length_map, List.length_range]) fun j h1 h2 => ?_
    rw [List.getElem_map, List.getElem_range, List.getD_eq_getElem?_getD, List.getElem?_eq_getElem h2]
    rfl
  conv => rhs; rw [← e]
  rw [List.filterMap_map]
  rfl
def extF (o : List Int) (e : Int) : Option (List Int) := if e ∈ o then none else some (o ++ [e])
def ordF (xs : List Int) : Nat → List (List Int)
  | 0 => [[]]
  | k + 1 => ((ordF xs k).map fun o => xs.filterMap (extF o)).flatten
theorem ordF_len (xs : List Int) : ∀ k, ∀ o ∈ ordF xs k, o.length = k
  | 0, o, h => by rw [List.mem_singleton.mp h]; rfl
  | k + 1, o, h => by
    have h : o ∈ ((ordF xs k).map fun o => xs.filterMap (extF o)).flatten := h
    rw [List.mem_flatten] at h
    obtain ⟨l, hl, ho⟩ := h
    obtain ⟨o', ho', rfl⟩ := List.mem_map.mp hl
    obtain ⟨e, _, he⟩ := List.mem_filterMap.mp ho
    unfold extF at he
    split at he
    · cases he
    · cases he
      rw [List.length_append, ordF_len xs k o' ho']
      rfl
/-- lists of ints, none of them at D -/
def OrdsN (D : Addr) (H : Hp) (us : List V) (os : List (List Int)) : Prop := All2 (fun v o => ∃ q, v = V.ref q ∧ q ≠ D ∧ H q = some (.lst (iv o))) us os
def OrdsAt (H : Hp) (us : List V) (os : List (List Int)) : Prop := All2 (fun v o => ∃ q, v = V.ref q ∧ H q = some (.lst (iv o))) us os
theorem OrdsN.kept {D : Addr} {H H' : Hp} {us : List V} {os : List (List Int)} (h : OrdsN D H us os) (k : Kept D H H') : OrdsN D H' us os := h.imp fun _ _ ⟨q, e, n, r⟩ => ⟨q, e, n, k _ _ n r⟩
theorem OrdsAt.same {H H' : Hp} {us : List V} {os : List (List Int)} (h : OrdsAt H us os) (s : Same H H') : OrdsAt H' us os := h.imp fun _ _ ⟨q, e, r⟩ => ⟨q, e, s _ _ r⟩
def spOrders : Sp := fun vs H Q _ => ∃ (a : Addr) (xs : List Int), vs = [.ref a] ∧ H a = some (.lst (iv xs)) ∧ xs.length ≤ 100 ∧ (∀ k, k ≤ xs.length → (ordF xs k).length ≤ 1000) ∧
  ∀ p H' us, H p = none → Same H H' → H' p = some (.lst us) → OrdsAt H' us (ordF xs xs.length) → Q (.ref p) H'
abbrev nOrders : List Str := ["_law_some", "_law_found", "_law_turn", "_law_longer", "_law_order", "_law_each"]
theorem in_ints {x : Int} {o : List Int} : inV (V.int x) (iv o) = decide (x ∈ o) := by
  unfold inV
  rw [List.any_map]
  have e : ∀ y : Int, ((fun y => eqV y (V.int x)) ∘ V.int) y = (y == x) := fun y => rfl
  rw [show ((fun y => eqV y (V.int x)) ∘ V.int) = fun y => y == x from funext e]
  rw [Bool.eq_iff_iff, List.any_eq_true, decide_eq_true_eq]
  constructor
  · rintro ⟨y, hy, e⟩
    rw [beq_iff_eq] at e
    exact e ▸ hy
  · exact fun h => ⟨x, h, by rw [beq_iff_eq]⟩
theorem ints_flat (o : List Int) : (iv o).all flatV = true := by
  rw [List.all_eq_true]
  intro v hv
  obtain ⟨x, _, rfl⟩ := List.mem_map.mp hv
  rfl
theorem op_notInK {X : Cx} {K : PySem.W.Frag} (h : X.K = K) : OpR X (compareOp .NotIn) (rIn K true) := h ▸ op_notIn_seq
theorem exp_lc {wi : TI} {g : TG} {tt : TT} {te : TE} {vs : List Nat} {σ : L2.St} {H : Hp} {Q : List V → Hp → Prop}
    (h : wi σ H fun J H1 => tLc (fun _ H R => R J H) g tt te vs σ H1 fun y H2 => Q [y] H2) : tCons (tLc wi g tt te vs) tNil σ H Q := h
section
variable {P : Program} {w : World} {K : PySem.W.Frag} {mg : Str → Option Value} {base : Heap} {C CR CS : Addr}
theorem scOrders : FnScope nOrders ["_law_some"] (defScope sOrders) := ⟨rfl, rfl, rfl, by decide +kernel, rfl, by decide +kernel, by decide +kernel⟩
theorem ok_orders {f : Addr} {fd : FuncData} (F : Fun K "_law_orders" "_law_orders" sOrders f fd) (hlen : mg "len" = none) (hrange : mg "range" = none) : FnOk P w K mg base CX0 1 f fd ["_law_some"] spOrders := by
  refine F.ok scOrders (fun vs H Q E h => ?_) (fun cdv A outer s H vs Q E hr h => ?_)
  · obtain ⟨a, xs, rfl, _⟩ := h
    rfl
  · obtain ⟨a, xs, rfl, hA, hx6, hsz, k⟩ := h
    refine ⟨_, pss_cons (ps_set (i := 1) scOrders.nd rfl (Or.inl rfl) (pe_lst (pa_cons (pe_lst pa_nil) pa_nil)))
      (pss_cons (ps_for PassesOwn.never rfl (pi_range1 (by rfl) hrange (pa_cons (pe_callB call_len_seq (by rfl) hlen PySem.boot_len (pa_cons (pv 0) pa_nil)) pa_nil)) (pg_name (i := 2) scOrders.nd rfl (Or.inl rfl))
        (pss_cons (ps_set (i := 3) scOrders.nd rfl (Or.inl rfl) (pe_lst pa_nil))
        (pss_cons (ps_for PassesOwn.never rfl (pi_list (pv 1)) (pg_name (i := 4) scOrders.nd rfl (Or.inr rfl))
          (pss_one (ps_expr (pe_bm PySem.F.plainAttrs_list PySem.F.slot_list_extend PySem.F.type_list_extend mt_extend (pv 3) (pa_cons (pe_lc (own := [("_law_each", 5)]) (g := gName 5) rfl scOrders.nd (pi_list (pv 0))
              (blkOk_by (N := nOrders) (sc := defScope sOrders) (by decide +kernel)) (fun _ _ _ _ _ => pg_name (i := 5) scOrders.nd rfl (Or.inl rfl)) (fun _ _ _ _ _ => pts_one (pt_cmpR (op_notInK (K := K) rfl) (pv 5) (pv 4) (by rfl)))
              (fun _ _ _ _ _ => pe_op op_cat (pv 4) (pe_lst (pa_cons (pv 5) pa_nil)))) pa_nil)))))
        (pss_one (ps_set (i := 1) scOrders.nd rfl (Or.inl rfl) (pv 3))))))
      (pss_one (ps_ret (pv 1)))), ?_⟩
    refine ⟨Nat.zero_le _, fun l0 h0 => ?_⟩
    have s1 := same_upd (o := .lst []) h0
    refine ⟨by show 1 ≤ sizeLine; decide, fun f0 hf0 => ?_⟩
    have s2 := same_upd (o := .lst [.ref l0]) hf0
    have hl0 : L2.upd (L2.upd H l0 (.lst [])) f0 (.lst [.ref l0]) l0 = some (.lst []) := s2 _ _ upd_same
    have s02 := s1.trans s2
    refine ⟨_, rfl, a, _, rfl, .inl (SqL.of (s02 _ _ hA)), _, rfl, by omega, by rw [List.length_map]; omega, ?_⟩
    refine for_range (lo := 0) (n := (((iv xs).length : Nat) : Int).toNat) (fun i σ H' => ∃ (v2 v3 v4 : Option V) (fn : Addr) (us : List V), σ = [some (.ref a), some (.ref fn), v2, v3, v4, none] ∧ Same H H' ∧ H fn = none ∧ H' fn = some (.lst us) ∧ OrdsAt H' us (ordF xs i))
      ⟨none, none, none, f0, [.ref l0], rfl, s02, s1.free hf0, upd_same, .cons ⟨l0, rfl, hl0⟩ .nil⟩ ?_ ?_
    · rintro i σ H3 hi ⟨v2, v3, v4, fn, us, rfl, sm, hfn, hus, hO⟩
      rw [Int.toNat_natCast, List.length_map] at hi
      have lus := hO.length
      have szi := hsz i (by omega)
      have szj := hsz (i + 1) (by omega)
      refine ⟨Nat.zero_le _, fun lg hlg => ?_⟩
      have nlg : H lg = none := sm.free hlg
      have nfl : fn ≠ lg := ne_of_none hus hlg
      have s3 := same_upd (o := .lst []) hlg
      obtain ⟨H4, e4⟩ : ∃ H4, H4 = L2.upd H3 lg (.lst []) := ⟨_, rfl⟩
      have hG4 : H4 lg = some (.lst []) := by rw [e4, upd_same]
      rw [← e4] at s3 ⊢
      have hus4 := s3 _ _ hus
      have hN4 : OrdsN lg H4 us (ordF xs i) := hO.imp fun _ _ ⟨q, e, r⟩ => ⟨q, e, ne_of_none r hlg, s3 _ _ r⟩
      have hA4 : H4 a = some (.lst (iv xs)) := s3 _ _ (sm _ _ hA)
      have nal : a ≠ lg := ne_of_none hA nlg
      refine ⟨_, rfl, fn, rfl, ⟨_, SqL.of hus4⟩, ?_⟩
      refine for_it (walk_list (K := K) (a := fn) (xs := us)) (fun j σ H' => ∃ (v4 : Option V) (ws : List V), σ = [some (.ref a), some (.ref fn), some (.int (0 + (i : Nat))), some (.ref lg), v4, none] ∧ Kept lg H4 H' ∧ H' lg = some (.lst ws) ∧ OrdsN lg H' ws ((((ordF xs i).take j).map fun o => xs.filterMap (extF o)).flatten))
        ⟨v4, [], rfl, Kept.refl, hG4, .nil⟩ (fun j σ H' _ ⟨_, _, _, kp, _⟩ => SqL.of (kp _ _ nfl hus4)) ?_ ?_
      · rintro j x σ H5 H6 hj ⟨v4', ws, rfl, kp, hG5, hW⟩ ⟨rfl, hx⟩
        obtain ⟨o, ho, q, rfl, nq, hq⟩ := hN4.at hx
        have hq5 := kp _ _ nq hq
        have hA5 := kp _ _ nal hA4
        have hjl : j < (ordF xs i).length := by omega
        have etk : (((ordF xs i).take (j + 1)).map fun o => xs.filterMap (extF o)).flatten = (((ordF xs i).take j).map fun o => xs.filterMap (extF o)).flatten ++ xs.filterMap (extF o) := by
          have eo : (ordF xs i)[j] = o := Option.some.inj ((List.getElem?_eq_getElem hjl).symm.trans ho)
          rw [List.take_succ_eq_append_getElem hjl, List.map_append, List.flatten_append, eo]
          simp
        have part : (((ordF xs i).take (j + 1)).map fun o => xs.filterMap (extF o)).flatten.length ≤ 1000 := by
          refine Nat.le_trans ?_ szj
          show _ ≤ (((ordF xs i).map fun o => xs.filterMap (extF o)).flatten).length
          conv => rhs; rw [← List.take_append_drop (j + 1) (ordF xs i), List.map_append, List.flatten_append, List.length_append]
          omega
        rw [etk, List.length_append] at part
        have lws := hW.length
        refine ⟨_, rfl, .inl ⟨rfl, _, SqL.of hG5⟩, ?_⟩
        refine exp_lc ?_
        refine ⟨_, rfl, a, rfl, ⟨_, SqL.of hA5⟩, ?_⟩
        refine lcF (walk_list (K := K) (a := a) (xs := iv xs)) (fun _ _ _ _ => ya_same) (fun m => extF o (xs.getD m 0)) (fun D H v b => ∃ q, v = V.ref q ∧ q ≠ D ∧ q ≠ lg ∧ H q = some (.lst (iv b))) (fun _ _ _ _ _ ⟨q, e, n, n2, r⟩ s => ⟨q, e, n, n2, s _ _ r⟩)
          (fun _ _ _ _ _ _ _ ⟨q, e, n, n2, r⟩ => ⟨q, e, n, n2, by rw [upd_ne n]; exact r⟩) (by rw [List.length_map]; omega) (fun H s => s.seq (SqL.of hA5)) ?_ ?_
        · rintro m x H7 H8 hm s7 ⟨rfl, hx⟩ D hD ⟨_, hDD⟩ Qy Qn ky kn
          rw [List.length_map] at hm
          obtain rfl : x = V.int xs[m] := by
            rw [List.getElem?_map, List.getElem?_eq_getElem hm] at hx
            exact (Option.some.inj hx).symm
          have eg : xs.getD m 0 = xs[m] := by rw [List.getD_eq_getElem?_getD, List.getElem?_eq_getElem hm]; rfl
          have hq7 := s7 _ _ hq5
          have hG7 := s7 _ _ hG5
          refine ⟨rfl, ?_⟩
          refine ⟨_, rfl, _, rfl, q, _, rfl, .inl (SqL.of hq7), rfl, ints_flat o, _, rfl, ?_⟩
          by_cases c : xs[m] ∈ o
          · refine iteF' (by rw [in_ints, decide_eq_true c]; rfl) (kn ?_ _ (fun _ _ e => e))
            show extF o (xs.getD m 0) = none
            rw [eg]
            unfold extF
            rw [if_pos c]
          · refine iteT' (by rw [in_ints, decide_eq_false c]; rfl) ?_
            refine ⟨_, rfl, _, rfl, by show 1 ≤ sizeLine; decide, fun l1 h1 => ?_⟩
            have s8 := same_upd (o := .lst [.int xs[m]]) h1
            refine ⟨q, l1, _, _, rfl, rfl, s8 _ _ hq7, upd_same, ?_, fun l2 h2 => ?_⟩
            · rw [List.length_map, ordF_len xs i o (List.mem_of_getElem? ho)]
              exact Nat.le_trans (show i + 1 ≤ 200 by omega) (by decide)
            · have s9 := same_upd (o := .lst (iv o ++ [.int xs[m]])) h2
              refine ky (o ++ [xs[m]]) _ _ ?_ (s8.trans s9) ⟨l2, rfl, (ne_of_none (s8 _ _ hDD) h2).symm, (ne_of_none (s8 _ _ hG7) h2).symm, ?_⟩
              · show extF o (xs.getD m 0) = _
                rw [eg]
                unfold extF
                rw [if_neg c]
              · rw [upd_same]
                unfold iv
                rw [List.map_append]
                rfl
        · intro D H7 es hD s7 hDD hE
          rw [show (iv xs).length = xs.length from List.length_map .., range_fm (extF o) 0 xs] at hE
          have les := hE.length
          have hG7 := s7 _ _ hG5
          refine ⟨lg, D, ws, es, rfl, rfl, hG7, hDD, ?_, ?_⟩
          · exact Nat.le_trans (show ws.length + es.length ≤ 2000 by omega) (by decide)
          have k7 : Kept lg H7 (L2.upd H7 lg (.lst (ws ++ es))) := Kept.upd
          refine ⟨_, _, rfl, fun b o nb e => k7 _ _ nb (s7 _ _ (kp _ _ nb e)), upd_same, ?_⟩
          rw [etk]
          refine All2.app ((hW.imp fun _ _ ⟨q, e, n, r⟩ => ⟨q, e, n, s7 _ _ r⟩ : OrdsN lg H7 _ _).imp fun _ _ ⟨q, e, n, r⟩ => ⟨q, e, n, k7 _ _ n r⟩) (hE.imp fun _ _ ⟨q, e, _, n, r⟩ => ⟨q, e, n, k7 _ _ n r⟩)
      · rintro σ H5 ⟨v4', ws, rfl, kp, hG5, hW⟩
        rw [lus, List.take_length] at hW
        refine ⟨_, rfl, ?_⟩
        refine ⟨_, _, _, lg, ws, rfl, fun b o e => kp _ _ (ne_of_none e nlg) (s3 _ _ (sm _ _ e)), nlg, hG5, ?_⟩
        exact hW.imp fun _ _ ⟨q, e, _, r⟩ => ⟨q, e, r⟩
    · rintro σ H3 ⟨v2, v3, v4, fn, us, rfl, sm, hfn, hus, hO⟩
      rw [Int.toNat_natCast, List.length_map] at hO
      exact ⟨_, rfl, k fn H3 us hfn sm hus hO⟩
end
end W13
set_option Elab.async false
set_option linter.all false
set_option maxRecDepth 100000
set_option maxHeartbeats 2000000
namespace TM
open PySem PySem.Spec PyProof.Rows L2
/-- a clause: its class, the slot of its name if it has one, what its suite says -/
structure Cla where
  of : Value
  slot : Option Nat
  say : Addr → Value → Option Addr → TS
def offS : Option Nat → L2.St → L2.St
  | none, σ => σ
  | some i, σ => σ.set i none
def onS : Option Nat → Addr → L2.St → L2.St
  | none, _, σ => σ
  | some i, a, σ => σ.set i (some (.ref a))
def endsS (o : Option Nat) (D : Ends) : Ends := { nx := fun σ H => D.nx (offS o σ) H, rt := D.rt, bk := fun σ H => D.bk (offS o σ) H, ct := fun σ H => D.ct (offS o σ) H }
/-- the first clause that fits takes it -/
def wish (K : PySem.W.Frag) (out : WX) (D : Ends) : List Cla → WX
  | [] => out
  | q :: r => fun cls d σ H => ∃ b, PySem.W.exmOne K cls q.of = some b ∧ (b = true → ∀ a, H a = none → q.say a cls d (endsS q.slot D) (onS q.slot a σ) H) ∧ (b = false → wish K out D r cls d σ H)
def Says (X : Cx) (bs : List Stmt) (say : Addr → Value → Option Addr → TS) : Prop :=
  ∀ (a : Addr) (o : Obj) (cls : Value) (d : Option Addr) (pn : List (Addr × Obj)), Zc cls d o → (∃ vs, o.data = .fields vs) → PSs (X.suite a ((a, o) :: pn)) bs (say a cls d)
inductive Fit (X : Cx) : ExceptHandler → Cla → Prop
  | bare {x : Str} {c : Value} {say : Addr → Value → Option Addr → TS} {b : Stmt} {bs : List Stmt} {p1 p2 : Pos} (hc : Names X x c) (hs : Says X (b :: bs) say) : Fit X (.ExceptHandler (some (.Name x p1)) none (b :: bs) p2) ⟨c, none, say⟩
  | named {x n : Str} {i : Nat} {c : Value} {say : Addr → Value → Option Addr → TS} {b : Stmt} {bs : List Stmt} {p1 p2 : Pos} (hN : X.N.Nodup) (hi : X.N[i]? = some n) (hl : X.env.kindOf n = some .local) (hc : Names X x c) (hs : Says X (b :: bs) say) :
      Fit X (.ExceptHandler (some (.Name x p1)) (some n) (b :: bs) p2) ⟨c, some i, say⟩
inductive Fits (X : Cx) : List ExceptHandler → List Cla → Prop
  | nil : Fits X [] []
  | cons {h : ExceptHandler} {q : Cla} {hs : List ExceptHandler} {l : List Cla} (f : Fit X h q) (r : Fits X hs l) : Fits X (h :: hs) (q :: l)
/-- an exception that flies over X's frame, with the state that it left -/
structure Held (X : Cx) (pins : List (Addr × Obj)) (σ : L2.St) (H : Hp) (cls : Value) (d : Option Addr) (a : Addr) (B : Heap) (s0 s : Shared) : Prop where
  inv : Inv X pins σ H s0
  old : ∀ b o, s0.heap.get? b = some o → b ∉ frs X.stack → B.get? b = some o
  up : s0.heap.UpToSlots s.heap
  fly : HandSPX.FlyingZ B (X.env :: X.outer) a (Zc cls d) s.heap
  os : s.os = s0.os
  bare : AllBare s.gens
  free : H a = none
section
variable {X : Cx} {pins : List (Addr × Obj)} {σ : L2.St} {H : Hp} {D : Ends} {out : WX} {cls : Value} {d : Option Addr} {a : Addr} {B : Heap} {s0 s : Shared}
theorem Held.now (h : Held X pins σ H cls d a B s0 s) : Inv X pins σ H s := h.inv.landed h.old h.fly.1 h.up h.os h.bare
theorem Held.pinned (h : Held X pins σ H cls d a B s0 s) (hf : X.env.frame = some X.env.locals) : ∃ o : Obj, s.heap.get? a = some o ∧ Zc cls d o ∧ (∃ vs, o.data = .fields vs) ∧ Inv (X.suite a ((a, o) :: (X.pn ++ pins))) [] σ H s := by
  obtain ⟨o, vs, ea, z, ed⟩ := h.fly.there
  have out_ : a ∉ frs (X.env :: X.outer) := fun hm => by
    obtain ⟨_, o', e', nf⟩ := h.fly.2.2.1.mem hm
    rw [ea] at e'
    cases e'
    exact nf _ ed
  have n1 : a ≠ X.env.locals := fun z => out_ (List.mem_filterMap.mpr ⟨X.env, List.mem_cons_self, by rw [hf, z]⟩)
  have n2 : a ∉ X.fs := fun hm => by
    obtain ⟨e, he, q⟩ := List.mem_filterMap.mp hm
    exact out_ (List.mem_filterMap.mpr ⟨e, List.mem_cons_of_mem _ he, q⟩)
  exact ⟨o, ea, z, ⟨vs, ed⟩, h.now.suite ea ed h.free n1 n2⟩
theorem Held.pass (h : Held X pins σ H cls d a B s0 s) (hs : X.stack = X.env :: X.outer) (hf : X.env.frame = some X.env.locals) (tk : Takes X out) (w : out cls d σ H) : wpAny (model X.prog X.w) X.A (handleBy (.ref a) X.env []) (SP X pins D) X.xe s := by
  obtain ⟨_, _, _, oe, vs, T, oT, ts', he, hz, hd, h1, _⟩ := id h.fly
  refine wpAny_handleBy_nil ?_
  unfold PySem.passOn
  refine wpAny_bind (wpAny_field he hd h1 ?_)
  rw [if_neg (show ¬ ((Value.ref T == Value.none) = true) from by simp)]
  have last : wpAny (model X.prog X.w) X.A (setFlight (.ref a) X.env.frame) (fun _ s4 => wpAny (model X.prog X.w) X.A (throw (.ref a) : Sem Flow) (SP X pins D) X.xe s4) X.xe s := by
    rw [hf]
    exact HandSPX.setFlight_upZ h.fly fun h4 hh4 up4 => wpAny_throw (tk _ _ ⟨a, B, s0, pins, σ, H, cls, d, rfl, h.inv, h.old, h.up.trans up4, .inr (.inr (by rw [hs]; exact hh4)), h.free, h.os, h.bare, w⟩)
  first
    | exact wpAny_bind (wpAny_pure (wpAny_bind last))
    | exact wpAny_bind last
theorem Held.goes (h : Held X pins σ H cls d a B s0 s) (hs : X.stack = X.env :: X.outer) (hf : X.env.frame = some X.env.locals) (tk : Takes X out) {hds : List ExceptHandler} {l : List Cla} (fs : Fits X hds l) (w : wish X.K out D l cls d σ H) :
    wpAny (model X.prog X.w) X.A (handleBy (.ref a) X.env hds) (SP X pins D) X.xe s := by
  induction fs with
  | nil => exact h.pass hs hf tk w
  | @cons hd q hds l f r ih =>
    obtain ⟨b, eb, yes, no⟩ := w
    obtain ⟨o, ea, z, ed, S⟩ := h.pinned hf
    have look : PySem.W.Looks (model X.prog X.w) s.heap (typeOf (.ref a)) cls := fun A Q E s' k q => wpAny_typeOf_ref (k _ _ ea) (by rw [z.1]; exact q)
    have lm := PySem.W.exm_one (M := model X.prog X.w) h.now.kIn look eb
    have named : ∀ {x : Str} {c : Value} {p : Pos} {Q : Value → Shared → Prop} {E : Value → Shared → Prop}, Names X x c → Q c s → wpAny (model X.prog X.w) (X.A.mark (some (.ref a))) (eval (.Name x p) X.env) Q E s := fun {x c p Q E} hc k => by
      obtain ⟨g1, g2, m | ⟨m, v, nn⟩⟩ := hc
      · exact ld_glob (X := X.suite a ((a, o) :: (X.pn ++ pins))) S g1 m k g2
      · exact ld_blt (X := X.suite a ((a, o) :: (X.pn ++ pins))) S g1 m v k nn g2
    cases f with
    | bare hc say =>
      refine wpAny_handleBy_cons (codeAny_handlers_test (named hc (lm.here ?_))) (by intro q; cases q)
      cases b with
      | false => exact ih (no rfl)
      | true =>
        refine codeAny_handlers_suite (HandSPX.lands_againZ h.fly fun h4 fl4 up4 => ?_)
        have h' : Held X pins σ H cls d a B s0 { s with heap := h4 } := ⟨h.inv, h.old, h.up.trans up4, fl4, h.os, h.bare, h.free⟩
        obtain ⟨o4, _, z4, ed4, S4⟩ := h'.pinned hf
        refine wpAny_mono ((say a o4 cls d (X.pn ++ pins) z4 ed4).run [] _ _ H _ S4 (yes rfl a h.free)) (fun f s6 hsp => ?_) (fun _ _ z => False.elim z)
        have ok := h.inv.ok
        cases f with
        | next => obtain ⟨σ6, H6, S6, q6⟩ := hsp; exact ⟨_, _, S6.unsuite ok, q6⟩
        | brk => obtain ⟨σ6, H6, S6, q6⟩ := hsp; exact ⟨_, _, S6.unsuite ok, q6⟩
        | cont => obtain ⟨σ6, H6, S6, q6⟩ := hsp; exact ⟨_, _, S6.unsuite ok, q6⟩
        | ret u => obtain ⟨v6, σ6, H6, S6, r6, q6⟩ := hsp; exact ⟨_, _, _, S6.unsuite ok, r6, q6⟩
    | @named x n i c say0 b0 bs p1 p2 hN hi hl hc say =>
      refine wpAny_handleBy_cons (codeAny_handlers_test (named hc (lm.here ?_))) (by intro q; cases q)
      cases b with
      | false => exact ih (no rfl)
      | true =>
        refine codeAny_handlers_suite_as (HandSPX.lands_againZ h.fly fun h4 fl4 up4 => ?_)
        have h' : Held X pins σ H cls d a B s0 { s with heap := h4 } := ⟨h.inv, h.old, h.up.trans up4, fl4, h.os, h.bare, h.free⟩
        obtain ⟨o4, _, z4, ed4, S4⟩ := h'.pinned hf
        refine store_ok (X := X.suite a ((a, o4) :: (X.pn ++ pins))) (v := .ref a) S4 hN hi (.inl hl) rfl (fun s5 S5 => ?_) (.inr hl)
        refine wpAny_mono ((say a o4 cls d (X.pn ++ pins) z4 ed4).run [] s5 _ H _ S5 (yes rfl a h.free)) (fun f s6 hsp => ?_) (fun _ _ z => False.elim z)
        have ok := h.inv.ok
        have end_ : ∀ {σ6 : L2.St} {H6 : Hp} {Q : Shared → Prop}, Inv (X.suite a ((a, o4) :: (X.pn ++ pins))) [] σ6 H6 s6 → (∀ s7, Inv X pins (σ6.set i none) H6 s7 → Q s7) →
            wpAny (model X.prog X.w) X.A (do bindName X.env n .none; unbindBehindTheSuite X.env n p2) (fun _ s7 => Q s7) X.xe s6 := fun {σ6 H6 Q} S6 hq => gone_ok (S6.unsuite ok) hN hi hl hq
        cases f with
        | next => obtain ⟨σ6, H6, S6, q6⟩ := hsp; exact end_ S6 fun s7 J7 => ⟨_, _, J7, q6⟩
        | brk => obtain ⟨σ6, H6, S6, q6⟩ := hsp; exact end_ S6 fun s7 J7 => ⟨_, _, J7, q6⟩
        | cont => obtain ⟨σ6, H6, S6, q6⟩ := hsp; exact end_ S6 fun s7 J7 => ⟨_, _, J7, q6⟩
        | ret u => obtain ⟨v6, σ6, H6, S6, r6, q6⟩ := hsp; exact end_ S6 fun s7 J7 => ⟨_, _, _, J7, r6, q6⟩
end
end TM
set_option Elab.async false
set_option linter.all false
set_option maxRecDepth 100000
set_option maxHeartbeats 600000
namespace Cy
def it (f : Nat → Nat) : Nat → Nat → Nat
  | 0, x => x
  | k + 1, x => it f k (f x)
def Rch (f : Nat → Nat) (i j : Nat) : Prop := ∃ k, it f k i = j
theorem it_add (f : Nat → Nat) : ∀ (j k x : Nat), it f (j + k) x = it f k (it f j x)
  | 0, k, x => by rw [Nat.zero_add]; rfl
  | j + 1, k, x => by
    rw [show j + 1 + k = (j + k) + 1 by omega]
    exact it_add f j k (f x)
theorem Rch.refl (f : Nat → Nat) (i : Nat) : Rch f i i := ⟨0, rfl⟩
theorem Rch.trans {f : Nat → Nat} {i j k : Nat} (h : Rch f i j) (h2 : Rch f j k) : Rch f i k := by
  obtain ⟨a, rfl⟩ := h
  obtain ⟨b, rfl⟩ := h2
  exact ⟨a + b, it_add f a b i⟩
theorem Rch.step (f : Nat → Nat) (i : Nat) : Rch f i (f i) := ⟨1, rfl⟩
end Cy
set_option Elab.async false
set_option linter.all false
set_option maxRecDepth 100000
set_option maxHeartbeats 600000
namespace W13
open PySem L2 PySem.Spec PyProof.Rows WR WB WE
end W13
set_option Elab.async false
set_option linter.all false
set_option maxRecDepth 100000
set_option maxHeartbeats 1000000
namespace W13
open PySem L2 PySem.Spec PyProof.Rows WR WB WE
def LI (ns : List Int) (H : Hp) (v : V) : Prop := ∃ q, v = V.ref q ∧ H q = some (.lst (iv ns))
theorem LI.same {ns : List Int} {H H' : Hp} {v : V} (h : LI ns H v) (s : Same H H') : LI ns H' v := by
  obtain ⟨q, e, r⟩ := h
  exact ⟨q, e, s _ _ r⟩
end W13
set_option Elab.async false
set_option linter.all false
set_option maxRecDepth 100000
set_option maxHeartbeats 600000
namespace W13
open PySem L2 PySem.Spec PyProof.Rows WR WB WE
structure TN (mg : Str → Option Value) : Prop where
  len : mg "len" = none
  range : mg "range" = none
  list : mg "list" = none
  tuple : mg "tuple" = none
  int : mg "int" = none
  abs : mg "abs" = none
  min : mg "min" = none
  sorted : mg "sorted" = none
  set : mg "set" = none
  enumerate : mg "enumerate" = none
  zip : mg "zip" = none
  isinstance : mg "isinstance" = none
  repr : mg "repr" = none
theorem perm_erase : ∀ (us : List V) (j : Nat) (h : j < us.length), (us[j] :: us.eraseIdx j).Perm us
  | a :: t, 0, _ => List.Perm.refl _
  | a :: t, j + 1, h => by
    have ih := perm_erase t j (by simpa using h)
    exact (List.Perm.swap _ _ _).trans (ih.cons a)
def spMixed : Sp := fun vs H Q _ => ∃ (a c p : Addr) (xs : List V) (n : Nat), vs = [.ref a, .ref p] ∧ HandAt H a c n ∧ H p = some (.lst xs) ∧ xs.length ≤ 100 ∧ n ≤ 8000 ∧ ∀ l H' ys, H l = none → Drew a c (n + xs.length) H H' → H' l = some (.lst ys) → ys.Perm xs → Q (.ref l) H'
abbrev sMixed : Stmt := top 65
abbrev nMixed : List Str := ["_law_pen_here", "_law_some", "_law_left", "_law_found", "_law_turn"]
theorem scMixed : FnScope nMixed ["_law_pen_here", "_law_some"] (defScope sMixed) := ⟨rfl, rfl, rfl, by decide +kernel, rfl, by decide +kernel, by decide +kernel⟩
section
variable {P : Program} {w : World} {K : PySem.W.Frag} {mg : Str → Option Value} {base : Heap}
theorem ok_Mixed {f : Addr} {fd : FuncData} (F : Fun K "_law_mixed" "_law_mixed" sMixed f fd) (N : TN mg)  (G_draw : Cal P w K mg base "_law_draw" 1 ["_law_pen_here", "_law_many"] (spTake)) : FnOk P w K mg base CX0 2 f fd ["_law_pen_here", "_law_some"] (spMixed) := by
  refine F.ok scMixed (fun vs H Q E h => ?_) (fun cdv A outer s H vs Q E hr h => ?_)
  · obtain ⟨a, c, p, xs, n, rfl, _⟩ := h
    rfl
  · obtain ⟨a, c, p, xs, n, rfl, hH, hp, hx, hn, k⟩ := h
    refine ⟨_, pss_cons (ps_par (i := 2) (j := 3) (by rfl) scMixed.nd rfl rfl (by decide) rfl rfl (pa_cons (pe_callTy call_list_of (by rfl) N.list (by decide +kernel) (pa_cons (pv 1) pa_nil)) (pa_cons (pe_lst pa_nil) pa_nil)) (by rfl))
      (pss_cons (ps_for PassesOwn.never rfl (pi_range1 (by rfl) N.range (pa_cons (pe_callB call_len_seq (by rfl) N.len PySem.boot_len (pa_cons (pv 2) pa_nil)) pa_nil)) (pg_name (i := 4) scMixed.nd rfl (Or.inl rfl))
      (pss_one (ps_expr (pe_bm PySem.F.plainAttrs_list PySem.F.slot_list_append PySem.F.type_list_append mt_append (pv 3) (pa_cons (pe_bm PySem.F.plainAttrs_list PySem.F.slot_list_pop PySem.F.type_list_pop mt_popAt (pv 2) (pa_cons (pe_cal G_draw hr (by decide) (by rfl) (pa_cons (pv 0) (pa_cons (pe_callB call_len_seq (by rfl) N.len PySem.boot_len (pa_cons (pv 2) pa_nil)) pa_nil))) pa_nil)) pa_nil)))))
      (pss_one (ps_ret (pv 3)))), ?_⟩
    refine ⟨_, rfl, p, xs, rfl, .inl (SqL.of hp), fun lf hlf => ?_⟩
    have s1 := same_upd (o := .lst xs) hlf
    have g1 : L2.upd H lf (.lst xs) lf = some (.lst xs) := upd_same
    obtain ⟨H1, e1⟩ : ∃ H1, H1 = L2.upd H lf (.lst xs) := ⟨_, rfl⟩
    rw [← e1] at s1 g1 ⊢
    refine ⟨Nat.zero_le _, fun fo hfo => ⟨_, _, rfl, ?_⟩⟩
    have s2 := same_upd (o := .lst []) hfo
    have g2 : L2.upd H1 fo (.lst []) fo = some (.lst []) := upd_same
    have lfo : lf ≠ fo := ne_of_none g1 hfo
    have fo0 : H fo = none := s1.free hfo
    have hla := hH.ne hlf
    have hlc := hH.neC hlf
    have hfa := hH.ne fo0
    have hfc := hH.neC fo0
    have D2 : Drew a c n H (L2.upd H1 fo (.lst [])) := (Drew.refl hH).same (s1.trans s2)
    refine ⟨_, rfl, lf, _, rfl, .inl (SqL.of (s2 _ _ g1)), ((xs.length : Nat) : Int), rfl, by omega, by omega, ?_⟩
    refine for_range (lo := 0) (n := ((xs.length : Nat) : Int).toNat) (fun i σ H' => ∃ (v : Option V) (us ys : List V), σ = [some (.ref a), some (.ref p), some (.ref lf), some (.ref fo), v] ∧ Drew a c (n + i) H H' ∧ H' lf = some (.lst us) ∧ H' fo = some (.lst ys) ∧ us.length + i = xs.length ∧ (us ++ ys).Perm xs)
      ⟨none, xs, [], rfl, D2, s2 _ _ g1, g2, rfl, by rw [List.append_nil]⟩ ?_ ?_
    · rintro i σ H3 hi ⟨v, us, ys, rfl, d3, hl3, hf3, hlen, hperm⟩
      rw [Int.toNat_natCast] at hi
      have hys : ys.length = i := by
        have := hperm.length_eq
        rw [List.length_append] at this
        omega
      refine ⟨_, rfl, .inl ⟨rfl, _, SqL.of hf3⟩, _, rfl, .inl ⟨rfl, _, SqL.of hl3⟩, _, rfl, _, rfl, lf, _, rfl, .inl (SqL.of hl3), a, c, ((us.length : Nat) : Int), n + i, rfl, d3.1, by omega, by omega, ?_, fun H4 j j0 j1 hH4 hK4 => ?_⟩
      · have : (((us.length : Nat) : Int)).natAbs ≤ 100 := by omega
        exact Nat.lt_of_le_of_lt this (by decide)
      have hl4 := hK4 _ _ hla hl3
      have hf4 := hK4 _ _ hfa hf3
      have d4 : Drew a c (n + i + 1) H H4 := ⟨hH4, d3.2.trans hK4⟩
      obtain ⟨j, rfl⟩ : ∃ j' : Nat, j = (j' : Int) := ⟨j.toNat, by omega⟩
      have hjl : j < us.length := by omega
      refine ⟨lf, us, (j : Int), j, us[j], rfl, rfl, hl4, by omega, by omega, ?_, List.getElem?_eq_getElem hjl, ?_⟩
      · exact seq_at hjl
      have hf5 : L2.upd H4 lf (.lst (us.eraseIdx j)) fo = some (.lst ys) := by rw [upd_ne lfo.symm]; exact hf4
      refine ⟨fo, ys, _, rfl, rfl, hf5, Evl.sz_lt (by omega), ?_⟩
      refine ⟨_, us.eraseIdx j, ys ++ [us[j]], rfl, ?_, ?_, upd_same, ?_, ?_⟩
      · exact ((d4.put hlf hla hlc).put fo0 hfa hfc)
      · rw [upd_ne lfo, upd_same]
      · rw [List.length_eraseIdx_of_lt hjl]
        omega
      · have q1 : (us[j] :: us.eraseIdx j).Perm us := perm_erase us j hjl
        have q2 : (us.eraseIdx j ++ (ys ++ [us[j]])).Perm ((us[j] :: us.eraseIdx j) ++ ys) := by
          rw [← List.append_assoc]
          exact List.perm_append_comm
        exact (q2.trans (q1.append_right ys)).trans hperm
    · rintro σ H3 ⟨v, us, ys, rfl, d3, hl3, hf3, hlen, hperm⟩
      rw [Int.toNat_natCast] at d3 hlen
      have : us = [] := List.eq_nil_of_length_eq_zero (by omega)
      subst this
      exact ⟨_, rfl, k fo H3 ys fo0 d3 hf3 hperm⟩
end
end W13
set_option Elab.async false
set_option linter.all false
set_option maxRecDepth 100000
set_option maxHeartbeats 600000
namespace W13
open PySem L2 PySem.Spec PyProof.Rows WR WB WE
theorem perm_map {α β : Type} {f : α → β} : ∀ {ys zs : List β}, ys.Perm zs → ∀ xs : List α, zs = xs.map f → ∃ ws : List α, ws.Perm xs ∧ ys = ws.map f := by
  intro ys zs h
  induction h with
  | nil => intro xs e; exact ⟨xs, List.Perm.refl _, e⟩
  | cons x _ ih =>
    intro xs e
    cases xs with
    | nil => cases e
    | cons y r =>
      rw [List.map_cons] at e
      injection e with e1 e2
      obtain ⟨ws, p, rfl⟩ := ih r e2
      exact ⟨y :: ws, p.cons y, by rw [e1]; rfl⟩
  | swap x y l =>
    intro xs e
    match xs, e with
    | a :: b :: r, e =>
      rw [List.map_cons, List.map_cons] at e
      injection e with e1 e2
      injection e2 with e2 e3
      exact ⟨b :: a :: r, List.Perm.swap _ _ _, by rw [e1, e2, e3]; rfl⟩
  | trans _ _ ih1 ih2 =>
    intro xs e
    obtain ⟨ws, p, rfl⟩ := ih2 xs e
    obtain ⟨us, p2, rfl⟩ := ih1 ws rfl
    exact ⟨us, p2.trans p, rfl⟩
def rgI (a b : Nat) : List Int := (List.range (b - a)).map fun (i : Nat) => ((a + i : Nat) : Int)
theorem rgV_I (a b : Nat) : rgV (a : Int) (b : Int) = iv (rgI a b) := by
  unfold rgV rgI
  rw [show ((b : Int) - (a : Int)).toNat = b - a by omega]
  show _ = List.map V.int (List.map _ _)
  rw [List.map_map]
  refine List.map_congr_left fun i _ => ?_
  show V.int ((a : Int) + (i : Nat)) = V.int ((a + i : Nat) : Int)
  rw [show ((a : Int) + (i : Nat)) = ((a + i : Nat) : Int) by omega]
theorem rgI_mem {a b : Nat} {z : Int} (h : z ∈ rgI a b) : (a : Int) ≤ z ∧ z < (b : Int) := by
  obtain ⟨i, hi, rfl⟩ := List.mem_map.mp h
  have := List.mem_range.mp hi
  omega
theorem rgI_nodup (a b : Nat) : (rgI a b).Nodup := by
  refine List.pairwise_map.mpr ((List.nodup_range (n := b - a)).imp fun {x y} ne e => ne ?_)
  omega
theorem rgI_len (a b : Nat) : (rgI a b).length = b - a := by
  unfold rgI
  rw [List.length_map, List.length_range]
theorem cut_mid {xs : List V} {b c : Nat} (h1 : b ≤ c) (h2 : c ≤ xs.length) : cutV xs (some ((b : Nat) : Int)) (some ((c : Nat) : Int)) = (xs.drop b).take (c - b) := by
  unfold cutV
  rw [HT.sIx_nat, HT.sIx_nat, Nat.min_eq_left h2, Nat.min_eq_left (by omega)]
theorem cut_till {xs : List V} {c : Nat} : cutV xs none (some ((c : Nat) : Int)) = xs.take (min c xs.length) := by
  unfold cutV
  rw [HT.sIx_none, HT.sIx_nat, List.drop_zero, Nat.sub_zero]
/-- lists of letters, none at the place fo -/
def LX (fo : Addr) (ns : List Int) (H : Hp) (v : V) : Prop := ∃ q, v = V.ref q ∧ q ≠ fo ∧ H q = some (.lst (iv ns))
/-- words: a list of lists of letters -/
def LLs (H : Hp) (us : List V) (ws : List (List Int)) : Prop := All2 (fun v w => LI w H v) us ws
theorem LLs.same {H H' : Hp} {us : List V} {ws : List (List Int)} (h : LLs H us ws) (s : Same H H') : LLs H' us ws := h.imp fun _ _ r => r.same s
def WordsOk (ls : List Int) (ws : List (List Int)) : Prop := ws.flatten = ls ∧ (∀ w ∈ ws, w ≠ []) ∧ 1 ≤ ws.length ∧ ws.length ≤ 4
def spCut : Sp := fun vs H Q _ => ∃ (a c p : Addr) (ls : List Int) (n : Nat), vs = [.ref a, .ref p] ∧ HandAt H a c n ∧ p ≠ a ∧ H p = some (.lst (iv ls)) ∧ 1 ≤ ls.length ∧ ls.length ≤ 60 ∧ n ≤ 7000 ∧
  ∀ l H' us ws, H l = none → Drew a c (n + 70) H H' → H' l = some (.lst us) → LLs H' us ws → WordsOk ls ws → Q (.ref l) H'
abbrev sCut : Stmt := top 66
abbrev nCut : List Str := ["_law_pen_here", "_law_letters_here", "_law_many", "_law_cuts", "_law_found", "_law_begin", "_law_cut_here"]
theorem scCut : FnScope nCut ["_law_pen_here", "_law_letters_here"] (defScope sCut) := ⟨rfl, rfl, rfl, by decide +kernel, rfl, by decide +kernel, by decide +kernel⟩
section
variable {P : Program} {w : World} {K : PySem.W.Frag} {mg : Str → Option Value} {base : Heap}
theorem ok_Cut {f : Addr} {fd : FuncData} (F : Fun K "_law_cut" "_law_cut" sCut f fd) (N : TN mg)  (G_draw : Cal P w K mg base "_law_draw" 1 ["_law_pen_here", "_law_many"] (spTake)) (G_mixed : Cal P w K mg base "_law_mixed" 2 ["_law_pen_here", "_law_some"] (spMixed)) : FnOk P w K mg base CX0 3 f fd ["_law_pen_here", "_law_letters_here"] (spCut) := by
  refine F.ok scCut (fun vs H Q E h => ?_) (fun cdv A outer s H vs Q E hr h => ?_)
  · obtain ⟨a, c, p, ls, n, rfl, _⟩ := h
    rfl
  · obtain ⟨a, c, p, ls, n, rfl, hH, hpa, hp, l1, l60, hn, k⟩ := h
    refine ⟨_, pss_cons (ps_set (i := 2) scCut.nd rfl (Or.inl rfl) (pe_op op_add pe_int (pe_cal G_draw hr (by decide) (by rfl) (pa_cons (pv 0) (pa_cons (pe_callB (call_min2 rfl) (by rfl) N.min (by decide +kernel) (pa_cons pe_int (pa_cons (pe_callB call_len_seq (by rfl) N.len PySem.boot_len (pa_cons (pv 1) pa_nil)) pa_nil))) pa_nil)))))
      (pss_cons (ps_set (i := 3) scCut.nd rfl (Or.inl rfl) (pe_callB cr_sorted (by rfl) N.sorted (by decide +kernel) (pa_cons (pe_slice sl_list (pe_cal G_mixed hr (by decide) (by rfl) (pa_cons (pv 0) (pa_cons (pe_listRg rfl (by rfl) N.list (prg_2 (by rfl) N.range pe_int (pe_callB call_len_seq (by rfl) N.len PySem.boot_len (pa_cons (pv 1) pa_nil)))) pa_nil))) po_none (po_some (pe_op op_sub (pv 2) pe_int))) pa_nil)))
      (pss_cons (ps_par (i := 4) (j := 5) (by rfl) scCut.nd rfl rfl (by decide) rfl rfl (pa_cons (pe_lst pa_nil) (pa_cons pe_int pa_nil)) (by rfl))
      (pss_cons (ps_for PassesOwn.never rfl (pi_list (pe_op op_cat (pv 3) (pe_lst (pa_cons (pe_callB call_len_seq (by rfl) N.len PySem.boot_len (pa_cons (pv 1) pa_nil)) pa_nil)))) (pg_name (i := 6) scCut.nd rfl (Or.inl rfl))
      (pss_cons (ps_expr (pe_bm PySem.F.plainAttrs_list PySem.F.slot_list_append PySem.F.type_list_append mt_append (pv 4) (pa_cons (pe_slice sl_list (pv 1) (po_some (pv 5)) (po_some (pv 6))) pa_nil)))
      (pss_one (ps_set (i := 5) scCut.nd rfl (Or.inl rfl) (pv 6)))))
      (pss_one (ps_ret (pv 4)))))), ?_⟩
    have elen : ((iv ls).length : Int) = (ls.length : Int) := by rw [List.length_map]
    refine ⟨_, rfl, _, rfl, p, _, rfl, .inl (SqL.of hp), _, _, rfl, a, c, _, n, rfl, hH, by omega, ?_, ?_, fun H1 j j0 j1 hH1 hK1 => ⟨_, _, rfl, rfl, ?_⟩⟩
    · rw [elen]; split <;> omega
    · refine Nat.lt_of_le_of_lt (m := 60) ?_ (by decide)
      rw [elen]; split <;> omega
    rw [elen] at j1
    obtain ⟨jn, rfl⟩ : ∃ jn : Nat, j = (jn : Int) := ⟨j.toNat, by omega⟩
    have jn4 : jn < 4 ∧ jn < ls.length := by split at j1 <;> omega
    have D1 : Drew a c (n + 1) H H1 := ⟨hH1, hK1⟩
    have hp1 := hK1 _ _ hpa hp
    try dsimp only
    refine ⟨_, rfl, _, rfl, p, _, rfl, .inl (SqL.of hp1), _, _, rfl, rfl, ?_, fun q hq => ?_⟩
    · rw [elen]
      exact ⟨by omega, by omega, by omega, by omega⟩
    rw [elen, show (1 : Int) = ((1 : Nat) : Int) from rfl, rgV_I]
    have D2 : Drew a c (n + 1) H (L2.upd H1 q (.lst (iv (rgI 1 ls.length)))) := D1.new hq
    have lrg := rgI_len 1 ls.length
    refine ⟨a, c, q, _, n + 1, rfl, D2.1, upd_same, by rw [List.length_map]; omega, by omega, fun lm H3 ys hlm D3 hm hperm => ?_⟩
    obtain ⟨ms, pm, rfl⟩ := perm_map hperm _ rfl
    have D3' : Drew a c (n + 1 + ls.length) H H3 := (D2.trans D3).mono (by rw [List.length_map]; omega)
    refine ⟨_, rfl, _, _, rfl, rfl, _, rfl, lm, _, rfl, SqL.of hm, fun p2 hp2 => ?_⟩
    have lms := pm.length_eq
    rw [show (((1 : Nat) : Int) + (jn : Int) - ((1 : Nat) : Int)) = ((jn : Nat) : Int) by omega, cut_till, Nat.min_eq_left (by rw [List.length_map]; omega), ← List.map_take]
    refine ⟨p2, _, rfl, SqL.of upd_same, by rw [List.length_take]; omega, fun cs p3 pc sc hp3 => ?_⟩
    have hcs : ∀ z ∈ cs, 1 ≤ z ∧ z < (ls.length : Int) := fun z hz => by
      have := rgI_mem (pm.mem_iff.mp (List.mem_of_mem_take (pc.mem_iff.mp hz)))
      omega
    have ncs : cs.Nodup := pc.nodup_iff.mpr ((pm.nodup_iff.mpr (rgI_nodup _ _)).sublist (List.take_sublist _ _))
    have lcs : cs.length ≤ 3 := by
      rw [pc.length_eq, List.length_take]
      omega
    have hlt : ((0 : Int) :: (cs ++ [(ls.length : Int)])).Pairwise (· < ·) := by
      refine List.pairwise_cons.mpr ⟨fun z hz => ?_, List.pairwise_append.mpr ⟨?_, List.pairwise_singleton _ _, fun x hx y hy => ?_⟩⟩
      · rcases List.mem_append.mp hz with hz | hz
        · have := hcs z hz
          omega
        · rw [List.mem_singleton.mp hz]
          omega
      · refine (sc.and ncs).imp fun {x y} h => ?_
        have := h.1
        have := h.2
        omega
      · rw [List.mem_singleton.mp hy]
        exact (hcs x hx).2
    obtain ⟨H4, e4⟩ : ∃ H4, H4 = L2.upd (L2.upd H3 p2 (.lst (iv (ms.take jn)))) p3 (.lst (iv cs)) := ⟨_, rfl⟩
    have D4 : Drew a c (n + 1 + ls.length) H H4 := by
      rw [e4]
      exact (D3'.new hp2).new hp3
    have g4 : H4 p3 = some (.lst (iv cs)) := by rw [e4, upd_same]
    rw [← e4]
    have hp4 := D4.2 _ _ hpa hp
    refine ⟨Nat.zero_le _, fun fo hfo => ⟨_, _, rfl, ?_⟩⟩
    have fo0 : H fo = none := D4.back hfo
    have hfa := hH.ne fo0
    have hfc := hH.neC fo0
    have D5 := D4.new (o := .lst []) hfo
    have g5 : L2.upd H4 fo (.lst []) fo = some (.lst []) := upd_same
    have g53 : L2.upd H4 fo (.lst []) p3 = some (.lst (iv cs)) := by rw [upd_ne (ne_of_none g4 hfo)]; exact g4
    have hp5 : L2.upd H4 fo (.lst []) p = some (.lst (iv ls)) := by rw [upd_ne (ne_of_none hp4 hfo)]; exact hp4
    obtain ⟨H5, e5⟩ : ∃ H5, H5 = L2.upd H4 fo (.lst []) := ⟨_, rfl⟩
    rw [← e5] at D5 g5 g53 hp5 ⊢
    refine ⟨_, rfl, _, rfl, p, _, rfl, .inl (SqL.of hp5), by show 1 ≤ sizeLine; decide, fun q2 hq2 => ?_⟩
    have s6 := same_upd (o := .lst [.int ((iv ls).length : Int)]) hq2
    refine ⟨p3, q2, _, _, rfl, rfl, s6 _ _ g53, upd_same, Evl.sz_of (by rw [List.length_map]; show cs.length + 1 ≤ _; omega), fun r hr2 => ?_⟩
    have s7 := s6.trans (same_upd (o := .lst (iv cs ++ [.int ((iv ls).length : Int)])) hr2)
    have g7 : L2.upd (L2.upd H5 q2 (.lst [.int ((iv ls).length : Int)])) r (.lst (iv cs ++ [.int ((iv ls).length : Int)])) r = some (.lst (iv (cs ++ [(ls.length : Int)]))) := by
      rw [upd_same, elen]
      simp [iv]
    obtain ⟨H7, e7⟩ : ∃ H7, H7 = L2.upd (L2.upd H5 q2 (.lst [.int ((iv ls).length : Int)])) r (.lst (iv cs ++ [.int ((iv ls).length : Int)])) := ⟨_, rfl⟩
    rw [← e7] at s7 g7 ⊢
    have les : (cs ++ [(ls.length : Int)]).length ≤ 4 := by rw [List.length_append]; show cs.length + 1 ≤ 4; omega
    have nrf : r ≠ fo := fun e => by
      rw [e] at hr2
      rw [s6 _ _ g5] at hr2
      cases hr2
    refine ⟨r, rfl, ⟨_, SqL.of g7⟩, for_list (K := K) (a := r) (xs := iv (cs ++ [(ls.length : Int)])) (fun i σ H' => ∃ (v2 v6 : Option V) (b : Nat) (us : List V) (ws : List (List Int)), σ = [some (.ref a), some (.ref p), v2, some (.ref p3), some (.ref fo), some (.int (b : Int)), v6] ∧ Drew a c (n + 70) H H' ∧ H' r = some (.lst (iv (cs ++ [(ls.length : Int)]))) ∧ H' p = some (.lst (iv ls)) ∧ H' fo = some (.lst us) ∧
        All2 (fun v w => LX fo w H' v) us ws ∧ ws.flatten = ls.take b ∧ (∀ w ∈ ws, w ≠ []) ∧ ws.length = i ∧ b ≤ ls.length ∧ (b : Int) = ((0 : Int) :: (cs ++ [(ls.length : Int)])).getD i 0)
      ⟨_, none, 0, [], [], rfl, (D5.same s7).mono (by omega), g7, s7 _ _ hp5, s7 _ _ g5, .nil, rfl, fun _ h => (nomatch h), rfl, Nat.zero_le _, rfl⟩ (fun i σ H' _ ⟨_, _, _, _, _, _, _, h, _⟩ => SqL.of h) ?_ ?_⟩
    · rintro i x σ H8 hi ⟨v2, v6, b, us, ws, rfl, D8, g8, hp8, hf8, hu, hfl, hne, hlen, hb, eb⟩
      obtain ⟨z, hz, rfl⟩ : ∃ z, (cs ++ [(ls.length : Int)])[i]? = some z ∧ x = V.int z := by
        rw [List.getElem?_map] at hi
        cases e : (cs ++ [(ls.length : Int)])[i]? with
        | none => rw [e] at hi; cases hi
        | some z => rw [e] at hi; exact ⟨z, rfl, (Option.some.inj hi).symm⟩
      have hil : i < (cs ++ [(ls.length : Int)]).length := (List.getElem?_eq_some_iff.mp hz).1
      have hbz : (b : Int) < z := by
        have := List.pairwise_iff_getElem.mp hlt i (i + 1) (by rw [List.length_cons]; omega) (by rw [List.length_cons]; omega) (by omega)
        rw [List.getElem_cons_succ, (List.getElem?_eq_some_iff.mp hz).2] at this
        rw [eb, List.getD_eq_getElem?_getD, List.getElem?_eq_getElem (by rw [List.length_cons]; omega)]
        exact this
      have hzl : z ≤ (ls.length : Int) := by
        rcases List.mem_append.mp (List.mem_of_getElem? hz) with h | h
        · have := (hcs z h).2
          omega
        · rw [List.mem_singleton.mp h]
          exact Int.le_refl _
      obtain ⟨cc, rfl⟩ : ∃ cc : Nat, z = (cc : Int) := ⟨z.toNat, by omega⟩
      refine ⟨_, rfl, .inl ⟨rfl, _, SqL.of hf8⟩, _, rfl, _, rfl, _, rfl, _, rfl, _, rfl, p, _, rfl, SqL.of hp8, fun q hq => ?_⟩
      rw [cut_mid (by omega) (by rw [List.length_map]; omega), ← List.map_drop, ← List.map_take]
      have s9 := same_upd (o := .lst (iv ((ls.drop b).take (cc - b)))) hq
      have nqf : q ≠ fo := fun e => by rw [e, hf8] at hq; cases hq
      have lus := hu.length
      refine ⟨fo, us, _, rfl, rfl, s9 _ _ hf8, Evl.sz_lt (by omega), ?_⟩
      refine ⟨_, rfl, v2, _, cc, us ++ [.ref q], ws ++ [(ls.drop b).take (cc - b)], rfl, ((D8.new hq).put fo0 hfa hfc), ?_, ?_, upd_same, ?_, ?_, ?_, ?_, by omega, ?_⟩
      · rw [upd_ne nrf]; exact s9 _ _ g8
      · rw [upd_ne (fun e => by rw [e, fo0] at hp; cases hp)]; exact s9 _ _ hp8
      · refine All2.app (hu.imp fun _ _ ⟨q', e, ne, g⟩ => ⟨q', e, ne, by rw [upd_ne ne]; exact s9 _ _ g⟩) (.cons ⟨q, rfl, nqf, by rw [upd_ne nqf, upd_same]⟩ .nil)
      · rw [List.flatten_append, hfl]
        show ls.take b ++ ((ls.drop b).take (cc - b) ++ []) = ls.take cc
        rw [List.append_nil]
        have := List.take_add (l := ls) (i := b) (j := cc - b)
        rw [← this, show b + (cc - b) = cc by omega]
      · intro w hw
        rcases List.mem_append.mp hw with hw | hw
        · exact hne w hw
        · rw [List.mem_singleton.mp hw]
          intro e
          have : ((ls.drop b).take (cc - b)).length = 0 := by rw [e]; rfl
          rw [List.length_take, List.length_drop] at this
          omega
      · rw [List.length_append, hlen]
        rfl
      · show ((cc : Nat) : Int) = ((0 : Int) :: (cs ++ [(ls.length : Int)])).getD (i + 1) 0
        rw [List.getD_eq_getElem?_getD, List.getElem?_cons_succ, hz]
        rfl
    · rintro σ H8 ⟨v2, v6, b, us, ws, rfl, D8, g8, hp8, hf8, hu, hfl, hne, hlen, hb, eb⟩
      have eb2 : b = ls.length := by
        rw [List.length_map, List.getD_eq_getElem?_getD, List.length_append] at eb
        have : ((0 : Int) :: (cs ++ [(ls.length : Int)]))[cs.length + [(ls.length : Int)].length]? = some (ls.length : Int) := by
          show ((0 : Int) :: (cs ++ [(ls.length : Int)]))[cs.length + 1]? = _
          rw [List.getElem?_cons_succ, List.getElem?_append_right (Nat.le_refl _), Nat.sub_self]
          rfl
        rw [this] at eb
        show b = ls.length
        have : (b : Int) = (ls.length : Int) := eb
        omega
      subst eb2
      rw [List.take_length] at hfl
      refine ⟨_, rfl, k fo H8 us ws fo0 D8 hf8 (hu.imp fun _ _ ⟨q, e, _, g⟩ => ⟨q, e, g⟩) ⟨hfl, hne, ?_, ?_⟩⟩
      · rw [hlen, List.length_map, List.length_append]
        exact Nat.le_add_left _ _
      · rw [hlen, List.length_map]
        exact les
end
end W13
set_option Elab.async false
set_option linter.all false
set_option maxRecDepth 100000
set_option maxHeartbeats 600000
namespace W13
open PySem L2 PySem.Spec PyProof.Rows WR WB WE
def plF : List (Int × Nat) → List Int
  | [] => []
  | (k, c) :: r => (List.replicate c [k, -k]).flatten ++ plF r
theorem plF_app : ∀ xs ys : List (Int × Nat), plF (xs ++ ys) = plF xs ++ plF ys
  | [], _ => rfl
  | (k, c) :: r, ys => by
    show (List.replicate c [k, -k]).flatten ++ plF (r ++ ys) = (List.replicate c [k, -k]).flatten ++ plF r ++ plF ys
    rw [plF_app r ys, List.append_assoc]
def sumN : List (Int × Nat) → Nat
  | [] => 0
  | (_, c) :: r => c + sumN r
theorem rep_len (k : Int) : ∀ c : Nat, (List.replicate c [k, -k]).flatten.length = 2 * c
  | 0 => rfl
  | c + 1 => by
    rw [List.replicate_succ, List.flatten_cons, List.length_append, rep_len k c]
    show 2 + 2 * c = _
    omega
theorem plF_len : ∀ xs : List (Int × Nat), (plF xs).length = 2 * sumN xs
  | [] => rfl
  | (k, c) :: r => by
    show ((List.replicate c [k, -k]).flatten ++ plF r).length = 2 * (c + sumN r)
    rw [List.length_append, rep_len, plF_len r]
    omega
theorem rep_cnt (k z : Int) : ∀ c : Nat, ((List.replicate c [k, -k]).flatten.count z : Int) = c * ((if k = z then 1 else 0) + (if -k = z then 1 else 0))
  | 0 => by simp
  | c + 1 => by
    rw [List.replicate_succ, List.flatten_cons, List.count_append, Int.natCast_add, rep_cnt k z c]
    have : (([k, -k].count z : Nat) : Int) = (if k = z then 1 else 0) + (if -k = z then 1 else 0) := by
      rw [List.count_cons, List.count_cons, List.count_nil]
      by_cases h1 : k = z
      · by_cases h2 : -k = z
        · simp only [beq_iff_eq, if_pos h1, if_pos h2]; rfl
        · simp only [beq_iff_eq, if_pos h1, if_neg h2]; rfl
      · by_cases h2 : -k = z
        · simp only [beq_iff_eq, if_neg h1, if_pos h2]; rfl
        · simp only [beq_iff_eq, if_neg h1, if_neg h2]; rfl
    rw [this, Int.natCast_add, Int.add_mul]
    simp
    omega
theorem plF_cnt0 (z : Int) : ∀ xs : List (Int × Nat), ((plF xs).count z : Int) = (plF xs).count (-z)
  | [] => rfl
  | (k, c) :: r => by
    show (((List.replicate c [k, -k]).flatten ++ plF r).count z : Int) = (((List.replicate c [k, -k]).flatten ++ plF r).count (-z) : Nat)
    rw [List.count_append, List.count_append, Int.natCast_add, Int.natCast_add, plF_cnt0 z r, rep_cnt, rep_cnt]
    congr 2
    by_cases h1 : k = z <;> by_cases h2 : -k = z <;> simp [h1, h2] <;> (try split) <;> (try split) <;> omega
theorem plF_mem {z : Int} : ∀ {xs : List (Int × Nat)}, z ∈ plF xs → ∃ p ∈ xs, z = p.1 ∨ z = -p.1
  | (k, c) :: r, h => by
    rcases List.mem_append.mp h with h | h
    · obtain ⟨l, hl, hz⟩ := List.mem_flatten.mp h
      rw [List.eq_of_mem_replicate hl] at hz
      refine ⟨(k, c), List.mem_cons_self, ?_⟩
      simpa using hz
    · obtain ⟨p, hp, e⟩ := plF_mem h
      exact ⟨p, List.mem_cons_of_mem _ hp, e⟩
theorem bal_none {xs : List Int} (h : ∀ z, (xs.count z : Int) = xs.count (-z)) : Fr.bal xs = [] := by
  unfold Fr.bal
  refine List.filter_eq_nil_iff.mpr fun p hp => ?_
  obtain ⟨i, _, rfl⟩ := List.mem_map.mp hp
  have := h ((i : Int) + 1)
  show ¬ decide (Fr.cnt xs ((i : Int) + 1) ≠ 0) = true
  unfold Fr.cnt
  rw [decide_eq_true_iff]
  omega
/-- words of drawn kinds, as often as counts tell -/
structure PlainOk (cs : List Nat) (ws : List (List Int)) (ks : List Int) : Prop where
  nd : ks.Nodup
  rg : ∀ k ∈ ks, 1 ≤ k ∧ k ≤ 26
  len : ks.length = 26
  pm : ws.flatten.Perm (plF (ks.zip cs))
  ne : ∀ w ∈ ws, w ≠ []
  l1 : 1 ≤ ws.length
  l4 : ws.length ≤ 4
theorem le_sum {c : Nat} : ∀ {cs : List Nat}, c ∈ cs → c ≤ cs.sum
  | d :: r, h => by
    rw [List.sum_cons]
    rcases List.mem_cons.mp h with rfl | h
    · omega
    · have := le_sum h
      omega
theorem sum_zip : ∀ (ks : List Int) (cs : List Nat), sumN (ks.zip cs) ≤ cs.sum
  | [], _ => Nat.zero_le _
  | _ :: _, [] => Nat.zero_le _
  | k :: ks, c :: cs => by
    have := sum_zip ks cs
    rw [List.zip_cons_cons, List.sum_cons]
    show c + sumN (ks.zip cs) ≤ _
    omega
theorem PlainOk.ok {cs : List Nat} {ws : List (List Int)} {ks : List Int} (h : PlainOk cs ws ks) (hs : cs.sum ≤ 12) : RimOk ws := by
  refine ⟨h.l1, h.l4, h.ne, ?_, fun x hx => ?_, bal_none fun z => ?_⟩
  · rw [h.pm.length_eq, plF_len]
    have := sum_zip ks cs
    omega
  · obtain ⟨p, hp, e⟩ := plF_mem (h.pm.mem_iff.mp hx)
    have := h.rg p.1 (List.of_mem_zip hp).1
    omega
  · rw [h.pm.count_eq, h.pm.count_eq]
    exact plF_cnt0 z _
def spPlain : Sp := fun vs H Q _ => ∃ (a c p : Addr) (cs : List Nat) (n : Nat), vs = [.ref a, .ref p] ∧ HandAt H a c n ∧ p ≠ a ∧ H p = some (.lst (iv (nats cs))) ∧ cs.length ≤ 20 ∧ 1 ≤ cs.sum ∧ cs.sum ≤ 30 ∧ n ≤ 6000 ∧
  ∀ l H' us ws ks, H l = none → Drew a c (n + 200) H H' → H' l = some (.lst us) → LLs H' us ws → PlainOk cs ws ks → Q (.ref l) H'
abbrev sPlain : Stmt := top 67
abbrev nPlain : List Str := ["_law_pen_here", "_law_counts", "_law_kinds", "_law_letters_here", "_law_at", "_law_count"]
theorem scPlain : FnScope nPlain ["_law_pen_here", "_law_counts"] (defScope sPlain) := ⟨rfl, rfl, rfl, by decide +kernel, rfl, by decide +kernel, by decide +kernel⟩
section
variable {P : Program} {w : World} {K : PySem.W.Frag} {mg : Str → Option Value} {base : Heap}
theorem ok_Plain {f : Addr} {fd : FuncData} (F : Fun K "_law_plain" "_law_plain" sPlain f fd) (N : TN mg)  (G_cut : Cal P w K mg base "_law_cut" 3 ["_law_pen_here", "_law_letters_here"] (spCut)) (G_mixed : Cal P w K mg base "_law_mixed" 2 ["_law_pen_here", "_law_some"] (spMixed)) : FnOk P w K mg base CX0 4 f fd ["_law_pen_here", "_law_counts"] (spPlain) := by
  refine F.ok scPlain (fun vs H Q E h => ?_) (fun cdv A outer s H vs Q E hr h => ?_)
  · obtain ⟨a, c, p, cs, n, rfl, _⟩ := h
    rfl
  · obtain ⟨a, c, p, cs, n, rfl, hH, hpa, hp, l20, h1, h30, hn, k⟩ := h
    refine ⟨_, pss_cons (ps_par (i := 2) (j := 3) (by rfl) scPlain.nd rfl rfl (by decide) rfl rfl (pa_cons (pe_cal G_mixed hr (by decide) (by rfl) (pa_cons (pv 0) (pa_cons (pe_listRg rfl (by rfl) N.list (prg_2 (by rfl) N.range pe_int pe_int)) pa_nil))) (pa_cons (pe_lst pa_nil) pa_nil)) (by rfl))
      (pss_cons (ps_for PassesOwn.never rfl (pi_enum (by rfl) N.enumerate (pa_cons (pv 1) pa_nil)) (pg_tup (n := 2) rfl (pgs_cons (pg_name (i := 4) scPlain.nd rfl (Or.inl rfl)) (pgs_cons (pg_name (i := 5) scPlain.nd rfl (Or.inl rfl)) pgs_nil)))
      (pss_one (ps_set (i := 3) scPlain.nd rfl (Or.inl rfl) (pe_op op_cat (pv 3) (pe_op op_rep (pe_lst (pa_cons (pe_ix ix_list (pv 2) (pv 4) (fun _ _ => rfl)) (pa_cons (pe_un un_neg (pe_ix ix_list (pv 2) (pv 4) (fun _ _ => rfl))) pa_nil))) (pv 5))))))
      (pss_one (ps_ret (pe_cal G_cut hr (by decide) (by rfl) (pa_cons (pv 0) (pa_cons (pe_cal G_mixed hr (by decide) (by rfl) (pa_cons (pv 0) (pa_cons (pv 3) pa_nil))) pa_nil)))))), ?_⟩
    refine ⟨_, rfl, _, _, rfl, rfl, ⟨by decide, by decide, by decide, by decide, by decide⟩, fun q hq => ?_⟩
    rw [show rgV 1 27 = iv (rgI 1 27) from rgV_I 1 27]
    have D0 : Drew a c n H (L2.upd H q (.lst (iv (rgI 1 27)))) := (Drew.refl hH).new hq
    refine ⟨a, c, q, _, n, rfl, D0.1, upd_same, by rw [List.length_map, rgI_len]; decide, by omega, fun lk H1 ys hlk D1 g1 pm => ?_⟩
    obtain ⟨ks, pk, rfl⟩ := perm_map pm _ rfl
    have lks : ks.length = 26 := by rw [pk.length_eq, rgI_len]
    have D1 : Drew a c (n + 26) H H1 := (D0.trans D1).mono (by rw [List.length_map, rgI_len]; omega)
    have hp1 := D1.2 _ _ hpa hp
    refine ⟨Nat.zero_le _, fun fo hfo => ⟨_, _, rfl, ?_⟩⟩
    have s2 := same_upd (o := .lst []) hfo
    have hnc : (nats cs).length = cs.length := List.length_map ..
    refine ⟨_, rfl, p, _, rfl, SqL.of (s2 _ _ hp1), ?_⟩
    refine for_it (walk_enum (K := K) (a := p) (xs := iv (nats cs))) (fun i σ H' => ∃ (v4 v5 : Option V) (l : Addr), σ = [some (.ref a), some (.ref p), some (.ref lk), some (.ref l), v4, v5] ∧ Drew a c (n + 26) H H' ∧ H' p = some (.lst (iv (nats cs))) ∧ H' lk = some (.lst (iv ks)) ∧ H' l = some (.lst (iv (plF ((ks.zip cs).take i)))))
      ⟨none, none, fo, rfl, D1.same s2, s2 _ _ hp1, s2 _ _ g1, upd_same⟩ (fun i σ H' _ ⟨_, _, _, _, _, h, _⟩ => SqL.of h) ?_ ?_
    · rintro i x σ H3 H4 hi ⟨v4, v5, l, rfl, D3, hp3, hk3, hl3⟩ ⟨T0, xi, yi, rfl, hT0, rfl, hx, hy⟩
      have hin : i < cs.length := by rw [List.length_map, hnc] at hi; exact hi
      obtain rfl := Option.some.inj hx
      have hik : i < ks.length := by omega
      have ey : yi = V.int ((cs[i] : Nat) : Int) := by
        have hy : (iv (nats cs))[i]? = some yi := hy
        unfold nats at hy
        rw [List.getElem?_map, List.getElem?_map, List.getElem?_eq_getElem hin] at hy
        exact (Option.some.inj hy).symm
      subst ey
      have sT := same_upd (o := .tup [.int (i : Int), V.int ((cs[i] : Nat) : Int)]) hT0
      have D4 := D3.same sT
      have hp4 := sT _ _ hp3
      have hk4 := sT _ _ hk3
      have hl4 := sT _ _ hl3
      have gT : L2.upd H3 T0 (.tup [.int (i : Int), V.int ((cs[i] : Nat) : Int)]) T0 = some (.tup [.int (i : Int), V.int ((cs[i] : Nat) : Int)]) := upd_same
      obtain ⟨H4, e4⟩ : ∃ H4, H4 = L2.upd H3 T0 (.tup [.int (i : Int), V.int ((cs[i] : Nat) : Int)]) := ⟨_, rfl⟩
      rw [← e4] at D4 hp4 hk4 hl4 gT ⊢
      refine ⟨T0, _, rfl, SqT.of gT, rfl, _, _, rfl, _, _, rfl, rfl, ?_⟩
      have hat : (iv ks)[i]? = some (V.int ks[i]) := iv_get (List.getElem?_eq_getElem hik)
      have hz : (ks.zip cs)[i]? = some (ks[i], cs[i]) := by
        rw [List.getElem?_zip_eq_some]
        exact ⟨List.getElem?_eq_getElem hik, List.getElem?_eq_getElem hin⟩
      have hzl : i < (ks.zip cs).length := (List.getElem?_eq_some_iff.mp hz).1
      have hst : plF ((ks.zip cs).take (i + 1)) = plF ((ks.zip cs).take i) ++ (List.replicate cs[i] [ks[i], -ks[i]]).flatten := by
        rw [List.take_succ_eq_append_getElem hzl, plF_app, (List.getElem?_eq_some_iff.mp hz).2]
        show _ ++ ((List.replicate cs[i] [ks[i], -ks[i]]).flatten ++ []) = _
        rw [List.append_nil]
      have hcb : cs[i] ≤ 30 := by
        have := le_sum (List.getElem_mem hin)
        omega
      have hpl : (plF ((ks.zip cs).take i)).length ≤ 60 := by
        rw [plF_len]
        have h1 : sumN ((ks.zip cs).take i) ≤ cs.sum := by
          rw [List.zip_eq_zipWith, List.take_zipWith, ← List.zip_eq_zipWith]
          refine Nat.le_trans (sum_zip _ _) ?_
          have := List.take_append_drop i cs
          have e2 : (cs.take i).sum + (cs.drop i).sum = cs.sum := by rw [← List.sum_append, this]
          omega
        omega
      generalize ks[i] = z at hat hst ⊢
      generalize cs[i] = cc at hst hcb ⊢
      refine ⟨_, rfl, _, rfl, _, rfl, lk, _, _, _, rfl, rfl, SqL.of hk4, atI_nat hat, _, rfl, _, rfl, lk, _, _, _, rfl, rfl, SqL.of hk4, atI_nat hat, _, rfl, by show 2 ≤ sizeLine; decide, fun q1 hq1 => ?_⟩
      have s5 := same_upd (o := .lst [.int z, .int (-z)]) hq1
      refine ⟨_, rfl, q1, (cc : Int), _, rfl, rfl, upd_same, by omega, by omega, Evl.sz_of (by show 2 * ((cc : Nat) : Int).toNat ≤ _; omega), fun q2 hq2 => ?_⟩
      have erep : (List.replicate (((cc : Nat) : Int).toNat) [V.int z, V.int (-z)]).flatten = iv (List.replicate cc [z, -z]).flatten := by
        rw [Int.toNat_natCast]
        simp [iv]
      rw [erep]
      have s6 := s5.trans (same_upd (o := .lst (iv (List.replicate cc [z, -z]).flatten)) hq2)
      refine ⟨l, q2, _, _, rfl, rfl, s6 _ _ hl4, upd_same, Evl.sz_of (by rw [List.length_map, List.length_map, rep_len]; omega), fun q3 hq3 => ?_⟩
      have s7 := s6.trans (same_upd (o := .lst (iv (plF ((ks.zip cs).take i)) ++ iv (List.replicate cc [z, -z]).flatten)) hq3)
      refine ⟨_, _, q3, rfl, D4.same s7, s7 _ _ hp4, s7 _ _ hk4, ?_⟩
      rw [upd_same, hst]
      simp [iv]
    · rintro σ H3 ⟨v4, v5, l, rfl, D3, hp3, hk3, hl3⟩
      have lzip : (ks.zip cs).length = cs.length := by rw [List.length_zip]; omega
      rw [List.length_map, hnc, ← lzip, List.take_length] at hl3
      have lpl : (plF (ks.zip cs)).length = 2 * sumN (ks.zip cs) := plF_len _
      have hsum : sumN (ks.zip cs) = cs.sum := by
        have : ∀ (ks : List Int) (cs : List Nat), cs.length ≤ ks.length → sumN (ks.zip cs) = cs.sum := by
          intro ks
          induction ks with
          | nil => intro cs h; cases cs with | nil => rfl | cons => exact absurd h (by simp)
          | cons k ks ih =>
            intro cs h
            cases cs with
            | nil => rfl
            | cons c cs =>
              rw [List.zip_cons_cons, List.sum_cons]
              show c + sumN (ks.zip cs) = _
              rw [ih cs (by simpa using h)]
        exact this ks cs (by omega)
      refine ⟨_, rfl, _, rfl, _, rfl, a, c, l, _, n + 26, rfl, D3.1, hl3, by rw [List.length_map]; omega, by omega, fun l2 H4 ys2 hl2 D4 g4 pm2 => ?_⟩
      obtain ⟨ms, pm3, rfl⟩ := perm_map pm2 _ rfl
      have D4' := (D3.trans D4).mono (n := n + 100) (by rw [List.length_map]; omega)
      have lms := pm3.length_eq
      refine ⟨a, c, l2, ms, n + 100, rfl, D4'.1, D3.1.ne hl2, g4, by omega, by omega, by omega, fun l3 H5 us ws hl3' D5 g5 hLL hok => ?_⟩
      obtain ⟨o1, o2, o3, o4⟩ := hok
      refine k l3 H5 us ws ks (D4'.back hl3') ((D4'.trans D5).mono (by omega)) g5 hLL ⟨pk.nodup_iff.mpr (rgI_nodup _ _), fun x hx => ?_, lks, by rw [o1]; exact pm3, o2, o3, o4⟩
      have := rgI_mem (pk.mem_iff.mp hx)
      omega
end
end W13
set_option Elab.async false
set_option linter.all false
set_option maxRecDepth 100000
set_option maxHeartbeats 600000
namespace W13
open PySem L2 PySem.Spec PyProof.Rows WR WB WE
theorem all_word {K : PySem.W.Frag} {C : Addr} {H : Hp} {vs : List V} {ws : List (List Int)} (h : All2 (fun v ns => ∃ q, v = V.ref q ∧ WordAt K C H q ns) vs ws) : ∃ qs : List Addr, vs = qs.map V.ref ∧ Wds K C H qs ws := by
  induction h with
  | nil => exact ⟨[], rfl, .nil⟩
  | cons h1 _ ih =>
    obtain ⟨q, rfl, hq⟩ := h1
    obtain ⟨qs, rfl, hqs⟩ := ih
    exact ⟨q :: qs, rfl, .cons hq hqs⟩
theorem WordAt.keptL {K : PySem.W.Frag} {C : Addr} {H H' : Hp} {l p : Addr} {vs : List V} {ns : List Int} (hl : H l = some (.lst vs)) (d : Kept l H H') (h : WordAt K C H p ns) : WordAt K C H' p ns := by
  obtain ⟨dx, tl, tk, ks, h1, h2, h3, h4⟩ := h
  refine ⟨dx, tl, tk, ks, d _ _ (fun z => ?_) h1, SqB.keptL hl d h2, SqT.keptL hl d h3, h4⟩
  rw [z, hl] at h1
  cases h1
theorem pe_wordK {X : Cx} {K : PySem.W.Frag} {C : Addr} {p pos : Pos} {e : Expr} {es : List Expr} {t : TA} {j : Nat} (hK : X.K = K) (M : MkW X.prog X.w K X.mg X.base C) (T : TxW K X.mg C) (hr : Room j X.A) (hkj : 5 ≤ j) (hg : Gl X "Word") (ha : PA X (e :: es) t)
    (he : starEach (e :: es) X.env = (false, eval e X.env) :: starEach es X.env := by rfl) (hpl : (backTo pos (starEach es X.env)).any (·.1) = false := by rfl) : PE X (.Call (.Name "Word" p) (e :: es) [] pos) (tMake C (spInit K C) [] E0 t) := by
  subst hK
  exact pe_word M T hr hkj hg ha he hpl
def spLRims (K : PySem.W.Frag) (C CR : Addr) : Sp := fun vs H Q _ => ∃ (p : Addr) (us : List V) (ws : List (List Int)), vs = [.ref p] ∧ H p = some (.lst us) ∧ LLs H us ws ∧ RimOk ws ∧ ∀ q H' xs, Same H H' → RimsAt K C CR H' q xs ws → Q (.ref q) H'
abbrev sLRims : Stmt := top 68
abbrev nLRims : List Str := ["_law_words", "_law_word"]
theorem scLRims : FnScope nLRims ["_law_words"] (defScope sLRims) := ⟨rfl, rfl, rfl, by decide +kernel, rfl, by decide +kernel, by decide +kernel⟩
theorem nxF_app : ∀ (xs ys : List (List Int)) (f : Nat), nxF f (xs ++ ys) = nxF f xs ++ nxF (f + xs.flatten.length) ys
  | [], ys, f => by
    show nxF f ys = [] ++ nxF (f + 0) ys
    rw [Nat.add_zero]
    rfl
  | w :: r, ys, f => by
    show _ ++ nxF (f + w.length) (r ++ ys) = (_ ++ nxF (f + w.length) r) ++ nxF (f + (w :: r).flatten.length) ys
    rw [nxF_app r ys, List.flatten_cons, List.length_append, ← Nat.add_assoc, List.append_assoc]
theorem nx_one {w : List Int} (h : w ≠ []) (f : Nat) : nxF f [w] = rgI (f + 1) (f + w.length) ++ [(f : Int)] := by
  have hl : 0 < w.length := List.length_pos_iff.mpr h
  obtain ⟨m, hm⟩ : ∃ m, w.length = m + 1 := ⟨w.length - 1, by omega⟩
  show ((List.range w.length).map fun (t : Nat) => (f : Int) + (((t + 1) % w.length : Nat) : Int)) ++ [] = _
  rw [List.append_nil, hm, List.range_succ, List.map_append]
  unfold rgI
  rw [show f + (m + 1) - (f + 1) = m by omega]
  congr 1
  · refine List.map_congr_left fun i hi => ?_
    have := List.mem_range.mp hi
    rw [Nat.mod_eq_of_lt (by omega)]
    omega
  · show [(f : Int) + (((m + 1) % (m + 1) : Nat) : Int)] = _
    rw [Nat.mod_self]
    simp
def spNx : Sp := fun vs H Q _ => ∃ (p : Addr) (us : List V) (ws : List (List Int)), vs = [.ref p] ∧ H p = some (.lst us) ∧ LLs H us ws ∧ (∀ w ∈ ws, w ≠ []) ∧ ws.flatten.length ≤ 60 ∧ ∀ l H', H l = none → Same H H' → H' l = some (.lst (iv (nxF 0 ws))) → Q (.ref l) H'
abbrev sNx : Stmt := top 69
abbrev nNx : List Str := ["_law_words", "_law_found", "_law_word", "_law_begin"]
theorem scNx : FnScope nNx ["_law_words"] (defScope sNx) := ⟨rfl, rfl, rfl, by decide +kernel, rfl, by decide +kernel, by decide +kernel⟩
def spLets : Sp := fun vs H Q _ => ∃ (p : Addr) (us : List V) (ws : List (List Int)), vs = [.ref p] ∧ H p = some (.lst us) ∧ LLs H us ws ∧ ws.flatten.length ≤ 60 ∧ ∀ l H', H l = none → Same H H' → H' l = some (.lst (iv ws.flatten)) → Q (.ref l) H'
abbrev sLets : Stmt := top 71
abbrev nLets : List Str := ["_law_words", "_law_found", "_law_word"]
theorem scLets : FnScope nLets ["_law_words"] (defScope sLets) := ⟨rfl, rfl, rfl, by decide +kernel, rfl, by decide +kernel, by decide +kernel⟩
theorem ret_mk_lc {C : Addr} {sq : Sp} {wi : TI} {g : TG} {tt : TT} {te : TE} {vs : List Nat} {D : Ends} {σ : L2.St} {H : Hp}
    (h : wi σ H fun J H1 => tLc (fun _ H R => R J H) g tt te vs σ H1 fun y H2 => tMake C sq [] E0 (fun _ H Q => Q [y] H) σ H2 D.rt) : tRet (tMake C sq [] E0 (tCons (tLc wi g tt te vs) tNil)) D σ H := h
section
variable {P : Program} {w : World} {K : PySem.W.Frag} {mg : Str → Option Value} {base : Heap} {C CR : Addr}
theorem ok_LRims {f : Addr} {fd : FuncData} (F : Fun K "_law_rims" "_law_rims" sLRims f fd) (N : TN mg) (T : TxW K mg C) (TC : TxRC K mg CR) (MW : MkW P w K mg base C) (MR : MkR P w K mg base C CR)  : FnOk P w K mg base CX0 6 f fd ["_law_words"] (spLRims K C CR) := by
  refine F.ok scLRims (fun vs H Q E h => ?_) (fun cdv A outer s H vs Q E hr h => ?_)
  · obtain ⟨p, us, ws, rfl, _⟩ := h
    rfl
  · obtain ⟨p, us, ws, rfl, hp, hu, ok, k⟩ := h
    refine ⟨_, pss_one (ps_ret (pe_rims (mg := mg) MR TC hr (by decide) (by rfl) (pa_cons (pe_lc (own := [("_law_word", 1)]) (g := gName 1) (tt := tYes) rfl scLRims.nd (pi_list (pv 0)) (blkOk_by (N := nLRims) (sc := defScope sLRims) (by decide +kernel)) (fun _ _ _ _ _ => (pg_name (i := 1) scLRims.nd rfl (Or.inl rfl))) (fun _ _ _ _ _ => pts_nil) (fun _ _ _ _ _ => (pe_wordK (K := K) rfl MW T hr (by decide) (by rfl) (pa_cons (pv 1) pa_nil)))) pa_nil))), ?_⟩
    obtain ⟨o1, o2, o3, o4, o5, o6⟩ := id ok
    have lu := hu.length
    refine ret_mk_lc ?_
    refine ⟨_, rfl, p, rfl, ⟨_, SqL.of hp⟩, ?_⟩
    refine lcM (walk_list (K := K) (a := p) (xs := us)) ws (fun _ H v ns => ∃ q, v = V.ref q ∧ WordAt K C H q ns) (fun _ _ _ _ _ ⟨q, e, h⟩ s => ⟨q, e, h.same s⟩) ?_ (by omega) lu (fun H s => SqL.of (s _ _ hp)) ?_ (fun x σ1 H A B k h => gName_mono k h) ?_
    · rintro D2 H5 ws5 o v ns hD5 ⟨q, e, h⟩
      exact ⟨q, e, h.keptL hD5 Kept.upd⟩
    · intro i x u hx hu' D2 H5 hD2 _ s5 Qy ky
      obtain ⟨u', hu2, ⟨q, rfl, hq⟩⟩ := hu.at hx
      obtain rfl : u' = u := Option.some.inj (hu2.symm.trans hu')
      have hmem := List.mem_of_getElem? hu'
      have hlu : u'.length ≤ 24 := Nat.le_trans (word_le hmem) o4
      refine ⟨rfl, _, rfl, fun xw dxw nx ndx _ => make_at nx ndx (.inl (SqL.of (s5 _ _ hq))) (by omega) (o5.word hmem) fun H6 s6 W6 => ?_⟩
      exact ky _ H6 s6 ⟨xw, rfl, W6⟩
    intro D2 H5 vs2 hD2 s5 h5 r5
    obtain ⟨qs, eqs, hW⟩ := all_word r5
    rw [eqs] at h5
    intro px dpx npx ndpx _
    exact rims_at npx ndpx (SqL.of h5) hW ok fun H6 s6 R6 => k px H6 qs (s5.trans s6) R6
theorem ok_Nx {f : Addr} {fd : FuncData} (F : Fun K "_law_nexts" "_law_nexts" sNx f fd) (N : TN mg)   : FnOk P w K mg base CX0 1 f fd ["_law_words"] (spNx) := by
  refine F.ok scNx (fun vs H Q E h => ?_) (fun cdv A outer s H vs Q E hr h => ?_)
  · obtain ⟨p, us, ws, rfl, _⟩ := h
    rfl
  · obtain ⟨p, us, ws, rfl, hp, hu, hne, l60, k⟩ := h
    refine ⟨_, pss_cons (ps_set (i := 1) scNx.nd rfl (Or.inl rfl) (pe_lst pa_nil))
      (pss_cons (ps_for PassesOwn.never rfl (pi_list (pv 0)) (pg_name (i := 2) scNx.nd rfl (Or.inl rfl))
      (pss_cons (ps_set (i := 3) scNx.nd rfl (Or.inl rfl) (pe_callB call_len_seq (by rfl) N.len PySem.boot_len (pa_cons (pv 1) pa_nil)))
      (pss_one (ps_set (i := 1) scNx.nd rfl (Or.inl rfl) (pe_op op_cat (pe_op op_cat (pv 1) (pe_listRg rfl (by rfl) N.list (prg_2 (by rfl) N.range (pe_op op_add (pv 3) pe_int) (pe_op op_add (pv 3) (pe_callB call_len_seq (by rfl) N.len PySem.boot_len (pa_cons (pv 2) pa_nil)))))) (pe_lst (pa_cons (pv 3) pa_nil)))))))
      (pss_one (ps_ret (pv 1)))), ?_⟩
    have lu := hu.length
    refine ⟨Nat.zero_le _, fun fo hfo => ?_⟩
    have s1 := same_upd (o := .lst []) hfo
    refine ⟨_, rfl, p, rfl, ⟨_, SqL.of (s1 _ _ hp)⟩, for_list (K := K) (a := p) (xs := us) (fun i σ H' => ∃ (v2 v3 : Option V) (l : Addr), σ = [some (.ref p), some (.ref l), v2, v3] ∧ Same H H' ∧ H l = none ∧ H' l = some (.lst (iv (nxF 0 (ws.take i)))))
      ⟨none, none, fo, rfl, s1, hfo, upd_same⟩ (fun i σ H' _ ⟨_, _, _, _, s, _⟩ => SqL.of (s _ _ hp)) ?_ ?_⟩
    · rintro i x σ H3 hi ⟨v2, v3, l, rfl, s3, hl0, hl3⟩
      obtain ⟨u, hu2, ⟨q, rfl, hq⟩⟩ := hu.at hi
      have hil : i < ws.length := (List.getElem?_eq_some_iff.mp hu2).1
      have hmem := List.mem_of_getElem? hu2
      have hun := hne u hmem
      have hq3 := s3 _ _ hq
      have el : (nxF 0 (ws.take i)).length = (ws.take i).flatten.length := nxF_len _ _
      have hfl : (ws.take i).flatten.length + u.length ≤ 60 := by
        have e2 : (ws.take (i + 1)).flatten.length ≤ 60 := by
          refine Nat.le_trans ?_ l60
          have := congrArg (fun z : List (List Int) => z.flatten.length) (List.take_append_drop (i + 1) ws)
          rw [List.flatten_append, List.length_append] at this
          omega
        rw [List.take_succ_eq_append_getElem hil, (List.getElem?_eq_some_iff.mp hu2).2, List.flatten_append, List.length_append] at e2
        simpa using e2
      have hst : nxF 0 (ws.take (i + 1)) = nxF 0 (ws.take i) ++ (rgI ((ws.take i).flatten.length + 1) ((ws.take i).flatten.length + u.length) ++ [(((ws.take i).flatten.length : Nat) : Int)]) := by
        rw [List.take_succ_eq_append_getElem hil, (List.getElem?_eq_some_iff.mp hu2).2, nxF_app, nx_one hun, Nat.zero_add]
      generalize hb : (ws.take i).flatten.length = b at el hfl hst
      refine ⟨_, rfl, l, _, rfl, .inl (SqL.of hl3), ?_⟩
      rw [List.length_map, el]
      try dsimp only
      refine ⟨_, rfl, _, rfl, _, _, rfl, rfl, _, rfl, _, rfl, q, _, rfl, .inl (SqL.of hq3), _, _, rfl, rfl, _, _, rfl, rfl, ⟨by omega, by omega, by omega, by rw [List.length_map]; omega, by rw [List.length_map]; omega⟩, fun q1 hq1 => ?_⟩
      rw [show (b : Int) + 1 = ((b + 1 : Nat) : Int) by omega, List.length_map, show (b : Int) + (u.length : Int) = ((b + u.length : Nat) : Int) by omega, rgV_I]
      have s4 := same_upd (o := .lst (iv (rgI (b + 1) (b + u.length)))) hq1
      refine ⟨l, q1, _, _, rfl, rfl, s4 _ _ hl3, upd_same, Evl.sz_of (by rw [List.length_map, List.length_map, rgI_len]; omega), fun q2 hq2 => ?_⟩
      have s5 := s4.trans (same_upd (o := .lst (iv (nxF 0 (ws.take i)) ++ iv (rgI (b + 1) (b + u.length)))) hq2)
      refine ⟨_, rfl, by show 1 ≤ sizeLine; decide, fun q3 hq3' => ?_⟩
      have s6 := s5.trans (same_upd (o := .lst [.int (b : Int)]) hq3')
      have g2 : L2.upd (L2.upd H3 q1 (.lst (iv (rgI (b + 1) (b + u.length))))) q2 (.lst (iv (nxF 0 (ws.take i)) ++ iv (rgI (b + 1) (b + u.length)))) q2 = some (.lst (iv (nxF 0 (ws.take i)) ++ iv (rgI (b + 1) (b + u.length)))) := upd_same
      refine ⟨q2, q3, _, _, rfl, rfl, (same_upd hq3') _ _ g2, upd_same, Evl.sz_of (by rw [List.length_append, List.length_map, List.length_map, rgI_len]; show _ + 1 ≤ _; omega), fun q4 hq4 => ?_⟩
      refine ⟨_, _, q4, rfl, s3.trans (s6.trans (same_upd hq4)), (s3.trans s6).free hq4, ?_⟩
      rw [upd_same, hst]
      simp [iv]
    · rintro σ H3 ⟨v2, v3, l, rfl, s3, hl0, hl3⟩
      rw [lu, List.take_length] at hl3
      exact ⟨_, rfl, k l H3 hl0 s3 hl3⟩
theorem ok_Lets {f : Addr} {fd : FuncData} (F : Fun K "_law_letters" "_law_letters" sLets f fd) (N : TN mg)   : FnOk P w K mg base CX0 1 f fd ["_law_words"] (spLets) := by
  refine F.ok scLets (fun vs H Q E h => ?_) (fun cdv A outer s H vs Q E hr h => ?_)
  · obtain ⟨p, us, ws, rfl, _⟩ := h
    rfl
  · obtain ⟨p, us, ws, rfl, hp, hu, l60, k⟩ := h
    refine ⟨_, pss_cons (ps_set (i := 1) scLets.nd rfl (Or.inl rfl) (pe_lst pa_nil))
      (pss_cons (ps_for PassesOwn.never rfl (pi_list (pv 0)) (pg_name (i := 2) scLets.nd rfl (Or.inl rfl))
      (pss_one (ps_set (i := 1) scLets.nd rfl (Or.inl rfl) (pe_op op_cat (pv 1) (pe_callTy call_list_of (by rfl) N.list (by decide +kernel) (pa_cons (pv 2) pa_nil))))))
      (pss_one (ps_ret (pv 1)))), ?_⟩
    have lu := hu.length
    refine ⟨Nat.zero_le _, fun fo hfo => ?_⟩
    have s1 := same_upd (o := .lst []) hfo
    refine ⟨_, rfl, p, rfl, ⟨_, SqL.of (s1 _ _ hp)⟩, for_list (K := K) (a := p) (xs := us) (fun i σ H' => ∃ (v2 : Option V) (l : Addr), σ = [some (.ref p), some (.ref l), v2] ∧ Same H H' ∧ H l = none ∧ H' l = some (.lst (iv (ws.take i).flatten)))
      ⟨none, fo, rfl, s1, hfo, upd_same⟩ (fun i σ H' _ ⟨_, _, _, s, _⟩ => SqL.of (s _ _ hp)) ?_ ?_⟩
    · rintro i x σ H3 hi ⟨v2, l, rfl, s3, hl0, hl3⟩
      obtain ⟨u, hu2, ⟨q, rfl, hq⟩⟩ := hu.at hi
      have hil : i < ws.length := (List.getElem?_eq_some_iff.mp hu2).1
      have hq3 := s3 _ _ hq
      have hst : (ws.take (i + 1)).flatten = (ws.take i).flatten ++ u := by
        rw [List.take_succ_eq_append_getElem hil, (List.getElem?_eq_some_iff.mp hu2).2, List.flatten_append]
        simp
      have hfl : (ws.take i).flatten.length + u.length ≤ 60 := by
        rw [← List.length_append, ← hst]
        refine Nat.le_trans ?_ l60
        have := congrArg (fun z : List (List Int) => z.flatten.length) (List.take_append_drop (i + 1) ws)
        rw [List.flatten_append, List.length_append] at this
        omega
      refine ⟨_, rfl, _, rfl, q, _, rfl, .inl (SqL.of hq3), fun q1 hq1 => ?_⟩
      have s4 := same_upd (o := .lst (iv u)) hq1
      refine ⟨l, q1, _, _, rfl, rfl, s4 _ _ hl3, upd_same, Evl.sz_of (by rw [List.length_map, List.length_map]; omega), fun q4 hq4 => ?_⟩
      refine ⟨_, q4, rfl, s3.trans (s4.trans (same_upd hq4)), (s3.trans s4).free hq4, ?_⟩
      rw [upd_same, hst]
      simp [iv]
    · rintro σ H3 ⟨v2, l, rfl, s3, hl0, hl3⟩
      rw [lu, List.take_length] at hl3
      exact ⟨_, rfl, k l H3 hl0 s3 hl3⟩
end
end W13
set_option Elab.async false
set_option linter.all false
set_option maxRecDepth 100000
set_option maxHeartbeats 600000
namespace W13
open PySem L2 PySem.Spec PyProof.Rows WR WB WE
theorem inV_nats {p : Nat} {s : List Nat} : inV (.int (p : Int)) (iv (nats s)) = decide (p ∈ s) := by
  unfold inV iv nats
  rw [List.map_map, List.any_map, Bool.eq_iff_iff, List.any_eq_true, decide_eq_true_iff]
  constructor
  · rintro ⟨x, hx, e⟩
    have : V.int ((x : Nat) : Int) = V.int (p : Int) := by
      have e : eqV (V.int ((x : Nat) : Int)) (V.int (p : Int)) = true := e
      simpa [eqV] using e
    injection this with this
    have : x = p := by omega
    exact this ▸ hx
  · intro h
    refine ⟨p, h, ?_⟩
    show eqV (V.int ((p : Nat) : Int)) (V.int (p : Int)) = true
    simp [eqV]
theorem flat_nats (s : List Nat) : (iv (nats s)).all flatV = true := by
  unfold iv nats
  rw [List.map_map, List.all_eq_true]
  intro x hx
  obtain ⟨y, _, rfl⟩ := List.mem_map.mp hx
  rfl
def spCorL (K : PySem.W.Frag) : Sp := fun vs H Q _ => ∃ (p m : Addr) (us : List V) (ws : List (List Int)) (mt : List Int), vs = [.ref p, .ref m] ∧ H p = some (.lst us) ∧ LLs H us ws ∧ (∀ w ∈ ws, w ≠ []) ∧ ws.flatten.length ≤ 60 ∧ SqE K H m (iv mt) ∧ MatesOk ws.flatten.length mt ∧
  ∀ q H', Same H H' → CornAt K H' q (cornF ws mt) → Q (.ref q) H'
abbrev sCorL : Stmt := top 70
abbrev nCorL : List Str := ["_law_words", "_law_mates", "_law_nexts_here", "_law_found", "_law_known", "_law_place", "_law_corner", "_law_at"]
theorem scCorL : FnScope nCorL ["_law_words", "_law_mates"] (defScope sCorL) := ⟨rfl, rfl, rfl, by decide +kernel, rfl, by decide +kernel, by decide +kernel⟩
section
variable {P : Program} {w : World} {K : PySem.W.Frag} {mg : Str → Option Value} {base : Heap} {C CR : Addr}
theorem ok_CorL {f : Addr} {fd : FuncData} (F : Fun K "_law_corners" "_law_corners" sCorL f fd) (N : TN mg)  (G_nexts : Cal P w K mg base "_law_nexts" 1 ["_law_words"] (spNx)) : FnOk P w K mg base CX0 2 f fd ["_law_words", "_law_mates"] (spCorL K) := by
  refine F.ok scCorL (fun vs H Q E h => ?_) (fun cdv A outer s H vs Q E hr h => ?_)
  · obtain ⟨p, m, us, ws, mt, rfl, _⟩ := h
    rfl
  · obtain ⟨p, m, us, ws, mt, rfl, hp, hu, hne, l60, hM, ⟨lm, hm⟩, k⟩ := h
    refine ⟨_, pss_cons (ps_par3 (i := 2) (j := 3) (l := 4) (by rfl) scCorL.nd rfl rfl rfl (by decide) (by decide) (by decide) rfl rfl rfl (pa_cons (pe_cal G_nexts hr (by decide) (by rfl) (pa_cons (pv 0) pa_nil)) (pa_cons (pe_lst pa_nil) (pa_cons (pe_lst pa_nil) pa_nil))) (by rfl))
      (pss_cons (ps_for PassesOwn.never rfl (pi_range1 (by rfl) N.range (pa_cons (pe_callB call_len_seq (by rfl) N.len PySem.boot_len (pa_cons (pv 1) pa_nil)) pa_nil)) (pg_name (i := 5) scCorL.nd rfl (Or.inl rfl))
      (pss_cons (ps_par (i := 6) (j := 7) (by rfl) scCorL.nd rfl rfl (by decide) rfl rfl (pa_cons (pe_lst pa_nil) (pa_cons (pv 5) pa_nil)) (by rfl))
      (pss_cons (ps_while PassesOwn.never (pt_cmpR op_notIn_seq (pv 7) (pv 4) (by rfl))
      (pss_cons (ps_expr (pe_bm PySem.F.plainAttrs_list PySem.F.slot_list_append PySem.F.type_list_append mt_append (pv 4) (pa_cons (pv 7) pa_nil)))
      (pss_cons (ps_expr (pe_bm PySem.F.plainAttrs_list PySem.F.slot_list_append PySem.F.type_list_append mt_append (pv 6) (pa_cons (pv 7) pa_nil)))
      (pss_one (ps_set (i := 7) scCorL.nd rfl (Or.inl rfl) (pe_ix ix_list (pv 2) (pe_ix (ixA (K := K) rfl) (pv 1) (pv 7) (fun _ _ => rfl)) (fun _ _ => rfl)))))))
      (pss_one (ps_if (pt_cmpR (op_neD hr.units) (pv 6) (pe_lst pa_nil) (nomark _)) (pss_one (ps_expr (pe_bm PySem.F.plainAttrs_list PySem.F.slot_list_append PySem.F.type_list_append mt_append (pv 3) (pa_cons (pe_callTy call_tupB (by rfl) N.tuple (by decide +kernel) (pa_cons (pv 6) pa_nil)) pa_nil)))) pss_nil)))))
      (pss_one (ps_ret (pe_callTy call_tupB (by rfl) N.tuple (by decide +kernel) (pa_cons (pv 3) pa_nil))))), ?_⟩
    obtain ⟨n, en⟩ : ∃ n, n = ws.flatten.length := ⟨_, rfl⟩
    unfold cornF at k
    rw [← en] at lm hm k l60
    have hnx : (nxF 0 ws).length = n := by rw [nxF_len, en]
    refine ⟨_, rfl, p, us, ws, rfl, hp, hu, hne, by omega, fun nx H1 hnx0 s1 g1 => ?_⟩
    refine ⟨Nat.zero_le _, fun lf hlf => ?_⟩
    have s2 := same_upd (o := .lst []) hlf
    have g12 := s2 _ _ g1
    have gf2 : L2.upd H1 lf (.lst []) lf = some (.lst []) := upd_same
    have nxf : nx ≠ lf := ne_of_none g1 hlf
    obtain ⟨H2, e2⟩ : ∃ H2, H2 = L2.upd H1 lf (.lst []) := ⟨_, rfl⟩
    rw [← e2] at s2 g12 gf2 ⊢
    refine ⟨Nat.zero_le _, fun lk hlk => ⟨_, _, _, rfl, ?_⟩⟩
    have s3 := same_upd (o := .lst []) hlk
    have nxk : nx ≠ lk := ne_of_none g12 hlk
    have nfk : lf ≠ lk := ne_of_none gf2 hlk
    have f0 : H lf = none := s1.free hlf
    have k0 : H lk = none := (s1.trans s2).free hlk
    have s123 := (s1.trans s2).trans s3
    refine ⟨_, rfl, m, _, rfl, hM.same s123, _, rfl, by rw [List.length_map]; omega, by rw [List.length_map]; omega, ?_⟩
    rw [List.length_map, lm]
    refine for_range (lo := 0) (n := ((n : Nat) : Int).toNat) (fun i σ H' => ∃ (v5 v6 v7 : Option V) (vs : List V) (kn : List Nat), σ = [some (.ref p), some (.ref m), some (.ref nx), some (.ref lf), some (.ref lk), v5, v6, v7] ∧ Same H H' ∧ H' nx = some (.lst (iv (nxF 0 ws))) ∧ H' lf = some (.lst vs) ∧ H' lk = some (.lst (iv (nats kn))) ∧
        (∀ x, x ∈ kn ↔ x ∈ (crn (nxF 0 ws) mt n i).1) ∧ kn.length = (crn (nxF 0 ws) mt n i).1.length ∧ SeenOk n (crn (nxF 0 ws) mt n i).1 ∧ vs.length ≤ i ∧ All2 (fun v c => ∃ q, v = V.ref q ∧ SqB K H' q (iv (nats c))) vs (crn (nxF 0 ws) mt n i).2)
      ⟨none, none, none, [], [], rfl, s123, s3 _ _ g12, s3 _ _ gf2, upd_same, (fun x => Iff.rfl), rfl, ⟨List.nodup_nil, fun _ h => nomatch h⟩, Nat.le_refl _, .nil⟩ ?_ ?_
    · rintro i σ H3 hi ⟨v5, v6, v7, vs, kn, rfl, sm, gx, gf, gk, hmem, hlen, hso, lvs, hcs⟩
      rw [Int.toNat_natCast] at hi
      refine ⟨Nat.zero_le _, fun lc hlc => ⟨_, rfl, _, _, rfl, ?_⟩⟩
      have s4 := same_upd (o := .lst []) hlc
      have nxc : nx ≠ lc := ne_of_none gx hlc
      have nfc : lf ≠ lc := ne_of_none gf hlc
      have nkc : lk ≠ lc := ne_of_none gk hlc
      have c0 : H lc = none := sm.free hlc
      refine while_by (fun σ H4 => ∃ (k pl : Nat) (s c kn : List Nat), σ = [some (.ref p), some (.ref m), some (.ref nx), some (.ref lf), some (.ref lk), some (.int (0 + (i : Nat))), some (.ref lc), some (.int (pl : Int))] ∧ Same H H4 ∧ H4 nx = some (.lst (iv (nxF 0 ws))) ∧ H4 lf = some (.lst vs) ∧ H4 lk = some (.lst (iv (nats kn))) ∧
          (∀ x, x ∈ kn ↔ x ∈ s) ∧ kn.length = s.length ∧ SeenOk n s ∧ pl < n ∧ H4 lc = some (.lst (iv (nats c))) ∧ c.length ≤ s.length ∧ All2 (fun v c => ∃ q, v = V.ref q ∧ SqB K H4 q (iv (nats c))) vs (crn (nxF 0 ws) mt n i).2 ∧
          orb (nxF 0 ws) mt k s pl c = orb (nxF 0 ws) mt (n + 1) (crn (nxF 0 ws) mt n i).1 i [] ∧ n - s.length < k)
        (fun _ H4 => match H4 lc with | some (.lst xs) => n + 1 - xs.length | _ => 0) ?_ ?_ ?_
      · exact ⟨n + 1, i, (crn (nxF 0 ws) mt n i).1, [], kn, by rw [Int.zero_add]; rfl, sm.trans s4, s4 _ _ gx, s4 _ _ gf, s4 _ _ gk, hmem, hlen, hso, hi, upd_same, Nat.zero_le _, hcs.imp fun _ _ ⟨q, e, r⟩ => ⟨q, e, SqB.same s4 r⟩, rfl, by omega⟩
      · rintro σ H4 ⟨kk, pl, s, c, kn, rfl, sm4, gx4, gf4, gk4, hme4, hle4, hok, hpl, hL, lcs, hcs4, eo, hkk⟩
        refine ⟨_, rfl, _, rfl, lk, _, rfl, .inl (SqL.of gk4), rfl, flat_nats kn, _, rfl, ?_⟩
        show if (!inV (.int (pl : Int)) (iv (nats kn))) = true then _ else _
        rw [inV_nats]
        by_cases hin : pl ∈ s
        · refine iteF' (by rw [decide_eq_true ((hme4 pl).mpr hin)]; rfl) ?_
          rw [orb_in (by omega) hin] at eo
          have f1 : (crn (nxF 0 ws) mt n (i + 1)).1 = s := by
            show (orb (nxF 0 ws) mt (n + 1) (crn (nxF 0 ws) mt n i).1 i []).1 = s
            rw [← eo]
          have f2 : (crn (nxF 0 ws) mt n (i + 1)).2 = if c = [] then (crn (nxF 0 ws) mt n i).2 else (crn (nxF 0 ws) mt n i).2 ++ [c] := by
            show (if (orb (nxF 0 ws) mt (n + 1) (crn (nxF 0 ws) mt n i).1 i []).2 = [] then _ else _ ++ [(orb (nxF 0 ws) mt (n + 1) (crn (nxF 0 ws) mt n i).1 i []).2]) = _
            rw [← eo]
          have lvn : (nats c).length = c.length := List.length_map ..
          refine ⟨_, rfl, Nat.zero_le _, fun q0 hq0 => ?_⟩
          have s5 := same_upd (o := .lst []) hq0
          refine ⟨.list ((nats c).map PyData.int), .list [], .lst (SqL.of (s5 _ _ hL)) (dpInts (nats c)), .lst (SqL.of upd_same) .nil, PySem.W.ke_shaped_ints (nats c), rfl, _, rfl, ?_⟩
          have gx5 := s5 _ _ gx4
          have gf5 := s5 _ _ gf4
          have gk5 := s5 _ _ gk4
          have hL5 := s5 _ _ hL
          have hcs5 : All2 (fun v c => ∃ q, v = V.ref q ∧ SqB K (L2.upd H4 q0 (.lst [])) q (iv (nats c))) vs (crn (nxF 0 ws) mt n i).2 := hcs4.imp fun _ _ ⟨q, e, r⟩ => ⟨q, e, SqB.same s5 r⟩
          have sm5 := sm4.trans s5
          generalize L2.upd H4 q0 (.lst []) = H5 at gx5 gf5 gk5 hL5 hcs5 sm5 ⊢
          by_cases hc : c = []
          · subst hc
            refine iteF' rfl ?_
            exact ⟨_, _, _, vs, kn, rfl, sm5, gx5, gf5, gk5, (by rw [f1]; exact hme4), (by rw [f1]; exact hle4), (by rw [f1]; exact hok), by omega, by rw [f2, if_pos rfl]; exact hcs5⟩
          · refine iteT' (by
              cases c with
              | nil => exact absurd rfl hc
              | cons => rfl) ?_
            refine ⟨_, rfl, .inl ⟨rfl, _, SqL.of gf5⟩, _, rfl, lc, _, rfl, .inl ⟨SqL.of hL5, fun q H6 s6 B6 => ?_⟩⟩
            have gf6 := s6 _ _ gf5
            refine ⟨lf, vs, _, rfl, rfl, gf6, Evl.sz_lt (by omega), ?_⟩
            refine ⟨_, _, _, vs ++ [.ref q], kn, rfl, fun b o e => ?_, ?_, upd_same, ?_, (by rw [f1]; exact hme4), (by rw [f1]; exact hle4), (by rw [f1]; exact hok), by rw [List.length_append]; exact Nat.succ_le_succ lvs, ?_⟩
            · rw [upd_ne (ne_of_none e f0)]
              exact s6 _ _ (sm5 _ _ e)
            · rw [upd_ne nxf]; exact s6 _ _ gx5
            · rw [upd_ne nfk.symm]; exact s6 _ _ gk5
            · rw [f2, if_neg hc]
              exact All2.app (hcs5.imp fun _ _ ⟨q', e, r⟩ => ⟨q', e, SqB.keptL gf6 Kept.upd (SqB.same s6 r)⟩) (.cons ⟨q, rfl, SqB.keptL gf6 Kept.upd B6⟩ .nil)
        · have hsl := hok.lt hpl hin
          refine iteT' (by rw [decide_eq_false fun z => hin ((hme4 pl).mp z)]; rfl) ?_
          have lkn : (iv (nats kn)).length = kn.length := by unfold iv nats; rw [List.length_map, List.length_map]
          have lcn : (iv (nats c)).length = c.length := by unfold iv nats; rw [List.length_map, List.length_map]
          refine ⟨_, rfl, .inl ⟨rfl, _, SqL.of gk4⟩, _, rfl, lk, _, _, rfl, rfl, gk4, Evl.sz_lt (by rw [lkn]; omega), ?_⟩
          have gx5 : L2.upd H4 lk (.lst (iv (nats kn) ++ [.int (pl : Int)])) nx = some (.lst (iv (nxF 0 ws))) := by rw [upd_ne nxk]; exact gx4
          have gf5 : L2.upd H4 lk (.lst (iv (nats kn) ++ [.int (pl : Int)])) lf = some (.lst vs) := by rw [upd_ne nfk]; exact gf4
          have hL5 : L2.upd H4 lk (.lst (iv (nats kn) ++ [.int (pl : Int)])) lc = some (.lst (iv (nats c))) := by rw [upd_ne nkc.symm]; exact hL
          have gk5 : L2.upd H4 lk (.lst (iv (nats kn) ++ [.int (pl : Int)])) lk = some (.lst (iv (nats (kn ++ [pl])))) := by
            rw [upd_same]
            simp [iv, nats]
          have sm5 : Same H (L2.upd H4 lk (.lst (iv (nats kn) ++ [.int (pl : Int)]))) := fun b o e => by
            rw [upd_ne (ne_of_none e k0)]
            exact sm4 _ _ e
          have hcs5 : All2 (fun v c => ∃ q, v = V.ref q ∧ SqB K (L2.upd H4 lk (.lst (iv (nats kn) ++ [.int (pl : Int)]))) q (iv (nats c))) vs (crn (nxF 0 ws) mt n i).2 := hcs4.imp fun _ _ ⟨q', e, r⟩ => ⟨q', e, SqB.keptL gk4 Kept.upd r⟩
          generalize L2.upd H4 lk (.lst (iv (nats kn) ++ [.int (pl : Int)])) = H5 at gx5 gf5 gk5 hL5 sm5 hcs5 ⊢
          refine ⟨_, rfl, .inl ⟨rfl, _, SqL.of hL5⟩, _, rfl, lc, _, _, rfl, rfl, hL5, Evl.sz_lt (by rw [lcn]; omega), ?_⟩
          have gx6 : L2.upd H5 lc (.lst (iv (nats c) ++ [.int (pl : Int)])) nx = some (.lst (iv (nxF 0 ws))) := by rw [upd_ne nxc]; exact gx5
          have gf6 : L2.upd H5 lc (.lst (iv (nats c) ++ [.int (pl : Int)])) lf = some (.lst vs) := by rw [upd_ne nfc]; exact gf5
          have gk6 : L2.upd H5 lc (.lst (iv (nats c) ++ [.int (pl : Int)])) lk = some (.lst (iv (nats (kn ++ [pl])))) := by rw [upd_ne nkc]; exact gk5
          have hL6 : L2.upd H5 lc (.lst (iv (nats c) ++ [.int (pl : Int)])) lc = some (.lst (iv (nats (c ++ [pl])))) := by
            rw [upd_same]
            simp [iv, nats]
          have sm6 : Same H (L2.upd H5 lc (.lst (iv (nats c) ++ [.int (pl : Int)]))) := fun b o e => by
            rw [upd_ne (ne_of_none e c0)]
            exact sm5 _ _ e
          have hcs6 : All2 (fun v c' => ∃ q, v = V.ref q ∧ SqB K (L2.upd H5 lc (.lst (iv (nats c) ++ [.int (pl : Int)]))) q (iv (nats c'))) vs (crn (nxF 0 ws) mt n i).2 := hcs5.imp fun _ _ ⟨q', e, r⟩ => ⟨q', e, SqB.keptL hL5 Kept.upd r⟩
          obtain ⟨H6, e6⟩ : ∃ H6, H6 = L2.upd H5 lc (.lst (iv (nats c) ++ [.int (pl : Int)])) := ⟨_, rfl⟩
          rw [← e6] at gx6 gf6 gk6 hL6 sm6 hcs6 ⊢
          have lpm : pl < mt.length := by omega
          obtain ⟨m0, m1⟩ := hm _ (List.getElem_mem lpm)
          have lmn : mt[pl].toNat < (nxF 0 ws).length := by omega
          obtain ⟨x0, x1⟩ := nxF_rng ws 0 hne _ (List.getElem_mem lmn)
          rw [Nat.zero_add, ← en] at x1
          have enx : nxt (nxF 0 ws) mt pl = ((nxF 0 ws)[mt[pl].toNat]).toNat := by
            unfold nxt
            rw [List.getD_eq_getElem?_getD, List.getD_eq_getElem?_getD, List.getElem?_eq_getElem lpm]
            show ((nxF 0 ws)[mt[pl].toNat]?.getD 0).toNat = _
            rw [List.getElem?_eq_getElem lmn]
            rfl
          have em : mt[pl] = ((mt[pl].toNat : Nat) : Int) := by omega
          refine ⟨_, rfl, _, rfl, _, rfl, m, _, _, _, rfl, rfl, hM.same sm6, atI_nat (iv_get (List.getElem?_eq_getElem lpm)), nx, _, _, _, rfl, rfl, SqL.of gx6, (by rw [em]; exact atI_nat (iv_get (List.getElem?_eq_getElem lmn))), ?_⟩
          refine at_set ?_
          obtain ⟨k', rfl⟩ : ∃ k', kk = k' + 1 := ⟨kk - 1, by omega⟩
          have eo' := (orb_out hin).symm.trans eo
          have ex : ((nxt (nxF 0 ws) mt pl : Nat) : Int) = (nxF 0 ws)[mt[pl].toNat] := by
            rw [enx]
            omega
          refine ⟨⟨k', nxt (nxF 0 ws) mt pl, pl :: s, c ++ [pl], kn ++ [pl], by rw [ex]; rfl, sm6, gx6, gf6, gk6, fun x => ?_, ?_, ⟨List.nodup_cons.mpr ⟨hin, hok.1⟩, fun x hx => ?_⟩, by omega, hL6, ?_, hcs6, eo', ?_⟩, ?_⟩
          · rw [List.mem_append, List.mem_singleton, List.mem_cons, hme4]
            exact or_comm
          · rw [List.length_append, List.length_cons, hle4]
            rfl
          · rcases List.mem_cons.mp hx with rfl | hx
            · exact hpl
            · exact hok.2 x hx
          · rw [List.length_append, List.length_cons]
            show c.length + 1 ≤ s.length + 1
            omega
          · rw [List.length_cons]
            omega
          · show (match H6 lc with | some (.lst xs) => n + 1 - xs.length | _ => 0) < (match H4 lc with | some (.lst xs) => n + 1 - xs.length | _ => 0)
            rw [hL6, hL]
            show n + 1 - (iv (nats (c ++ [pl]))).length < n + 1 - (iv (nats c)).length
            unfold iv nats
            simp only [List.length_map, List.length_append, List.length_cons, List.length_nil]
            omega
      · rintro σ H4 Q Q' hh ⟨v, e1, u, e2, p1, xs1, ey, hs, f1, f2, c, ec, q⟩
        exact ⟨v, e1, u, e2, p1, xs1, ey, hs, f1, f2, c, ec, hh c H4 q⟩
    · rintro σ H3 ⟨v5, v6, v7, vs, kn, rfl, sm, gx, gf, gk, hmem, hlen, hso, lvs, hcs⟩
      rw [Int.toNat_natCast] at hcs lvs
      exact ⟨_, rfl, lf, _, rfl, .inl ⟨SqL.of gf, fun q H5 s5 B5 => k q H5 (sm.trans s5) ⟨vs, B5, hcs.imp fun _ _ ⟨q, e, r⟩ => ⟨q, e, SqB.same s5 r⟩⟩⟩⟩
end
end W13
set_option Elab.async false
set_option linter.all false
set_option maxRecDepth 100000
set_option maxHeartbeats 600000
namespace W13
open PySem L2 PySem.Spec PyProof.Rows WR WB WE WS
def spI1 (fl : Str) (C : Addr) : Sp := fun vs H Q _ => ∃ (a : Addr) (v : V), vs = [.ref a, v] ∧ H a = some (exo a C none) ∧ ∀ dx, H dx = none → dx ≠ a → Q .non (L2.upd (L2.upd H dx (exd dx [(fl, v)])) a (exo a C (some dx)))
structure ErrC (P : Program) (w : World) (K : PySem.W.Frag) (mg : Str → Option Value) (base : Heap) (C : Addr) (x : Str) (ps : List Str) (sp : Sp) : Prop where
  oex : OexC K C
  ini : ∃ (fI : Addr) (fd : FuncData), PySem.W.findIn K (.ref C) "__init__" = some (some (.ref fI)) ∧ PySem.W.typeIn K (.ref fI) = some (.type "function") ∧ FnOk P w K mg base CX0 2 fI fd ps sp ∧ Binds K fd ps []
  g : mg x = some (.ref C)
  xf : XfC K C
  te : PySem.W.exmOne K (.ref C) (.ref C) = some true
theorem heap1 {H : Hp} {a d : Addr} {e1 e2 e3 o : HO} (ha : H a = none) (hd : d ≠ a) : L2.upd (del (L2.upd (L2.upd (L2.upd H a e1) d e2) a e3) a) d o = L2.upd H d o := by
  funext b
  by_cases h1 : b = d
  · subst h1
    rw [upd_same, upd_same]
  · rw [upd_ne h1, upd_ne h1]
    by_cases h2 : b = a
    · subst h2
      rw [del_same, ha]
    · rw [del_ne h2, upd_ne h2, upd_ne h1, upd_ne h2]
theorem mk1 {fl : Str} {C : Addr} {H : Hp} {v : V} {Q : XK} (k : ∀ d, H d = none → Q (.ref C) (some d) (L2.upd H d (.xd [(fl, v)]))) : ∀ a, H a = none → spI1 fl C [.ref a, v] (L2.upd H a (exo a C none))
    (fun z H2 => z = .non ∧ ∃ (d : Addr) (fs : List (Str × V)), H2 a = some (exo a C (some d)) ∧ H2 d = some (exd d fs) ∧ H d = none ∧ Q (.ref C) (some d) (L2.upd (del H2 a) d (.xd fs))) (fun _ _ _ => False) := by
  intro a ha
  refine ⟨a, v, rfl, upd_same, fun dx h1 h2 => ⟨rfl, dx, _, upd_same, by rw [upd_ne h2, upd_same], by rw [upd_ne h2] at h1; exact h1, ?_⟩⟩
  rw [heap1 ha h2]
  exact k dx (by rw [upd_ne h2] at h1; exact h1)
/-- an error of the class C with this field -/
abbrev Bad (fl : Str) (C : Addr) (E : XK) (H : Hp) (v : V) : Prop := ∀ H1, Same H H1 → ∀ d, H1 d = none → E (.ref C) (some d) (L2.upd H1 d (.xd [(fl, v)]))
structure CalX (P : Program) (w : World) (K : PySem.W.Frag) (mg : Str → Option Value) (base : Heap) (x : Str) (k : Nat) (ps : List Str) (sp : Sp) : Prop where
  ex : ∃ (f : Addr) (fd : FuncData), FnOk P w K mg base (L2.CX P w) k f fd ps sp ∧ mg x = some (.ref f) ∧ PySem.W.keepIn K (.ref f) = true ∧ Binds K fd ps []
section
variable {X : Cx} {x : Str} {k j : Nat} {ps : List Str} {sp : Sp} {p pos : Pos} {e : Expr} {es : List Expr} {t : TA} {E : XK}
theorem pe_calX (C : CalX X.prog X.w X.K X.mg X.base x k ps sp) (hr : Room j X.A) (hkj : k ≤ j) (hx : Passes (L2.CX X.prog X.w) X E) (hg : Gl X x) (ha : PA X (e :: es) t) (hdb : (x == ("__debug__" : Str)) = false := by decide)
    (he : starEach (e :: es) X.env = (false, eval e X.env) :: starEach es X.env := by rfl) (hpl : (backTo pos (starEach es X.env)).any (·.1) = false := by rfl) :
    PE X (.Call (.Name x p) (e :: es) [] pos) (tCall sp [] E t) := by
  obtain ⟨f, fd, F, hm, hk, hb⟩ := C.ex
  exact pe_call F (hr.mono hkj) hg hm hk hb .nil hx ha hdb he hpl
theorem passF : Passes (L2.CX X.prog X.w) X (fun _ _ _ => False) := fun pins σ H s e s' I c => by
  obtain ⟨a, B, H', cls, d, rfl, fl, hok, ub, na, os, ag, hE⟩ := c
  exact hE.elim
end
end W13
set_option Elab.async false
set_option linter.all false
set_option maxRecDepth 100000
set_option maxHeartbeats 600000
namespace OE
open PySem L2 PySem.Spec PyProof.Rows
def spE (R : Hp → Addr → Addr → Bool → Prop) : Sp := fun vs H Q _ => ∃ (p q : Addr) (b : Bool), vs = [.ref p, .ref q] ∧ R H p q b ∧ Q (.bl b) H
/-- C's == answers b where R says so -/
structure Eq (P : Program) (w : World) (K : PySem.W.Frag) (mg : Str → Option Value) (base : Heap) (C : Addr) (k : Nat) (R : Hp → Addr → Addr → Bool → Prop) : Prop where
  ex : ∃ (f : Addr) (fd : FuncData), FnOk P w K mg base CX0 k f fd ["self", "other"] (spE R) ∧ PySem.W.findIn K (.ref C) "__eq__" = some (some (.ref f)) ∧ PySem.W.isFn K (.ref f) = true ∧ Binds K fd ["self", "other"] []
  ins : ∀ H p q b, R H p q b → (∃ dx fs, H p = some (.ins C dx fs)) ∧ ∃ dy gs, H q = some (.ins C dy gs)
  ne : PySem.W.findIn K (.ref C) "__ne__" = some (some (.builtin "object.__ne__"))
  mr : PySem.W.mroIn K C (.type "object") = some true
def rN (R : Hp → Addr → Addr → Bool → Prop) : R2 := fun x y H Q => ∃ (p q : Addr) (b : Bool), x = .ref p ∧ y = .ref q ∧ R H p q b ∧ Q (.bl (!b)) H
section
variable {X : Cx} {C : Addr} {k : Nat} {R : Hp → Addr → Addr → Bool → Prop} {pins : List (Addr × Obj)} {σ : L2.St} {H : Hp} {s : Shared}
theorem callE (M : Eq X.prog X.w X.K X.mg X.base C k R) {A : Around} (sb : Sub X k A) (I : Inv X pins σ H s) {a b : Addr} {c : Bool} (r : R H a b c) :
    ∃ f : Addr, PySem.W.findIn X.K (.ref C) "__eq__" = some (some (.ref f)) ∧ PySem.W.isFn X.K (.ref f) = true ∧ wpAny (model X.prog X.w) A (call (.ref f) [.ref a, .ref b]) (fun r s' => r = .bool c ∧ Inv X pins σ H s') X.xe s := by
  obtain ⟨f, fd, F, hs, hf, hb⟩ := M.ex
  refine ⟨f, hs, hf, ?_⟩
  have hsp : spE R [.ref a, .ref b] H (fun v H' => v = .bl c ∧ H' = H) E0 := ⟨a, b, c, rfl, r, rfl, rfl⟩
  have e0 : Env0 X.prog X.w X.K X.mg X.base A X.stack s H := by
    have e := I.env0
    exact ⟨by rw [sb.fr]; exact e.frames, e.mod, e.bs, e.bsz, e.funs, e.frf, e.hok, e.bare⟩
  have hl := F.len _ _ _ _ hsp
  have r2 : Vals [V.ref a, V.ref b] [Value.ref a, Value.ref b] := .cons rfl (.cons rfl .nil)
  refine wpAny_call (codeAny_mono (F.run A X.stack s H ⟨[.ref a, .ref b], []⟩ [.ref a, .ref b] [.ref a, .ref b] _ E0 sb.room e0 (by
    have := hb s [.ref a, .ref b] I.kIn (by simpa using hl)
    simpa using this) r2 hsp) fun r s' hq => ?_)
  cases r with
  | error e => exact pass0 pins σ H s e s' I hq
  | ok fl =>
    cases fl with
    | ret w =>
      obtain ⟨z, H', I', rz, ez, eH⟩ := I.after hq
      subst ez eH
      cases rz
      exact ⟨rfl, I'⟩
    | next => exact False.elim hq
    | brk => exact False.elim hq
    | cont => exact False.elim hq
theorem op_n (M : Eq X.prog X.w X.K X.mg X.base C k R) {j : Nat} (hr : Room j X.A) (hj : k + 1 ≤ j) : OpR X (compareOp .NotEq) (rN R) := by
  intro pins s σ H x y u v Q I rx ry d
  obtain ⟨a, b, c, rfl, rfl, r, hq⟩ := d
  cases rx
  cases ry
  obtain ⟨⟨dx, fs, ha⟩, dy, gs, hb'⟩ := M.ins _ _ _ _ r
  obtain ⟨mA, J, _⟩ := ins_get I.hok ha
  obtain ⟨mB, J', _⟩ := ins_get I.hok hb'
  obtain ⟨od, J, _⟩ := J.look
  obtain ⟨od', J', _⟩ := J'.look
  have rm4 : Room (k + 1) X.A := hr.mono hj
  obtain ⟨f, hs, hf, hc⟩ := callE (A := X.A.in1) M ⟨rm4.in1, rfl⟩ I r
  show wpAny (model X.prog X.w) X.A (richCompare .NotEq (.ref a) (.ref b)) (EP X pins σ Q) X.xe s
  refine NeK.rc_ne (by have := rm4.in1.units0; exact this) I.kIn J J' M.mr hs hf M.ne (wpAny_mono hc (fun r s' q => ?_) fun _ _ z => z)
  obtain ⟨rfl, I'⟩ := q
  exact ⟨_, rfl, .bl _, H, I', rfl, hq⟩
end
end OE
set_option Elab.async false
set_option linter.all false
set_option maxRecDepth 100000
set_option maxHeartbeats 600000
namespace W13
open PySem L2 PySem.Spec PyProof.Rows WR WB WE WS
theorem SewAt.tyx {K : PySem.W.Frag} {C CR CS : Addr} {H : Hp} {p rp : Addr} {xs : List Addr} {ws : List (List Int)} {mt : List Int} {mg : Str → Option Value} (h : SewAt K C CR CS H p rp xs ws mt) (T : TxW K mg C) (TS : TxSC K mg CS) : TyX K H (.ref p) (.ref CS) := by
  obtain ⟨dx, tm, tc, tp, h1, _⟩ := h
  exact .base (.ins h1 TS.cl TS.ca T.cn T.ct TS.cm)
def SewEq (K : PySem.W.Frag) (C CR CS : Addr) (H : Hp) (p q : Addr) (b : Bool) : Prop := ∃ (rp rq : Addr) (xs ys : List Addr) (ws us : List (List Int)) (mt nt : List Int), SewAt K C CR CS H p rp xs ws mt ∧ SewAt K C CR CS H q rq ys us nt ∧ b = decide (ws = us ∧ mt = nt)
abbrev sEqSx : Stmt := inClass (top 57) 1
abbrev nEqSx : List Str := ["self", "other"]
theorem scEqSx : FnScope nEqSx ["self", "other"] (defScope sEqSx) := ⟨rfl, rfl, rfl, by decide +kernel, rfl, by decide +kernel, by decide +kernel⟩
section
variable {P : Program} {w : World} {K : PySem.W.Frag} {mg : Str → Option Value} {base : Heap} {C CR CS : Addr}
theorem ok_EqSx {f : Addr} {fd : FuncData} (F : Fun K "__eq__" "Sewing.__eq__" sEqSx f fd) (N : TN mg) (T : TxW K mg C) (TC : TxRC K mg CR) (TS : TxSC K mg CS) (ER : EqR P w K mg base C CR)  : FnOk P w K mg base CX0 4 f fd ["self", "other"] (OE.spE (SewEq K C CR CS)) := by
  refine F.ok scEqSx (fun vs H Q E h => ?_) (fun cdv A outer s H vs Q E hr h => ?_)
  · obtain ⟨p, q, b, rfl, _⟩ := h
    rfl
  · obtain ⟨p, q, b, rfl, ⟨rp, rq, xs, ys, ws, us, mt, nt, S1, S2, rfl⟩, k⟩ := h
    refine ⟨_, pss_one (ps_ret (pe_and (pe_callB call_isi (by rfl) N.isinstance (by decide +kernel) (pa_cons (pv 1) (pa_cons (pe_glob (v := .ref CS) (by rfl) TS.mgS rfl) pa_nil))) (pe_and (pe_cmpR (op_eqR ER hr (by decide)) (pe_fld (pv 0) rfl) (pe_fld (pv 1) rfl) (nomark _)) (pe_one (pe_cmpR (op_eqD hr.units) (pe_fld (pv 0) rfl) (pe_fld (pv 1) rfl) (nomark _)))))), ?_⟩
    obtain ⟨dx, tm, tc, tp, h1, R1, h3, _⟩ := id S1
    obtain ⟨dy, um, uc, up, g1, R2, g3, _⟩ := id S2
    refine ⟨_, rfl, .ref q, _, _, _, _, rfl, .own CS, S2.tyx T TS, kit_self CS, _, rfl, ?_⟩
    refine iteT ?_
    refine ⟨_, rfl, p, CS, dx, _, _, rfl, h1, TS.cl, TS.n1, sf_rims, _, rfl, q, CS, dy, _, _, rfl, g1, TS.cl, TS.n1, sf_rims, rp, rq, xs, ys, ws, us, rfl, rfl, R1, R2, ?_⟩
    refine ⟨_, rfl, ?_⟩
    by_cases hw : ws = us
    · refine iteT' (decide_eq_true hw) ?_
      refine ⟨_, rfl, p, CS, dx, _, _, rfl, h1, TS.cl, TS.n2, sf_mates, _, rfl, q, CS, dy, _, _, rfl, g1, TS.cl, TS.n2, sf_mates, .tuple (mt.map .int), .tuple (nt.map .int), .tup h3.sq (dpInts mt), .tup g3.sq (dpInts nt), PySem.W.ke_shaped_ints mt, PySem.W.ke_shaped_ints nt, ?_⟩
      rw [eqv_ints]
      have : decide (ws = us ∧ mt = nt) = decide (mt = nt) := by
        rw [Bool.eq_iff_iff, decide_eq_true_iff, decide_eq_true_iff]
        exact ⟨fun h => h.2, fun h => ⟨hw, h⟩⟩
      rw [this] at k
      exact k
    · refine iteF' (decide_eq_false hw) ?_
      rw [decide_eq_false (fun h => hw h.1)] at k
      exact k
end
structure CalKX (P : Program) (w : World) (K : PySem.W.Frag) (mg : Str → Option Value) (base : Heap) (x : Str) (k : Nat) (ps ks : List Str) (gV : List V → List V) (sp : Sp) : Prop where
  ex : ∃ (f : Addr) (fd : FuncData) (g : List Value → List Value), FnOk P w K mg base (L2.CX P w) k f fd ps sp ∧ mg x = some (.ref f) ∧ PySem.W.keepIn K (.ref f) = true ∧ KBn K fd ps 0 ks (fun _ ws => g ws) (fun _ zs => gV zs)
def tCalKX (sp : Sp) (gV : List V → List V) (m : Nat) (tk : TA) : TE := fun σ H Q => tk σ H fun zs H2 => zs.length = m ∧ sp (gV zs) H2 Q (fun _ _ _ => False)
section
variable {X : Cx} {x : Str} {k j : Nat} {ps ks : List Str} {gV : List V → List V} {sp : Sp} {p pos : Pos} {kws : List Keyword} {tk : TA}
theorem pe_calKX (C : CalKX X.prog X.w X.K X.mg X.base x k ps ks gV sp) (hr : Room j X.A) (hkj : k ≤ j) (hg : Gl X x) (hkw : PK X kws tk) (hall : (backToKw pos (keywordEach kws X.env)).all (·.1.isSome) = true := by rfl)
    (hks : (backToKw pos (keywordEach kws X.env)).filterMap (·.1) = ks := by rfl) (hdb : (x == ("__debug__" : Str)) = false := by decide) (hpl : ((backTo pos (starEach [] X.env)).any (·.1) || (backToKw pos (keywordEach kws X.env)).any (·.1.isNone)) = false := by rfl) :
    PE X (.Call (.Name x p) [] kws pos) (tCalKX sp gV ks.length tk) := by
  obtain ⟨f, fd, g, F, hm, hk, hb⟩ := C.ex
  refine ⟨fun pins s σ H Q I h => ?_⟩
  refine wpAny_Call_Name_kw (ld_glob I hg hm ?_ hdb)
  refine PySem.W.callWith_KW0 (h₀ := X.base) I.ok.mod.kin hk hall ?_ hpl
  refine thn (hkw.run pos pins s σ H _ I h) fun ws s2 ⟨zs, H2, I2, rz, lz, q2⟩ => ⟨I2.kIn, ?_⟩
  rw [hks]
  have r2 := hb.rel (vs := []) (us := []) .nil rz
  have hl : ws.length = ks.length := by rw [← rz.length, lz]
  refine wpAny_call (codeAny_mono ((F.mono hkj).run X.A X.stack s2 H2 ⟨[], ks.zip ws⟩ (g ws) (gV zs) Q (fun _ _ _ => False) hr I2.env0 (hb.to s2 [] ws I2.kIn rfl hl) r2 q2) fun r s' hq => ?_)
  cases r with
  | error e => exact passF pins σ H2 s2 e s' I2 hq
  | ok fl =>
    cases fl with
    | ret u => exact I2.after hq
    | next => exact False.elim hq
    | brk => exact False.elim hq
    | cont => exact False.elim hq
end
end W13
set_option Elab.async false
set_option linter.all false
set_option maxRecDepth 100000
set_option maxHeartbeats 2000000
namespace CK
open PySem PySem.Spec PyProof.Rows L2 TM
/-- at a: an exception that was caught, of the class cls, its own dict at d -/
def exk (a : Addr) (cls : Value) (d : Option Addr) : HO := .ext fun h => ∃ (oe : Obj) (vs : Array Value), h.get? a = some oe ∧ Zc cls d oe ∧ oe.data = .fields vs
theorem exk_ok {P : Program} {w : World} {H : Hp} {h : Heap} {a : Addr} {cls : Value} {d : Option Addr} {oe : Obj} {vs : Array Value} (e : h.get? a = some oe) (z : Zc cls d oe) (ed : oe.data = .fields vs) : ObjOk P w H h a (exk a cls d) :=
  ⟨⟨oe, vs, e, z, ed⟩, ⟨oe, e⟩, fun _ _ ⟨o, v, q, r⟩ k => ⟨o, v, k o q, r⟩⟩
theorem exk_at {P : Program} {w : World} {H : Hp} {h : Heap} {a : Addr} {cls : Value} {d : Option Addr} (hok : HOk P w H h) (e : H a = some (exk a cls d)) : ∃ (oe : Obj) (vs : Array Value), h.get? a = some oe ∧ Zc cls d oe ∧ oe.data = .fields vs := by
  have x : ObjOk P w H h a (.ext fun h => ∃ (oe : Obj) (vs : Array Value), h.get? a = some oe ∧ Zc cls d oe ∧ oe.data = .fields vs) := hok a _ e
  exact x.1
section
variable {X : Cx} {pins : List (Addr × Obj)} {σ : L2.St} {H : Hp} {s : Shared} {a : Addr} {cls : Value} {d : Option Addr} {oe : Obj} {vs : Array Value}
/-- an object that came up since the entry is tracked -/
theorem track (I : Inv X pins σ H s) (e : s.heap.get? a = some oe) (z : Zc cls d oe) (ed : oe.data = .fields vs) (hn : H a = none) (n0 : X.s_0.heap.get? a = none) (nL : a ≠ X.env.locals) (nP : ∀ p ∈ X.pn ++ pins, p.1 ≠ a) :
    Inv X pins σ (upd H a (exk a cls d)) s := by
  have neN : ∀ b, b ≠ a → upd H a (exk a cls d) b = H b := fun b h => upd_ne h
  have ne0 : ∀ b o, X.s_0.heap.get? b = some o → b ≠ a := fun b o q z => by
    rw [z, n0] at q
    cases q
  have nC : ∀ x c, X.env.cells.lookup x = some c → c ≠ a := fun x c q z => by
    obtain ⟨v, o, ho, hd⟩ := I.cell x c q
    rw [z, e] at ho
    cases ho
    rw [ed] at hd
    cases hd
  refine ⟨I.ok, I.os, I.bare, ⟨I.base.keep, I.base.slot, fun b o q n hx => ?_, I.base.there, fun b xs q => ?_, fun b o u q => ?_, fun b ps q => ?_⟩, I.loc, I.cell, ?_, fun x c q => ?_, fun p hp => ?_, HOk.laidN I.hok (fun _ _ q => q) hn (exk_ok e z ed), I.len⟩
  · rw [neN b (ne0 b o q)]
    exact I.base.free b o q n hx
  · have q2 := I.base.tups b xs q
    rw [neN b (ne_of_none q2 hn)]
    exact q2
  · have q2 := I.base.frzs b o u q
    rw [neN b (ne_of_none q2 hn)]
    exact q2
  · obtain ⟨m, q2⟩ := I.base.tbls b ps q
    exact ⟨m, by rw [neN b (ne_of_none q2 hn)]; exact q2⟩
  · rw [neN _ nL.symm]
    exact I.free
  · rw [neN c (nC x c q)]
    exact I.freeC x c q
  · obtain ⟨h1, h2, h3⟩ := I.pin p hp
    exact ⟨h1, by rw [neN p.1 (nP p hp)]; exact h2, h3⟩
end
/-- what ends a suite, the exception kept -/
def keepS (i : Nat) (a : Addr) (cls : Value) (d : Option Addr) (D : Ends) : Ends :=
  { nx := fun σ H => D.nx (σ.set i none) (upd H a (exk a cls d)), rt := fun v H => D.rt v (upd H a (exk a cls d)), bk := fun σ H => D.bk (σ.set i none) (upd H a (exk a cls d)), ct := fun σ H => D.ct (σ.set i none) (upd H a (exk a cls d)) }
def wishK (K : PySem.W.Frag) (out : WX) (D : Ends) (i : Nat) (c : Value) (say : Addr → Value → Option Addr → TS) : WX := fun cls d σ H =>
  ∃ b, PySem.W.exmOne K cls c = some b ∧ (b = true → ∀ a, H a = none → say a cls d (keepS i a cls d D) (σ.set i (some (.ref a))) H) ∧ (b = false → out cls d σ H)
section
variable {X : Cx} {pins : List (Addr × Obj)} {σ : L2.St} {H : Hp} {D : Ends} {out : WX} {cls : Value} {d : Option Addr} {a : Addr} {B : Heap} {s0 s : Shared}
theorem away (h : Held X pins σ H cls d a B s0 s) (hs : X.stack = X.env :: X.outer) : s0.heap.get? a = none := by
  obtain ⟨o, vs, ea, z, ed⟩ := h.fly.there
  have out_ : a ∉ frs X.stack := fun hm => by
    rw [hs] at hm
    obtain ⟨_, o', e', nf⟩ := h.fly.2.2.1.mem hm
    rw [ea] at e'
    cases e'
    exact nf _ ed
  cases e : s0.heap.get? a with
  | none => rfl
  | some o =>
    have := h.old a o e out_
    rw [h.fly.2.1] at this
    cases this
theorem goesK (h : Held X pins σ H cls d a B s0 s) (hs : X.stack = X.env :: X.outer) (hf : X.env.frame = some X.env.locals) (hex : X.ex = []) (tk : Takes X out) {x n : Str} {i : Nat} {c : Value} {say : Addr → Value → Option Addr → TS} {b0 : Stmt} {bs : List Stmt} {p1 p2 : Pos}
    (hN : X.N.Nodup) (hi : X.N[i]? = some n) (hl : X.env.kindOf n = some .local) (hc : Names X x c) (hsay : Says X (b0 :: bs) say) (w : wishK X.K out D i c say cls d σ H) :
    wpAny (model X.prog X.w) X.A (handleBy (.ref a) X.env [.ExceptHandler (some (.Name x p1)) (some n) (b0 :: bs) p2]) (SP X pins D) X.xe s := by
  obtain ⟨b, eb, yes, no⟩ := w
  obtain ⟨o, ea, z, ed, S⟩ := h.pinned hf
  have aw := away h hs
  have n0 : X.s_0.heap.get? a = none := by
    cases e : X.s_0.heap.get? a with
    | none => rfl
    | some o =>
      obtain ⟨o2, q⟩ := h.inv.base.there a o e (by rw [hex]; exact fun z => nomatch z)
      rw [aw] at q
      cases q
  have nP : ∀ p ∈ X.pn ++ pins, p.1 ≠ a := fun p hp q => by
    have := (h.inv.pin p hp).1
    rw [q, aw] at this
    cases this
  have look : PySem.W.Looks (model X.prog X.w) s.heap (typeOf (.ref a)) cls := fun A Q E s' k q => wpAny_typeOf_ref (k _ _ ea) (by rw [z.1]; exact q)
  have lm := PySem.W.exm_one (M := model X.prog X.w) h.now.kIn look eb
  have named : ∀ {p : Pos} {Q : Value → Shared → Prop} {E : Value → Shared → Prop}, Q c s → wpAny (model X.prog X.w) (X.A.mark (some (.ref a))) (eval (.Name x p) X.env) Q E s := fun {p Q E} k => by
    obtain ⟨g1, g2, m | ⟨m, v, nn⟩⟩ := hc
    · exact ld_glob (X := X.suite a ((a, o) :: (X.pn ++ pins))) S g1 m k g2
    · exact ld_blt (X := X.suite a ((a, o) :: (X.pn ++ pins))) S g1 m v k nn g2
  refine wpAny_handleBy_cons (codeAny_handlers_test (named (lm.here ?_))) (by intro q; cases q)
  cases b with
  | false => exact h.pass hs hf tk (no rfl)
  | true =>
    refine codeAny_handlers_suite_as (HandSPX.lands_againZ h.fly fun h4 fl4 up4 => ?_)
    have h' : Held X pins σ H cls d a B s0 { s with heap := h4 } := ⟨h.inv, h.old, h.up.trans up4, fl4, h.os, h.bare, h.free⟩
    obtain ⟨o4, _, z4, ed4, S4⟩ := h'.pinned hf
    refine store_ok (X := X.suite a ((a, o4) :: (X.pn ++ pins))) (v := .ref a) S4 hN hi (.inl hl) rfl (fun s5 S5 => ?_) (.inr hl)
    refine wpAny_mono ((hsay a o4 cls d (X.pn ++ pins) z4 ed4).run [] s5 _ H _ S5 (yes rfl a h.free)) (fun f s6 hsp => ?_) (fun _ _ z => False.elim z)
    have ok := h.inv.ok
    have end_ : ∀ {σ6 : L2.St} {H6 : Hp} {Q : Shared → Prop}, Inv (X.suite a ((a, o4) :: (X.pn ++ pins))) [] σ6 H6 s6 → (∀ s7, Inv X pins (σ6.set i none) (upd H6 a (exk a cls d)) s7 → Q s7) →
        wpAny (model X.prog X.w) X.A (do bindName X.env n .none; unbindBehindTheSuite X.env n p2) (fun _ s7 => Q s7) X.xe s6 := fun {σ6 H6 Q} S6 hq => by
      obtain ⟨g1, g2, g3, g4, g5⟩ := S6.pin (a, o4) (List.mem_append_left _ List.mem_cons_self)
      obtain ⟨vs4, ed5⟩ := ed4
      exact gone_ok (track (S6.unsuite ok) g1 z4 ed5 g2 n0 g3 nP) hN hi hl hq
    cases f with
    | next => obtain ⟨σ6, H6, S6, q6⟩ := hsp; exact end_ S6 fun s7 J7 => ⟨_, _, J7, q6⟩
    | brk => obtain ⟨σ6, H6, S6, q6⟩ := hsp; exact end_ S6 fun s7 J7 => ⟨_, _, J7, q6⟩
    | cont => obtain ⟨σ6, H6, S6, q6⟩ := hsp; exact end_ S6 fun s7 J7 => ⟨_, _, J7, q6⟩
    | ret u => obtain ⟨v6, σ6, H6, S6, r6, q6⟩ := hsp; exact end_ S6 fun s7 J7 => ⟨_, _, _, J7, r6, q6⟩
end
section
variable {X : Cx} {body : List Stmt} {pos : Pos} {tb : WX → TS} {out : WX} {x n : Str} {i : Nat} {c : Value} {say : Addr → Value → Option Addr → TS} {b0 : Stmt} {bs : List Stmt} {p1 p2 : Pos}
theorem ps_try_keep (hs : X.stack = X.env :: X.outer) (hf : X.env.frame = some X.env.locals) (hex : X.ex = []) (tk : Takes X out)
    (hb : ∀ (W : WX) (pn : List (Addr × Obj)) (xe : Value → Shared → Prop), Takes (X.tr pn xe) W → PassesOwn (model X.prog X.w) X.A X.env xe → PSs (X.tr pn xe) body (tb W))
    (hN : X.N.Nodup) (hi : X.N[i]? = some n) (hl : X.env.kindOf n = some .local) (hc : Names X x c) (hsay : Says X (b0 :: bs) say) :
    PS X (.Try body [.ExceptHandler (some (.Name x p1)) (some n) (b0 :: bs) p2] [] [] pos) (fun D σ H => tb (wishK X.K out D i c say) D σ H) := by
  refine ⟨fun pins s σ H D I h => ?_⟩
  have ok := I.ok
  have hfr : X.A.frames = some (X.env :: X.outer) := by rw [ok.frames, hs]
  refine wpAny_Try_except (wpAny_mono ((hb (wishK X.K out D i c say) (X.pn ++ pins) (fun e s₁ => wpAny (model X.prog X.w) X.A (noteFrame e X.env) (fun _ s₂ => wpAny (model X.prog X.w) X.A (setFlight e none) (fun _ s₃ =>
    wpAny (model X.prog X.w) X.A (handleBy e X.env [.ExceptHandler (some (.Name x p1)) (some n) (b0 :: bs) p2]) (SP X pins D) X.xe s₃) X.xe s₂) X.xe s₁) (fun u s' xx => ?_) PassesOwn.looking).run [] s σ H D (I.toTry _) h) (fun f s1 hsp => ?_) (fun e s1 he => he))
  · obtain ⟨a, B, s0, pins', σ', H', cls, d, rfl, J', old, up, sky, free, os, bare, w⟩ := xx
    have sky' : Sky B (X.env :: X.outer) a (Zc cls d) X.env.locals s'.heap := by rw [← hs]; exact sky
    exact Sky.land Zc.steady hfr hf sky' fun h3 fl3 up3 => goesK (s := { s' with heap := h3 }) ⟨J'.ofTry ok, old, up.trans up3, fl3, os, bare, free⟩ hs hf hex tk hN hi hl hc hsay w
  · cases f with
    | next => obtain ⟨σ', H', J', q⟩ := hsp; exact wpAny_execs_nil ⟨σ', H', J'.ofTry ok, q⟩
    | brk => obtain ⟨σ', H', J', q⟩ := hsp; exact ⟨σ', H', J'.ofTry ok, q⟩
    | cont => obtain ⟨σ', H', J', q⟩ := hsp; exact ⟨σ', H', J'.ofTry ok, q⟩
    | ret u => obtain ⟨v, σ', H', J', r, q⟩ := hsp; exact ⟨v, σ', H', J'.ofTry ok, r, q⟩
end
section
open PySem.W PySem.Calls
variable {prog : Program} {w : World} {A : Around} {E : Value → Shared → Prop} {s : Shared} {K : Frag} {x D : Addr} {ox : Obj} {odo : Option Obj}
theorem clsD {Q : Option Value → Shared → Prop} (C : ExcC K D) (bnd : findObj K D odo "__class__" = some (.bind (.builtin "getset_descriptor.__get__") (.builtin "object.__class__"))) (X : K.In s.heap) (I : InstAt s.heap x ox D odo) (h : Q (some (.ref D)) { s with toks := s.toks + 1 }) :
    wpAny (model prog w) A (getAttr? (.ref x) "__class__") Q E s := by
  obtain ⟨hh, gs, dr, tk, ost⟩ := s
  have lT := I.type (M := model prog w)
  have lA := looks_findIn (M := model prog w) X C.hg
  have lB := looks_findIn (M := model prog w) X C.hk
  have lO := looks_find (M := model prog w) X I bnd
  have isB : Looks (model prog w) hh (isInstance (.ref x) (.type "BaseException")) true := lT.andThen (looks_subIn X C.hs)
  have n2 : (Value.builtin "BaseException.__getattribute__" == .builtin "object.__getattribute__") = false := by
    decide +kernel
  have n1 : (onTheHeap (Value.ref D) && Value.builtin "BaseException.__getattribute__" == .builtin "object.__getattribute__") = false := by
    rw [n2]
    rfl
  unfold getAttr? getAttrBy? getAttrBy
  refine wpAny_bind (wpAny_mkText ?_)
  refine wpAny_bind (wpAny_attempt (wpAny_holding ?_))
  refine wpAny_bind (lT.at (wpAny_bind (lA.at ?_)))
  show wpAny _ _ (if (onTheHeap (Value.ref D) && Value.builtin "BaseException.__getattribute__" == Value.builtin "object.__getattribute__") = true then _ else _) _ _ _
  rw [n1, if_neg (by decide)]
  unfold getAttrByItsOwn hookBefore
  refine wpAny_bind ?_
  rw [if_pos (by rfl)]
  refine lB.at (wpAny_bind (wpAny_attempt (wpAny_holding ?_)))
  unfold callGetattribute
  rw [if_neg (show ¬ (false && onTheHeap (Value.builtin "BaseException.__getattribute__")) = true by decide)]
  unfold boundAndCalled
  rw [PySem.F.excAttr_ValueError.ga.bind (.ref x)]
  refine wpAny_bind (wpAny_pure ?_)
  show wpAny _ _ (call (.builtin "BaseException.__getattribute__") [.ref x, .str "__class__" tk]) _ _ _
  refine wpAny_call (codeAny_call_builtin PySem.F.excAttr_ValueError.ga.plain PySem.F.entry_bexc_ga ?_)
  refine @check_slot (model prog w) _ _ ⟨hh, gs, dr, tk + 1, ost⟩ "BaseException.__getattribute__" "BaseException" "__getattribute__" (.ref x) [.str "__class__" tk] [] _ (by decide +kernel) (by decide +kernel) isB (PySem.F.args_bexc_ga (.ref x) (.str "__class__" tk)) ?_
  unfold Builtin.«object.__getattribute__»
  refine wpAny_bind (wpAny_of_eq (a := ((Value.ref x : Value), [Value.str "__class__" tk])) (by first | rfl | (simp only [slotArgs]; rfl)) ?_)
  refine wpAny_bind (wpAny_pure (wpAny_bind (lT.at (wpAny_bind (lO.at ?_)))))
  show wpAny _ _ (holding [Value.builtin "object.__class__"] (call (.builtin "getset_descriptor.__get__") [.builtin "object.__class__", .ref x, .ref D]) >>= ret) _ _ _
  refine wpAny_bind (wpAny_holding (wpAny_call (class_get (s := ⟨hh, gs, dr, tk + 1, ost⟩) X I C.hm (wpAny_pure ?_))))
  show wpAny _ _ (handedOut (.ref D)) _ _ _
  rw [handedOut_of (v := .ref D) rfl]
  first
    | exact wpAny_pure (wpAny_pure h)
    | exact wpAny_pure (wpAny_bind (wpAny_pure (wpAny_pure h)))
    | exact wpAny_pure h
theorem kitD {od : Obj} (C : ExcC K D) : KitX K (.ref x) (.ref D) (fun h => InstAt h x ox D (some od)) where
  ty := fun _ _ _ I => I.type
  it := fun _ _ X _ => by
    obtain ⟨cd, hc, _⟩ := any_some C.hd
    unfold clsIn at hc
    split at hc
    · rename_i c1 d1 cd1 sl1 ho
      intro A' Q' E' s' k q
      unfold isType loadHead
      exact wpAny_bind (wpAny_loadPart (k _ _ (X _ _ ho)) (wpAny_pure q))
    · cases hc
  ne := fun h tp dd its n sl X htp => by
    obtain ⟨cd, hc, _⟩ := any_some C.hd
    refine Bool.eq_false_iff.mpr fun q => ?_
    have e : D = tp := Value.ref.inj (beq_iff_eq.mp q)
    subst e
    unfold clsIn at hc
    split at hc
    · rename_i c1 d1 cd1 sl1 ho
      cases (X _ _ ho).symm.trans htp
    · cases hc
  ca := fun X I k => clsD C (findObj_data (by obtain ⟨cd, hc, _⟩ := any_some C.hd; rw [hc] <;> rfl) C.ha C.hn C.ht) X I k
end
section
variable {X : Cx}
/-- isinstance(x, c), x any value or an exception that was kept -/
def rIsC (K : PySem.W.Frag) : List V → Hp → VK → Prop := fun xs H Q => rIsi K xs H Q ∨ ∃ (a D dd : Addr) (fs : List (Str × V)) (c : V) (cv : Value) (b : Bool), xs = [.ref a, c] ∧ H a = some (exk a (.ref D) (some dd)) ∧ H dd = some (.xd fs) ∧ ExcC K D ∧ (∀ u, RelV c u → u = cv) ∧ PySem.W.kitOne K (.ref D) cv = some b ∧ Q (.bl b) H
theorem call_isC : CallR X (.builtin "isinstance") (rIsC X.K) := by
  intro pins s σ H xs us Q I r h
  rcases h with h | ⟨a, D, dd, fs, c, cv, b, rfl, ha, hdd, C, hcv, e, q⟩
  · exact call_isi pins s σ H xs us Q I r h
  · cases r with
    | cons rx rr =>
      cases rr with
      | cons rt rr =>
        cases rr
        cases rx
        have ec := hcv _ rt
        subst ec
        obtain ⟨oe, vs, hget, hz, hv⟩ := exk_at I.hok ha
        obtain ⟨mA, hns, hr⟩ := (show ObjOk X.prog X.w H s.heap dd (.xd fs) from I.hok dd _ hdd)
        obtain ⟨od, ho, hl⟩ := lookIn_ns hns
        have J : PySem.W.InstAt s.heap a oe D (some od) := ⟨hget, hz.1, by unfold PySem.W.notCls; rw [hv] <;> rfl, by rw [hz.2]; exact ho⟩
        exact PySem.W.kia_one (kitD C) I.kIn J e (fun z => nomatch z) fun tk => ⟨.bl b, H, I.tok tk, rfl, q⟩
/-- y.f, y an exception that was kept -/
def tKf (C : Addr) (f : Str) (te : TE) : TE := fun σ H Q => te σ H fun x H1 => ∃ (a dd : Addr) (fs : List (Str × V)) (v : V), x = .ref a ∧ H1 a = some (exk a (.ref C) (some dd)) ∧ H1 dd = some (.xd fs) ∧ fs.lookup f = some v ∧ Q v H1
theorem pe_kf {C : Addr} {e : Expr} {te : TE} {pos : Pos} {f : Str} (T : XfC X.K C) (hno : PySem.W.findIn X.K (.ref C) f = some none) (he : PE X e te) (hb : attributeBase e f X.env (eval e X.env) = eval e X.env := by rfl) :
    PE X (.Attribute e f pos) (tKf C f te) := by
  refine ⟨fun pins s σ H Q I h => ?_⟩
  refine attr_of hb (thn (he.run pins s σ H _ I h) fun u s1 hh => ?_)
  obtain ⟨x, H1, I1, rx, a, dd, fs, v, ex, hA, ea, l, q⟩ := hh
  subst ex
  obtain rfl : u = Value.ref a := rx
  obtain ⟨oe, vs, ha, hz, hd⟩ := exk_at I1.hok hA
  have hx : ObjOk X.prog X.w H1 s1.heap dd (.xd fs) := I1.hok dd _ ea
  obtain ⟨mA, hns, hr⟩ := hx
  obtain ⟨od, ho, hl⟩ := lookIn_ns hns
  obtain ⟨u, hu, ru⟩ := RelO.some_of (v := v) (o := mA f) (by rw [← l]; exact hr f)
  have J : PySem.W.InstAt s1.heap a oe C (some od) := ⟨ha, hz.1, by unfold PySem.W.notCls; rw [hd] <;> rfl, by rw [hz.2]; exact ho⟩
  exact HandSPX.exc_get I1.kIn J T.ga T.gg T.exC (PySem.W.findObj_own T.hdC hno rfl (by rw [hl, hu])) (handed_of ru) ⟨v, H1, I1.tok _, ru, q⟩
end
end CK
set_option Elab.async false
set_option linter.all false
set_option maxRecDepth 100000
set_option maxHeartbeats 600000
namespace RA
open PySem L2 PySem.Spec PyProof.Rows
/-- repr shows it -/
def Shw (d : PyData) : Prop := d.showable = true ∧ d.hasDict = false ∧ d.depth ≤ 30 ∧ d.shown.length ≤ sizeLine
def rReprA (K : PySem.W.Frag) : List V → Hp → VK → Prop := fun xs H Q => ∃ (x : V) (d : PyData), xs = [x] ∧ Dp K H x d ∧ Shw d ∧ Q (.str d.shown) H
variable {X : Cx}
theorem call_reprA (hg : X.A.guards = some []) (hu : X.A.units + 40 < cLine) : CallR X (.builtin "repr") (rReprA X.K) := by
  intro pins s σ H xs us Q I rel ask
  obtain ⟨x, d, rfl, hd, ⟨hs, hn, hdep, hz⟩, q⟩ := ask
  cases hd with
  | non =>
    obtain ⟨u, rfl, ru⟩ := vals1 rel
    cases ru
    exact PySem.P.repr_of_none ⟨.str _, H, I.tok _, ⟨_, rfl⟩, q⟩
  | bl b =>
    obtain ⟨u, rfl, ru⟩ := vals1 rel
    cases ru
    exact PySem.P.repr_of_bool ⟨.str _, H, I.tok _, ⟨_, by cases b <;> rfl⟩, q⟩
  | int i =>
    obtain ⟨u, rfl, t, rfl⟩ := vals1 rel
    exact PySem.P.repr_of_int (by simpa [PyData.showable] using hs) ⟨.str _, H, I.tok _, ⟨_, rfl⟩, q⟩
  | str z =>
    obtain ⟨u, rfl, t, rfl⟩ := vals1 rel
    exact PySem.P.repr_of_str ⟨.str _, H, I.tok _, ⟨_, rfl⟩, q⟩ hz
  | lst h1 h2 => exact RG.call_repr hg hu pins s σ H _ us Q I rel ⟨_, _, rfl, .lst h1 h2, hs, hn, hdep, hz, q⟩
  | tup h1 h2 => exact RG.call_repr hg hu pins s σ H _ us Q I rel ⟨_, _, rfl, .tup h1 h2, hs, hn, hdep, hz, q⟩
end RA
set_option Elab.async false
set_option linter.all false
set_option maxRecDepth 100000
set_option maxHeartbeats 1000000
namespace SrtT
open PySem PySem.Spec PyProof.Rows Srt SrtO L2
/-- by the first that differ, and the shorter one ahead -/
def lexL : List Int → List Int → Bool
  | [], [] => false
  | [], _ :: _ => true
  | _ :: _, [] => false
  | x :: r, y :: s => if x = y then lexL r s else decide (x < y)
def lexZ (fin : Bool) : List Int → List Int → Bool
  | x :: r, y :: s => if x = y then lexZ fin r s else decide (x < y)
  | _, _ => fin
theorem lexZ_eq : ∀ (a b : List Int) (fin : Bool), fin = decide (a.length < b.length) → lexZ fin a b = lexL a b
  | [], [], fin, h => by rw [h]; rfl
  | [], _ :: _, fin, h => by
    rw [h]
    show decide _ = true
    exact decide_eq_true (Nat.succ_pos _)
  | _ :: _, [], fin, h => by
    rw [h]
    show decide _ = false
    exact decide_eq_false (Nat.not_lt_zero _)
  | x :: r, y :: s, fin, h => by
    show (if x = y then lexZ fin r s else decide (x < y)) = if x = y then lexL r s else decide (x < y)
    rw [lexZ_eq r s fin (by rw [h, List.length_cons, List.length_cons]; congr 1; exact propext Nat.succ_lt_succ_iff)]
theorem lexL_irr : ∀ a : List Int, lexL a a = false
  | [] => rfl
  | x :: r => by
    show (if x = x then lexL r r else _) = false
    rw [if_pos rfl]
    exact lexL_irr r
theorem lexL_cons {x y : Int} {r s : List Int} : lexL (x :: r) (y :: s) = true ↔ x < y ∨ (x = y ∧ lexL r s = true) := by
  show (if x = y then lexL r s else decide (x < y)) = true ↔ _
  by_cases e : x = y
  · rw [if_pos e]
    constructor
    · exact fun h => .inr ⟨e, h⟩
    · rintro (h | h)
      · omega
      · exact h.2
  · rw [if_neg e, decide_eq_true_eq]
    constructor
    · exact .inl
    · rintro (h | h)
      · exact h
      · exact absurd h.1 e
theorem lexL_no {x y : Int} {r s : List Int} : lexL (x :: r) (y :: s) = false ↔ y < x ∨ (x = y ∧ lexL r s = false) := by
  show (if x = y then lexL r s else decide (x < y)) = false ↔ _
  by_cases e : x = y
  · rw [if_pos e]
    constructor
    · exact fun h => .inr ⟨e, h⟩
    · rintro (h | h)
      · omega
      · exact h.2
  · rw [if_neg e, decide_eq_false_iff_not]
    constructor
    · exact fun h => .inl (by omega)
    · rintro (h | h)
      · omega
      · exact absurd h.1 e
theorem lexL_as : ∀ a b : List Int, lexL a b = true → lexL b a = false
  | [], [], h => by cases h
  | [], _ :: _, _ => rfl
  | _ :: _, [], h => by cases h
  | x :: r, y :: s, h => by
    rcases lexL_cons.mp h with h | ⟨e, h⟩
    · exact lexL_no.mpr (.inl h)
    · exact lexL_no.mpr (.inr ⟨e.symm, lexL_as r s h⟩)
theorem lexL_tr : ∀ a b c : List Int, lexL a b = false → lexL b c = false → lexL a c = false
  | [], [], [], _, _ => rfl
  | [], _ :: _, _, h, _ => by cases h
  | [], [], _ :: _, _, h => by cases h
  | _ :: _, _, [], _, _ => rfl
  | _ :: _, [], _ :: _, _, h => by cases h
  | x :: r, y :: s, z :: t, h1, h2 => by
    rcases lexL_no.mp h1 with h1 | ⟨e1, h1⟩
    · rcases lexL_no.mp h2 with h2 | ⟨e2, h2⟩
      · exact lexL_no.mpr (.inl (by omega))
      · exact lexL_no.mpr (.inl (by omega))
    · rcases lexL_no.mp h2 with h2 | ⟨e2, h2⟩
      · exact lexL_no.mpr (.inl (by omega))
      · exact lexL_no.mpr (.inr ⟨e1.trans e2, lexL_tr r s t h1 h2⟩)
/-- neither ahead of the other: the same -/
theorem lexL_eq : ∀ a b : List Int, lexL a b = false → lexL b a = false → a = b
  | [], [], _, _ => rfl
  | [], _ :: _, h, _ => by cases h
  | _ :: _, [], _, h => by cases h
  | x :: r, y :: s, h1, h2 => by
    rcases lexL_no.mp h1 with h1 | ⟨e1, h1⟩
    · rcases lexL_no.mp h2 with h2 | ⟨e2, h2⟩
      · omega
      · omega
    · rcases lexL_no.mp h2 with h2 | ⟨e2, h2⟩
      · omega
      · rw [e1, lexL_eq r s h1 h2]
theorem swo_lexL {α : Type} (k : α → List Int) : Swo fun v u => lexL (k v) (k u) :=
  ⟨fun x y h => lexL_as _ _ h, fun x y z h1 h2 => lexL_tr _ _ _ h2 h1⟩
section
variable {prog : Program} {w : World} {A : Around} {E : Value → Shared → Prop} {s : Shared}
theorem kat_ints {fin : Bool} {Q : Bool → Shared → Prop} : ∀ (ns ms : List Int) (xs ys : List Value) (i : Nat), Vals (ns.map V.int) xs → Vals (ms.map V.int) ys → Q (lexZ fin ns ms) s → PySem.W.KatLex prog w A true fin Q (xs.zip ys) i s
  | [], _, [], _, _, _, _, h => PySem.W.kat_nil (by cases ‹List Int› <;> exact h)
  | [], _, _ :: _, _, _, r, _, _ => by cases r
  | _ :: _, _, [], _, _, r, _, _ => by cases r
  | _ :: _, [], _ :: _, [], _, _, _, h => PySem.W.kat_nil h
  | _ :: _, [], _ :: _, _ :: _, _, _, r, _ => by cases r
  | _ :: _, _ :: _, _ :: _, [], _, _, r, _ => by cases r
  | n :: ns, m :: ms, x :: xs, y :: ys, i, r1, r2, h => by
    cases r1 with
    | cons hx r1 =>
    cases r2 with
    | cons hy r2 =>
    obtain ⟨t, rfl⟩ := (show ∃ t, x = Value.int n t from hx)
    obtain ⟨u, rfl⟩ := (show ∃ t, y = Value.int m t from hy)
    have h' : Q (if n = m then lexZ fin ns ms else decide (n < m)) s := h
    refine PySem.W.kat_cons (SeqAt.EqAt.int_int n t m u prog w _ _ ?_)
    refine PySem.W.kat_go (fun e1 => ?_) (fun e1 => ?_)
    · have ex : n = m := by simpa using e1
      rw [if_pos ex] at h'
      exact PySem.W.kat_yes (kat_ints ns ms xs ys (i + 1) r1 r2 h')
    · have ex : ¬ n = m := by simpa using e1
      rw [if_neg ex] at h'
      refine PySem.W.kat_no ?_
      cases i with
      | zero => exact oneLt_int h'
      | succ i => exact PySem.W.kat_one _ _ (PyProof.Rows.lt_int h')
/-- a tuple of ints -/
def IsTI (h : Heap) (v : Value) (ns : List Int) : Prop := ∃ a o its n, v = .ref a ∧ h.get? a = some o ∧ o.cls = .type "tuple" ∧ o.data = .seq its n ∧ Vals (ns.map V.int) its.toList
theorem IsTI.keeps {h h' : Heap} {v : Value} {ns : List Int} (p : IsTI h v ns) (k : ∀ b o, h.get? b = some o → o.cls = .type "tuple" → h'.get? b = some o) : IsTI h' v ns := by
  obtain ⟨a, o, its, n, e, ho, hc, hd, r⟩ := p
  exact ⟨a, o, its, n, e, k _ _ ho hc, hc, hd, r⟩
theorem tups_cmp {vs : List Value} {k : Value → List Int} (hp : ∀ v ∈ vs, IsTI s.heap v (k v)) : Cmp prog w A s (tuples' true) (fun p => p.1 ∈ vs) (lt2 fun v u => lexL (k v) (k u)) := by
  intro p q hm hm'
  have h1 := hp _ hm
  have h2 := hp _ hm'
  show wpAny (model prog w) A (keyLt' (tuples' true) p.1 q.1) (fun r s' => s' = s ∧ r = lexL (k p.1) (k q.1)) (fun _ _ => False) s
  obtain ⟨a, o, its, n, e, ho, hc, hd, r1⟩ := h1
  obtain ⟨a', o', its', n', e', ho', hc', hd', r2⟩ := h2
  have l1 : (k p.1).length = its.size := by
    have := Paired.length r1
    rw [List.length_map, Array.length_toList] at this
    exact this
  have l2 : (k q.1).length = its'.size := by
    have := Paired.length r2
    rw [List.length_map, Array.length_toList] at this
    exact this
  rw [e, e'] at *
  refine PySem.W.kat_lt ho hd ho' hd' (kat_ints _ _ _ _ 0 r1 r2 ⟨rfl, ?_⟩)
  exact lexZ_eq _ _ _ (by rw [l1, l2])
theorem tups_firsts {h : Heap} {k : Value → List Int} : ∀ {vs : List Value}, (∀ v ∈ vs, IsTI h v (k v) ∧ k v ≠ []) → ∃ fs, PySem.W.KatTups h vs fs ∧ fs.length = vs.length ∧ ∀ f ∈ fs, ∃ x t, f = Value.int x t
  | [], _ => ⟨[], PySem.W.KatTups.nil, rfl, fun f hf => by cases hf⟩
  | v :: vs, hv => by
    obtain ⟨fs, h1, h2, h3⟩ := tups_firsts fun u hu => hv u (List.mem_cons_of_mem _ hu)
    obtain ⟨⟨a, o, its, n, rfl, ho, hc, hd, r⟩, ne⟩ := hv v List.mem_cons_self
    obtain ⟨x, ns, ek⟩ := List.exists_cons_of_ne_nil ne
    rw [ek] at r
    obtain ⟨its⟩ := its
    cases its with
    | nil => cases r
    | cons f its =>
      cases r with
      | cons hf r =>
      obtain ⟨t, rfl⟩ := (show ∃ t, f = Value.int x t from hf)
      refine ⟨.int x t :: fs, PySem.W.KatTups.cons ho hc hd (by simp) h1, by rw [List.length_cons, List.length_cons, h2], fun g hg => ?_⟩
      rcases List.mem_cons.mp hg with rfl | hg
      · exact ⟨x, t, rfl⟩
      · exact h3 g hg
theorem tups_sortable {a : Addr} {vs : List Value} {k : Value → List Int} (h0 : 0 < vs.length) (hp : ∀ v ∈ vs, IsTI s.heap v (k v) ∧ k v ≠ []) (ha : ∀ o, s.heap.get? a = some o → o.cls ≠ .type "tuple") : SortableO prog w A s a vs fun v u => lexL (k v) (k u) := by
  intro h' keep
  have hp' : ∀ v ∈ vs, IsTI h' v (k v) ∧ k v ≠ [] := fun v hm => ⟨(hp v hm).1.keeps fun b o e c => keep b o (fun z => by subst z; exact ha o e c) e, (hp v hm).2⟩
  obtain ⟨fs, h1, h2, h3⟩ := tups_firsts hp'
  refine ⟨tuples' true, fun Q E hq => ?_, tups_cmp fun v hv => (hp' v hv).1⟩
  refine PySem.W.kat_kind (T := .type "int") h1 (by omega) (fun f hm => ?_) (by rfl) ?_
  · obtain ⟨x, t, rfl⟩ := h3 f hm
    exact PySem.W.Looks.now
  · have e : (Value.type "int" != Value.type "tuple") = true := by first | decide +kernel | rfl | decide
    rw [e]
    exact hq
theorem sorted_tups {l : Addr} {vs : List Value} {k : Value → List Int} {Q : Value → Shared → Prop} (hl : s.heap.IsList l vs.toArray) (hz : vs.length ≤ sizeLine) (hp : ∀ v ∈ vs, IsTI s.heap v (k v) ∧ k v ≠ [])
    (h : ∀ (h' : Heap) (d : Addr) (out : List Value), Srtd (fun v u => lexL (k v) (k u)) out → Stb (fun v u => lexL (k v) (k u)) out vs → (∀ b o, s.heap.get? b = some o → h'.get? b = some o) → s.heap.objs.size ≤ d → (∃ n, h'.get? d = some (seqObj "list" out.toArray n)) → Q (.ref d) { s with heap := h' }) :
    wpAny (model prog w) A (call (.builtin "sorted") [.ref l]) Q E s := by
  refine sorted_ord (swo_lexL k) hl hz (fun h2 h₁ a ha kk => ?_) fun out hs hb => ?_
  · refine tups_sortable (s := { s with heap := h₁ }) (by omega) (fun v hm => ⟨(hp v hm).1.keeps fun b o e _ => (kk b o e).2, (hp v hm).2⟩) fun o e => ?_
    have e' : some o = some (seqObj "list" vs.toArray 0) := e.symm.trans ha
    cases e'
    intro c
    exact absurd (Value.type.inj c) (by decide)
  · exact h _ _ out hs hb (fun b o e => sortedAll_old e) (Nat.le_succ _) (sortedAll_at s.heap vs out.toArray)
end
end SrtT
namespace SrtT
open PySem PySem.Spec PyProof.Rows Srt SrtO L2
theorem vals_ints : ∀ {a b : List Int} {l : List Value}, Vals (a.map V.int) l → Vals (b.map V.int) l → a = b
  | [], [], _, _, _ => rfl
  | [], _ :: _, [], _, h => by cases h
  | [], _ :: _, _ :: _, h, _ => by cases h
  | _ :: _, [], [], h, _ => by cases h
  | _ :: _, [], _ :: _, _, h => by cases h
  | x :: a, y :: b, [], h, _ => by cases h
  | x :: a, y :: b, u :: l, h1, h2 => by
    cases h1 with
    | cons hx h1 =>
    cases h2 with
    | cons hy h2 =>
    obtain ⟨t, rfl⟩ := (show ∃ t, u = Value.int x t from hx)
    obtain ⟨t2, e⟩ := (show ∃ q, Value.int x t = Value.int y q from hy)
    injection e with e1 e2
    rw [e1, vals_ints h1 h2]
theorem isTI_inj {h : Heap} {v : Value} {a b : List Int} (h1 : IsTI h v a) (h2 : IsTI h v b) : a = b := by
  obtain ⟨p, o, its, n, rfl, ho, hc, hd, r⟩ := h1
  obtain ⟨p2, o2, its2, n2, e, ho2, hc2, hd2, r2⟩ := h2
  injection e with e
  subst e
  rw [ho] at ho2
  injection ho2 with e
  subst e
  rw [hd] at hd2
  injection hd2 with e1 e2
  subst e1
  exact vals_ints r r2
open Classical in
noncomputable def kOf (h : Heap) (v : Value) : List Int := if e : ∃ ns, IsTI h v ns then Classical.choose e else []
theorem kOf_eq {h : Heap} {v : Value} {ns : List Int} (e : IsTI h v ns) : kOf h v = ns := by
  have ex : ∃ ns, IsTI h v ns := ⟨ns, e⟩
  unfold kOf
  rw [dif_pos ex]
  exact isTI_inj (Classical.choose_spec ex) e
def rSortedT2 (K : PySem.W.Frag) : List V → Hp → VK → Prop := fun vs H Q => ∃ (a : Addr) (xs : List V) (ms : List (List Int)), vs = [V.ref a] ∧ SqL K H a xs ∧ Paired (fun x m => ∃ t, x = V.ref t ∧ SqT K H t (m.map V.int) ∧ m ≠ []) xs ms ∧
  ∀ ys ns p, ns.Pairwise (fun a b => lexL b a = false) → ns.Perm ms → Paired (fun y n => ∃ t, y = V.ref t ∧ SqT K H t (n.map V.int)) ys ns → H p = none → Q (.ref p) (upd H p (.lst ys))
theorem paired_mem {α β : Type} {R : α → β → Prop} : ∀ {xs : List α} {ys : List β}, Paired R xs ys → ∀ x ∈ xs, ∃ y ∈ ys, R x y
  | _, _, .nil, x, h => by cases h
  | _, _, .cons h r, x, hx => by
    rcases List.mem_cons.mp hx with rfl | hx
    · exact ⟨_, List.mem_cons_self, h⟩
    · obtain ⟨y, hy, q⟩ := paired_mem r x hx
      exact ⟨y, List.mem_cons_of_mem _ hy, q⟩
theorem paired_map {α β γ : Type} {R : α → β → Prop} {f : γ → α} {g : γ → β} : ∀ {l : List γ}, (∀ x ∈ l, R (f x) (g x)) → Paired R (l.map f) (l.map g)
  | [], _ => .nil
  | x :: l, h => .cons (h x List.mem_cons_self) (paired_map fun y hy => h y (List.mem_cons_of_mem _ hy))
theorem cr_sortedT2 {X : Cx} : CallR X (.builtin "sorted") (rSortedT2 X.K) := by
  intro pins s σ H vs us Q I r h
  obtain ⟨a, xs, ms, rfl, hs, hx, q⟩ := h
  obtain ⟨its, rv, hl, hz⟩ := I.list hs
  obtain ⟨u, rfl, ru⟩ := vals1 r
  obtain rfl : u = Value.ref a := ru
  have tin : ∀ {t : Addr} {m : List Int}, SqT X.K H t (m.map V.int) → IsTI s.heap (Value.ref t) m := fun {t m} ht => by
    obtain ⟨its2, r2, ⟨o, ho, hc, hd⟩, _⟩ := I.tuple ht
    obtain ⟨n, hd⟩ : ∃ n, o.data = .seq its2.toArray n := hd
    exact ⟨t, o, _, n, rfl, ho, hc, hd, by rw [List.toList_toArray]; exact r2⟩
  obtain ⟨e1, e2⟩ := refs_back rv fun x m => by
    obtain ⟨_, _, t, e, _⟩ := paired_mem hx x m
    exact ⟨t, e⟩
  have each : ∀ v ∈ its, ∃ m ∈ ms, ∃ t, v = Value.ref t ∧ SqT X.K H t (m.map V.int) ∧ m ≠ [] := fun v hv => by
    obtain ⟨t, rfl⟩ := e2 v hv
    have hm : V.ref t ∈ xs := by rw [e1]; exact List.mem_map.mpr ⟨_, hv, rfl⟩
    obtain ⟨m, hm2, t', e, ht, ne⟩ := paired_mem hx _ hm
    cases e
    exact ⟨m, hm2, t, rfl, ht, ne⟩
  have ems : ms = its.map (kOf s.heap) := by
    have go : ∀ {xs : List V} {its : List Value} {ms : List (List Int)}, Vals xs its → Paired (fun x m => ∃ t, x = V.ref t ∧ SqT X.K H t (m.map V.int) ∧ m ≠ []) xs ms → ms = its.map (kOf s.heap) := by
      intro xs its ms r1
      unfold Vals at r1
      induction r1 generalizing ms with
      | nil => intro r2; cases r2; rfl
      | cons hv r1 ih =>
        intro r2
        cases r2 with
        | cons hm r2 =>
        obtain ⟨t, rfl, ht, _⟩ := hm
        have e : _ = Value.ref t := hv
        rw [List.map_cons, e, kOf_eq (tin ht), ← ih r2]
    exact go rv hx
  refine sorted_tups (k := kOf s.heap) hl.isList (by rw [← rv.length]; exact hz) (fun v hv => ?_) fun h' d out h1 h2 kp hd hn => ?_
  · obtain ⟨m, _, t, rfl, ht, ne⟩ := each v hv
    rw [kOf_eq (tin ht)]
    exact ⟨tin ht, ne⟩
  · have h3 : ∀ u ∈ out, ∃ a, u = Value.ref a := fun u hu => e2 u (h2.perm.mem_iff.mp hu)
    obtain ⟨n, hn⟩ := hn
    have lo : out.length = xs.length := by
      rw [h2.perm.length_eq]
      exact rv.length.symm
    refine ⟨.ref d, upd H d (.lst (out.map backV)), I.laid (t' := s.toks) kp hd ⟨?_, out, n, vals_back h3, hn⟩, rfl, q _ (out.map (kOf s.heap)) d (List.pairwise_map.mpr h1) (by rw [ems]; exact h2.perm.map _) (paired_map fun v hv => ?_) (I.hok.fresh hd)⟩
    · rw [List.length_map, lo]
      exact hz
    · obtain ⟨m, _, t, rfl, ht, ne⟩ := each v (h2.perm.mem_iff.mp hv)
      rw [kOf_eq (tin ht)]
      exact ⟨t, rfl, ht⟩
/-- two ascending lists of the same are one -/
theorem asc_uniq : ∀ {l m : List (List Int)}, l.Pairwise (fun a b => lexL b a = false) → m.Pairwise (fun a b => lexL b a = false) → l.Perm m → l = m
  | [], m, _, _, h => (List.Perm.eq_nil h.symm).symm
  | x :: l, [], _, _, h => absurd h.length_eq (by simp)
  | x :: l, y :: m, hl, hm, h => by
    have e : x = y := by
      have a := h.mem_iff.mp (List.mem_cons_self (a := x) (l := l))
      have b := h.mem_iff.mpr (List.mem_cons_self (a := y) (l := m))
      rcases List.mem_cons.mp a with a | a
      · exact a
      · rcases List.mem_cons.mp b with b | b
        · exact b.symm
        · exact lexL_eq _ _ ((List.pairwise_cons.mp hm).1 x a) ((List.pairwise_cons.mp hl).1 y b)
    subst e
    rw [asc_uniq (List.pairwise_cons.mp hl).2 (List.pairwise_cons.mp hm).2 h.cons_inv]
end SrtT
set_option Elab.async false
set_option linter.all false
set_option maxRecDepth 100000
set_option maxHeartbeats 1000000
namespace W13
open PySem L2 PySem.Spec PyProof.Rows WR WB WE SrtT
/-- r tells what m tells -/
def Agr (m : List (Option Nat)) (r : List Nat) : Prop := r.length = m.length ∧ ∀ i x : Nat, m[i]? = some (some x) → r[i]? = some x
theorem any_false {m : List (Option Nat)} (h : ¬ m.any Option.isNone = true) : m.any Option.isNone = false := by
  cases z : m.any Option.isNone with
  | false => rfl
  | true => exact absurd z h
theorem Agr.done {m : List (Option Nat)} {r : List Nat} (h : Agr m r) (no : m.any Option.isNone = false) : m.map (·.getD 0) = r := by
  refine List.ext_getElem (by rw [List.length_map]; exact h.1.symm) fun i h1 h2 => ?_
  rw [List.getElem_map]
  rw [List.length_map] at h1
  rw [List.any_eq_false] at no
  have := no m[i] (List.getElem_mem h1)
  cases e : m[i] with
  | none => rw [e] at this; exact absurd rfl this
  | some x =>
    have := h.2 i x (by rw [List.getElem?_eq_getElem h1, e])
    rw [List.getElem?_eq_getElem h2] at this
    exact (Option.some.inj this).symm
theorem Agr.of_done {m : List (Option Nat)} (no : m.any Option.isNone = false) : Agr m (m.map (·.getD 0)) := by
  refine ⟨by rw [List.length_map], fun i x hx => ?_⟩
  rw [List.getElem?_map, hx]
  rfl
theorem fill_agr {ls : List Int} (hl : Lts ls) : ∀ (d : Nat) (m : List (Option Nat)), MtOk ls m → ∀ r ∈ fillF (prtF ls) d m, Agr m r
  | 0, m, _, r, hr => nomatch hr
  | d + 1, m, h, r, hr => by
    by_cases no : m.any Option.isNone = true
    · rw [fill_yes no, List.mem_flatten] at hr
      obtain ⟨l, hl1, hr⟩ := hr
      obtain ⟨q, hq, rfl⟩ := List.mem_map.mp hl1
      unfold fillG at hr
      split at hr
      · rename_i hn
        have lp := fN_lt no
        have hp := fN_at no
        have hq2 := getD_none hn
        obtain ⟨a, b⟩ := prt_at (by rw [← h.1]; exact lp) hq
        have ih := fill_agr hl d _ (h.step hl hp hq2 b) r hr
        refine ⟨by rw [ih.1, List.length_set, List.length_set], fun i x hx => ih.2 i x ?_⟩
        have n1 : i ≠ q := fun z => by rw [z, hq2] at hx; injection hx with z; cases z
        have n2 : i ≠ fN m := fun z => by rw [z, hp] at hx; injection hx with z; cases z
        rw [List.getElem?_set, if_neg (fun z => n1 z.symm), List.getElem?_set, if_neg (fun z => n2 z.symm)]
        exact hx
      · cases hr
    · have no' := any_false no
      rw [fill_no no', List.mem_singleton] at hr
      rw [hr]
      exact Agr.of_done no'
theorem mat_at {ls : List Int} {r : List Nat} (h : MatOk ls (nats r)) {p q : Nat} (hp : r[p]? = some q) : p < ls.length ∧ q < ls.length ∧ q ≠ p ∧ r[q]? = some p ∧ ls.getD q 0 = -ls.getD p 0 := by
  obtain ⟨⟨⟨hlen, rng⟩, inv⟩, con⟩ := h
  have e1 : (nats r).length = r.length := List.length_map _
  obtain ⟨lp, eq⟩ := List.getElem?_eq_some_iff.mp hp
  have lp2 : p < (nats r).length := by rw [e1]; exact lp
  have g : (nats r)[p] = (q : Int) := by
    show (r.map fun (x : Nat) => (x : Int))[p]'(by rw [List.length_map]; exact lp) = _
    rw [List.getElem_map, eq]
  have i1 := inv p lp2
  have c1 := con p lp2
  rw [g, Int.toNat_natCast] at i1 c1
  have i2 := i1.2
  have rq := rng _ (List.getElem_mem lp2)
  rw [g] at rq
  refine ⟨by rw [← hlen, e1]; exact lp, by omega, fun z => i1.1 (by rw [z]), ?_, c1⟩
  show r[q]? = some p
  have : (nats r)[q]? = (r[q]?).map fun (x : Nat) => (x : Int) := List.getElem?_map
  rw [this] at i2
  cases e : r[q]? with
  | none => rw [e] at i2; cases i2
  | some x =>
    rw [e] at i2
    have z : ((x : Nat) : Int) = (p : Int) := Option.some.inj i2
    rw [show x = p by omega]
theorem set2_cN {m : List (Option Nat)} {p q : Nat} (hp : m[p]? = some none) (hq : m[q]? = some none) (n : q ≠ p) : cN ((m.set p (some q)).set q (some p)) + 2 = cN m := by
  have a := cN_none (x := q) hp
  have b : cN ((m.set p (some q)).set q (some p)) + 1 = cN (m.set p (some q)) := cN_none (by
    rw [List.getElem?_set, if_neg (fun z => n z.symm)]
    exact hq)
  omega
theorem lex_at : ∀ {a b : List Int} {p : Nat} {x y : Int}, (∀ i, i < p → a[i]? = b[i]?) → a[p]? = some x → b[p]? = some y → x < y → lexL a b = true
  | [], _, p, _, _, _, h, _, _ => by rw [List.getElem?_nil] at h; cases h
  | _ :: _, [], p, _, _, _, _, h, _ => by rw [List.getElem?_nil] at h; cases h
  | u :: a, v :: b, 0, x, y, _, h1, h2, l => by
    rw [List.getElem?_cons_zero] at h1 h2
    obtain rfl := Option.some.inj h1
    obtain rfl := Option.some.inj h2
    exact lexL_cons.mpr (.inl l)
  | u :: a, v :: b, p + 1, x, y, h, h1, h2, l => by
    have e := h 0 (Nat.succ_pos _)
    rw [List.getElem?_cons_zero, List.getElem?_cons_zero] at e
    rw [List.getElem?_cons_succ] at h1 h2
    exact lexL_cons.mpr (.inr ⟨Option.some.inj e, lex_at (fun i hi => by
      have := h (i + 1) (Nat.succ_lt_succ hi)
      rw [List.getElem?_cons_succ, List.getElem?_cons_succ] at this
      exact this) h1 h2 l⟩)
theorem nats_at {r : List Nat} {i : Nat} : (nats r)[i]? = (r[i]?).map fun (x : Nat) => (x : Int) := List.getElem?_map
/-- what is ahead of the first open place is told -/
theorem ahead {m : List (Option Nat)} {j : Nat} (hj : j < fN m) (hl : j < m.length) : ∃ x, m[j]? = some (some x) := by
  cases e : m[j] with
  | none =>
    have := fN_not hj (by rw [List.getElem?_eq_getElem hl, e])
    cases this
  | some x => exact ⟨x, by rw [List.getElem?_eq_getElem hl, e]⟩
/-- ascending -/
theorem fill_asc {ls : List Int} (hl : Lts ls) : ∀ (d : Nat) (m : List (Option Nat)), MtOk ls m → (fillF (prtF ls) d m).Pairwise fun a b => lexL (nats a) (nats b) = true
  | 0, m, _ => List.Pairwise.nil
  | d + 1, m, h => by
    by_cases no : m.any Option.isNone = true
    · have lp := fN_lt no
      have hp := fN_at no
      have gq : ∀ q r, q ∈ (prtF ls).getD (fN m) [] → r ∈ fillG (prtF ls) d m q → MtOk ls ((m.set (fN m) (some q)).set q (some (fN m))) ∧ Agr m r ∧ r[fN m]? = some q := by
        intro q r hq hr
        unfold fillG at hr
        split at hr
        · rename_i hn
          have hq2 := getD_none hn
          obtain ⟨a, b⟩ := prt_at (by rw [← h.1]; exact lp) hq
          have st := h.step hl hp hq2 b
          have ih := fill_agr hl d _ st r hr
          have lq := (List.getElem?_eq_some_iff.mp hq2).1
          have nqp : q ≠ fN m := fun z => by
            have := getD_ne hl (i := fN m) (by rw [← h.1]; exact lp)
            rw [z] at b
            omega
          refine ⟨st, ⟨by rw [ih.1, List.length_set, List.length_set], fun i x hx => ih.2 i x ?_⟩, ih.2 _ _ ?_⟩
          · have n1 : i ≠ q := fun z => by rw [z, hq2] at hx; injection hx with z; cases z
            have n2 : i ≠ fN m := fun z => by rw [z, hp] at hx; injection hx with z; cases z
            rw [set2_at lp lq nqp, if_neg n1, if_neg n2]
            exact hx
          · rw [set2_at lp lq nqp, if_neg (fun z => nqp z.symm), if_pos rfl]
        · cases hr
      rw [fill_yes no]
      rw [List.pairwise_flatten]
      refine ⟨fun l hl1 => ?_, ?_⟩
      · obtain ⟨q, hq, rfl⟩ := List.mem_map.mp hl1
        unfold fillG
        split
        · rename_i hn
          obtain ⟨a, b⟩ := prt_at (by rw [← h.1]; exact lp) hq
          exact fill_asc hl d _ (h.step hl hp (getD_none hn) b)
        · exact List.Pairwise.nil
      · rw [List.pairwise_map]
        have asc : ((prtF ls).getD (fN m) []).Pairwise (· < ·) := by
          unfold prtF
          rw [List.getD_eq_getElem?_getD, List.getElem?_map]
          cases ls[fN m]? with
          | none => exact List.Pairwise.nil
          | some l => exact List.Pairwise.filter _ List.pairwise_lt_range
        refine asc.imp_of_mem fun {q q'} hq hq' lt r hr r' hr' => ?_
        obtain ⟨_, a1, a2⟩ := gq q r hq hr
        obtain ⟨_, b1, b2⟩ := gq q' r' hq' hr'
        refine lex_at (p := fN m) (x := (q : Int)) (y := (q' : Int)) (fun i hi => ?_) (by rw [nats_at, a2]; rfl) (by rw [nats_at, b2]; rfl) (by omega)
        obtain ⟨x, hx⟩ := ahead hi (Nat.lt_trans hi lp)
        rw [nats_at, nats_at, a1.2 i x hx, b1.2 i x hx]
    · rw [fill_no (any_false no)]
      exact List.pairwise_singleton _ _
theorem start_ok (ls : List Int) : MtOk ls (List.replicate (prtF ls).length none) := by
  refine ⟨by rw [List.length_replicate, prt_len], fun i x hx => ?_⟩
  rw [List.getElem?_replicate] at hx
  split at hx
  · injection hx with z; cases z
  · cases hx
theorem mates_asc {ls : List Int} (hl : Lts ls) : (matesF (prtF ls)).Pairwise fun a b => lexL (nats a) (nats b) = true := fill_asc hl 25 _ (start_ok ls)
theorem mates_nodup {ls : List Int} (hl : Lts ls) : (matesF (prtF ls)).Nodup := (mates_asc hl).imp fun {a b} h e => by
  rw [e, lexL_irr] at h
  cases h
end W13
set_option Elab.async false
set_option linter.all false
set_option maxRecDepth 100000
set_option maxHeartbeats 1000000
namespace W13
open PySem L2 PySem.Spec PyProof.Rows WR WB WE SrtT
theorem cnt_one (P : Nat → Bool) {p : Nat} : ∀ {n : Nat}, p < n → (List.range n).countP P = (List.range n).countP (fun i => P i && decide (i ≠ p)) + (if P p = true then 1 else 0)
  | 0, h => absurd h (Nat.not_lt_zero _)
  | n + 1, h => by
    rw [List.range_succ, List.countP_append, List.countP_append, List.countP_singleton, List.countP_singleton]
    by_cases e : p = n
    · subst e
      have c : (List.range p).countP P = (List.range p).countP (fun i => P i && decide (i ≠ p)) := by
        refine List.countP_congr fun i hi => ?_
        have := List.mem_range.mp hi
        rw [decide_eq_true (show i ≠ p by omega), Bool.and_true]
      rw [c, decide_eq_false (show ¬ p ≠ p from fun z => z rfl), Bool.and_false]
      rfl
    · have ih := cnt_one P (p := p) (n := n) (by omega)
      rw [ih, decide_eq_true (show n ≠ p from fun z => e z.symm), Bool.and_true]
      exact Nat.add_right_comm _ _ _
def rem (ls : List Int) (m : List (Option Nat)) (l : Int) : Nat := (List.range ls.length).countP fun i => decide (m[i]? = some none) && decide (ls.getD i 0 = l)
theorem rem_step {ls : List Int} {m : List (Option Nat)} {p q : Nat} (hl : m.length = ls.length) (hp : m[p]? = some none) (hq : m[q]? = some none) (n : q ≠ p) (l : Int) :
    rem ls m l = rem ls ((m.set p (some q)).set q (some p)) l + (if ls.getD q 0 = l then 1 else 0) + (if ls.getD p 0 = l then 1 else 0) := by
  have lp := (List.getElem?_eq_some_iff.mp hp).1
  have lq := (List.getElem?_eq_some_iff.mp hq).1
  unfold rem
  rw [cnt_one (fun i => decide (m[i]? = some none) && decide (ls.getD i 0 = l)) (p := p) (by rw [← hl]; exact lp),
    cnt_one (fun i => (decide (m[i]? = some none) && decide (ls.getD i 0 = l)) && decide (i ≠ p)) (p := q) (by rw [← hl]; exact lq)]
  have e1 : (if (decide (m[p]? = some none) && decide (ls.getD p 0 = l)) = true then 1 else 0) = if ls.getD p 0 = l then 1 else 0 := by
    rw [decide_eq_true hp, Bool.true_and]
    by_cases c : ls.getD p 0 = l
    · rw [if_pos c, if_pos (decide_eq_true c)]
    · rw [if_neg c, if_neg (by rw [decide_eq_false c]; decide)]
  have e2 : (if ((decide (m[q]? = some none) && decide (ls.getD q 0 = l)) && decide (q ≠ p)) = true then 1 else 0) = if ls.getD q 0 = l then 1 else 0 := by
    rw [decide_eq_true hq, Bool.true_and, decide_eq_true n, Bool.and_true]
    by_cases c : ls.getD q 0 = l
    · rw [if_pos c, if_pos (decide_eq_true c)]
    · rw [if_neg c, if_neg (by rw [decide_eq_false c]; decide)]
  rw [e1, e2]
  congr 2
  refine List.countP_congr fun i hi => ?_
  rw [set2_at lp lq n]
  by_cases c1 : i = q
  · rw [if_pos c1, decide_eq_false (show ¬ i ≠ q from fun z => z c1), Bool.and_false, decide_eq_false (fun z => by injection z with z; cases z), Bool.false_and]
  · rw [if_neg c1, decide_eq_true c1, Bool.and_true]
    by_cases c2 : i = p
    · rw [if_pos c2, decide_eq_false (show ¬ i ≠ p from fun z => z c2), Bool.and_false, decide_eq_false (fun z => by injection z with z; cases z), Bool.false_and]
    · rw [if_neg c2, decide_eq_true c2, Bool.and_true]
theorem rem_start (ls : List Int) (l : Int) : rem ls (List.replicate (prtF ls).length none) l = ls.count l := by
  unfold rem
  have e : ∀ i ∈ List.range ls.length, (decide ((List.replicate (prtF ls).length (none : Option Nat))[i]? = some none) && decide (ls.getD i 0 = l)) = true ↔ decide (ls.getD i 0 = l) = true := fun i hi => by
    rw [List.getElem?_replicate, prt_len, if_pos (List.mem_range.mp hi), decide_eq_true rfl, Bool.true_and]
  rw [List.countP_congr e]
  have : ls = (List.range ls.length).map fun i => ls.getD i 0 := by
    refine List.ext_getElem (by simp) fun i h1 h2 => ?_
    rw [List.getElem_map, List.getElem_range, List.getD_eq_getElem?_getD, List.getElem?_eq_getElem h1]
    rfl
  conv => rhs; rw [this]
  rw [List.count_eq_countP, List.countP_map]
  refine List.countP_congr fun i hi => ?_
  show decide _ = true ↔ (ls.getD i 0 == l) = true
  rw [decide_eq_true_iff, beq_iff_eq]
theorem rem_done {ls : List Int} {m : List (Option Nat)} (no : m.any Option.isNone = false) (l : Int) : rem ls m l = 0 := by
  unfold rem
  rw [List.countP_eq_zero]
  intro i _ h
  rw [Bool.and_eq_true, decide_eq_true_iff] at h
  have := List.getElem?_eq_some_iff.mp h.1
  rw [List.any_eq_false] at no
  exact no none (by rw [← this.2]; exact List.getElem_mem this.1) rfl
theorem foldl_mul : ∀ (l : List Nat) (a : Nat), l.foldl (· * ·) a = a * l.foldl (· * ·) 1
  | [], a => (Nat.mul_one a).symm
  | x :: r, a => by
    rw [List.foldl_cons, List.foldl_cons, foldl_mul r (a * x), foldl_mul r (1 * x), Nat.one_mul, Nat.mul_assoc]
def prd (ks : List Int) (f : Int → Nat) : Nat := (ks.map f).foldl (· * ·) 1
theorem prd_cons {k : Int} {ks : List Int} {f : Int → Nat} : prd (k :: ks) f = f k * prd ks f := by
  unfold prd
  rw [List.map_cons, List.foldl_cons, Nat.one_mul, foldl_mul]
theorem prd_one {f : Int → Nat} : ∀ {ks : List Int}, (∀ k ∈ ks, f k = 1) → prd ks f = 1
  | [], _ => rfl
  | k :: ks, h => by rw [prd_cons, h k List.mem_cons_self, prd_one fun j hj => h j (List.mem_cons_of_mem _ hj)]
theorem prd_congr {f g : Int → Nat} : ∀ {ks : List Int}, (∀ k ∈ ks, f k = g k) → prd ks f = prd ks g
  | [], _ => rfl
  | k :: ks, h => by rw [prd_cons, prd_cons, h k List.mem_cons_self, prd_congr fun j hj => h j (List.mem_cons_of_mem _ hj)]
theorem prd_put {f g : Int → Nat} {k0 : Int} {r : Nat} : ∀ {ks : List Int}, ks.Nodup → k0 ∈ ks → (∀ k ∈ ks, k ≠ k0 → f k = g k) → f k0 = r * g k0 → prd ks f = r * prd ks g
  | [], _, h, _, _ => by cases h
  | k :: ks, nd, h, he, h0 => by
    rw [List.nodup_cons] at nd
    rw [prd_cons, prd_cons]
    by_cases e : k = k0
    · subst e
      rw [h0, prd_congr (g := g) fun j hj => he j (List.mem_cons_of_mem _ hj) (fun z => nd.1 (by rw [← z]; exact hj)), Nat.mul_assoc]
    · have hm : k0 ∈ ks := (List.mem_cons.mp h).resolve_left fun z => e z.symm
      rw [he k List.mem_cons_self e, prd_put nd.2 hm (fun j hj => he j (List.mem_cons_of_mem _ hj)) h0]
      rw [Nat.mul_left_comm]
theorem fct_succ : ∀ n, n < 25 → fct (n + 1) = (n + 1) * fct n := by decide +kernel
theorem kinds_nodup (ls : List Int) : (kindsF ls).Nodup := by
  unfold kindsF
  refine List.Pairwise.filter _ ?_
  exact List.pairwise_map.mpr (List.Pairwise.imp (fun {a b} h => by omega) List.pairwise_lt_range)
theorem kinds_mem {ls : List Int} (hl : Lts ls) {l : Int} (h : l ∈ ls) : ((l.natAbs : Nat) : Int) ∈ kindsF ls := by
  obtain ⟨a, b⟩ := hl l h
  unfold kindsF
  rw [List.mem_filter, decide_eq_true_iff, List.mem_map]
  refine ⟨⟨l.natAbs - 1, List.mem_range.mpr (by omega), by omega⟩, ?_⟩
  rcases Int.natAbs_eq l with z | z
  · exact .inl (by rw [← z]; exact h)
  · exact .inr (by rw [← z]; exact h)
theorem kinds_pos {ls : List Int} {k : Int} (h : k ∈ kindsF ls) : 1 ≤ k := by
  unfold kindsF at h
  obtain ⟨i, _, e⟩ := List.mem_map.mp (List.mem_filter.mp h).1
  omega
theorem flat_len {α β : Type} {g : α → List β} {f : α → Bool} {c : Nat} : ∀ {row : List α}, (∀ q ∈ row, (g q).length = if f q = true then c else 0) → (row.map g).flatten.length = row.countP f * c
  | [], _ => by simp
  | q :: row, h => by
    rw [List.map_cons, List.flatten_cons, List.length_append, h q List.mem_cons_self, flat_len fun x hx => h x (List.mem_cons_of_mem _ hx), List.countP_cons]
    split
    · rw [Nat.add_mul, Nat.one_mul, Nat.add_comm]
    · rw [Nat.add_zero, Nat.zero_add]
theorem rem_le (ls : List Int) (m : List (Option Nat)) (l : Int) : rem ls m l ≤ ls.length := by
  have := List.countP_le_length (p := fun i => decide (m[i]? = some none) && decide (ls.getD i 0 = l)) (l := List.range ls.length)
  rw [List.length_range] at this
  exact this
theorem fill_len {ls : List Int} (hl : Lts ls) (h24 : ls.length ≤ 24) : ∀ (d : Nat) (m : List (Option Nat)), MtOk ls m → (∀ l, rem ls m l = rem ls m (-l)) → cN m < d → (fillF (prtF ls) d m).length = prd (kindsF ls) fun k => fct (rem ls m k)
  | 0, m, _, _, hd => absurd hd (Nat.not_lt_zero _)
  | d + 1, m, h, bal, hd => by
    by_cases no : m.any Option.isNone = true
    · have lp := fN_lt no
      have hp := fN_at no
      have lpl : fN m < ls.length := by rw [← h.1]; exact lp
      obtain ⟨l0, e0⟩ : ∃ l0, l0 = ls.getD (fN m) 0 := ⟨_, rfl⟩
      have m0 : l0 ∈ ls := by
        rw [e0, List.getD_eq_getElem?_getD, List.getElem?_eq_getElem lpl]
        exact List.getElem_mem lpl
      obtain ⟨k0, ek⟩ : ∃ k0 : Int, k0 = ((l0.natAbs : Nat) : Int) := ⟨_, rfl⟩
      have hk0 : k0 ∈ kindsF ls := by rw [ek]; exact kinds_mem hl m0
      have nz : l0 ≠ 0 := by rw [e0]; exact getD_ne hl lpl
      have r0 : rem ls m k0 = rem ls m (-l0) := by
        rcases Int.natAbs_eq l0 with z | z
        · rw [ek, ← z, bal l0]
        · rw [ek, show ((l0.natAbs : Nat) : Int) = -l0 by omega]
      have pos : 1 ≤ rem ls m k0 := by
        have : 0 < rem ls m l0 := by
          unfold rem
          rw [List.countP_pos_iff]
          exact ⟨fN m, List.mem_range.mpr lpl, by rw [decide_eq_true hp, ← e0, decide_eq_true rfl]; rfl⟩
        rw [r0, ← bal]
        exact this
      have each : ∀ q ∈ (prtF ls).getD (fN m) [], (fillG (prtF ls) d m q).length = if (decide (m[q]? = some none)) = true then prd (kindsF ls) (fun k => fct (if k = k0 then rem ls m k0 - 1 else rem ls m k)) else 0 := by
        intro q hq
        unfold fillG
        split
        · rename_i hn
          have hq2 := getD_none hn
          rw [if_pos (decide_eq_true hq2)]
          obtain ⟨a, b⟩ := prt_at lpl hq
          have nqp : q ≠ fN m := fun z => by
            rw [z, ← e0] at b
            omega
          have st := rem_step h.1 hp hq2 nqp
          rw [b, ← e0] at st
          have c2 := set2_cN hp hq2 nqp
          rw [fill_len hl h24 d _ (h.step hl hp hq2 b) (fun l => ?_) (by omega)]
          · refine prd_congr fun k hk => ?_
            have kp := kinds_pos hk
            have s := st k
            by_cases e : k = k0
            · subst e
              rw [if_pos rfl]
              congr 1
              rcases Int.natAbs_eq l0 with z | z
              · rw [if_neg (by omega), if_pos (by omega)] at s
                omega
              · rw [if_pos (by omega), if_neg (by omega)] at s
                omega
            · rw [if_neg e]
              congr 1
              rw [if_neg (by omega), if_neg (by omega)] at s
              omega
          · have s1 := st l
            have s2 := st (-l)
            have b1 := bal l
            by_cases c1 : l0 = l
            · rw [if_pos c1] at s1
              rw [if_pos (show -l0 = -l by omega)] at s2
              rw [if_neg (show ¬ -l0 = l by omega)] at s1
              rw [if_neg (show ¬ l0 = -l by omega)] at s2
              omega
            · by_cases c2 : l0 = -l
              · rw [if_neg c1, if_pos (show -l0 = l by omega)] at s1
                rw [if_pos c2, if_neg (show ¬ -l0 = -l by omega)] at s2
                omega
              · rw [if_neg c1, if_neg (show ¬ -l0 = l by omega)] at s1
                rw [if_neg c2, if_neg (show ¬ -l0 = -l by omega)] at s2
                omega
        · rename_i hn
          rw [if_neg]
          · rfl
          · intro z
            rw [decide_eq_true_iff] at z
            exact hn (by rw [List.getD_eq_getElem?_getD, z]; rfl)
      rw [fill_yes no, flat_len each]
      have row : ((prtF ls).getD (fN m) []).countP (fun q => decide (m[q]? = some none)) = rem ls m k0 := by
        rw [r0]
        unfold prtF rem
        rw [List.getD_eq_getElem?_getD, List.getElem?_map, List.getElem?_eq_getElem lpl]
        show ((List.range ls.length).filter fun j => decide (ls.getD j 0 = -ls[fN m])).countP _ = _
        rw [List.countP_filter]
        have el : ls[fN m] = l0 := by
          rw [e0, List.getD_eq_getElem?_getD, List.getElem?_eq_getElem lpl]
          rfl
        rw [el]
      rw [row]
      symm
      refine prd_put (kinds_nodup ls) hk0 (fun k _ ne => by rw [if_neg ne]) ?_
      rw [if_pos rfl]
      have lt : rem ls m k0 - 1 < 25 := by
        have := rem_le ls m k0
        omega
      have := fct_succ _ lt
      rw [show rem ls m k0 - 1 + 1 = rem ls m k0 by omega] at this
      exact this
    · rw [fill_no (any_false no), prd_one fun k _ => by rw [rem_done (any_false no)]; decide +kernel]
      rfl
theorem mates_len {ls : List Int} (hl : Lts ls) (h24 : ls.length ≤ 24) (bal : ∀ l, ls.count l = ls.count (-l)) : (matesF (prtF ls)).length = manyF ls := by
  unfold matesF
  rw [fill_len hl h24 25 _ (start_ok ls) (fun l => by rw [rem_start, rem_start, bal]) ?_]
  · show prd _ _ = prd _ _
    refine prd_congr fun k _ => ?_
    rw [rem_start]
  · have := List.countP_le_length (p := Option.isNone) (l := List.replicate (prtF ls).length (none : Option Nat))
    rw [List.length_replicate, prt_len] at this
    unfold cN
    rw [prt_len]
    omega
end W13
set_option Elab.async false
set_option linter.all false
set_option maxRecDepth 100000
set_option maxHeartbeats 1000000
namespace W13
open PySem L2 PySem.Spec PyProof.Rows WR WB WE SrtT
theorem perm_sub {α : Type} [DecidableEq α] : ∀ {l1 l2 : List α}, l1.Nodup → (∀ x ∈ l1, x ∈ l2) → l2.length ≤ l1.length → l1.Perm l2
  | [], l2, _, _, h => by
    rw [List.eq_nil_of_length_eq_zero (Nat.le_zero.mp h)]
  | x :: r, l2, nd, sub, h => by
    rw [List.nodup_cons] at nd
    have hx := sub x List.mem_cons_self
    have p := List.perm_cons_erase hx
    have le : (l2.erase x).length + 1 = l2.length := by
      have := p.length_eq
      rw [List.length_cons] at this
      exact this.symm
    refine (List.Perm.cons x (perm_sub nd.2 (fun y hy => ?_) ?_)).trans p.symm
    · exact (List.mem_erase_of_ne (fun z => nd.1 (by rw [← z]; exact hy))).mpr (sub y (List.mem_cons_of_mem _ hy))
    · rw [List.length_cons] at h
      omega
theorem ext_len {o : List Int} : ∀ {xs : List Int}, (xs.filterMap (extF o)).length = xs.countP fun e => decide (e ∉ o)
  | [] => rfl
  | e :: xs => by
    rw [List.filterMap_cons, List.countP_cons]
    unfold extF
    by_cases h : e ∈ o
    · rw [if_pos h, if_neg (by rw [decide_eq_false (fun z => z h)]; decide)]
      exact ext_len
    · rw [if_neg h, if_pos (decide_eq_true h), List.length_cons]
      congr 1
      exact ext_len
theorem ext_mem {o xs : List Int} {p : List Int} (h : p ∈ xs.filterMap (extF o)) : ∃ e, e ∈ xs ∧ e ∉ o ∧ p = o ++ [e] := by
  obtain ⟨e, he, hp⟩ := List.mem_filterMap.mp h
  unfold extF at hp
  split at hp
  · cases hp
  · rename_i n
    exact ⟨e, he, n, (Option.some.inj hp).symm⟩
theorem ord_ok {xs : List Int} : ∀ k, ∀ o ∈ ordF xs k, o.length = k ∧ o.Nodup ∧ ∀ x ∈ o, x ∈ xs
  | 0, o, h => by
    have h : o ∈ ([[]] : List (List Int)) := h
    rw [List.mem_singleton.mp h]
    exact ⟨rfl, List.Pairwise.nil, fun x hx => by cases hx⟩
  | k + 1, o, h => by
    have h : o ∈ ((ordF xs k).map fun o => xs.filterMap (extF o)).flatten := h
    obtain ⟨l, hl, ho⟩ := List.mem_flatten.mp h
    obtain ⟨o', ho', rfl⟩ := List.mem_map.mp hl
    obtain ⟨e, he, ne, rfl⟩ := ext_mem ho
    obtain ⟨a, b, c⟩ := ord_ok k o' ho'
    refine ⟨by rw [List.length_append, a]; rfl, ?_, fun x hx => ?_⟩
    · refine List.pairwise_append.mpr ⟨b, List.pairwise_singleton _ _, fun x hx y hy => ?_⟩
      rw [List.mem_singleton.mp hy]
      exact fun z => ne (by rw [← z]; exact hx)
    · rcases List.mem_append.mp hx with hx | hx
      · exact c x hx
      · rw [List.mem_singleton.mp hx]
        exact he
theorem cnt_out {o : List Int} : ∀ {xs : List Int}, xs.Nodup → o.Nodup → (∀ x ∈ o, x ∈ xs) → xs.countP (fun e => decide (e ∉ o)) + o.length = xs.length := by
  intro xs nx no sub
  have h1 : xs.countP (fun e => decide (e ∉ o)) + xs.countP (fun e => decide (e ∈ o)) = xs.length := by
    have := List.length_eq_countP_add_countP (fun e => decide (e ∈ o)) (l := xs)
    rw [this, Nat.add_comm]
    congr 1
    refine List.countP_congr fun e _ => ?_
    rw [decide_eq_true_iff]
    simp
  have h2 : (xs.filter fun e => decide (e ∈ o)).Perm o := by
    rw [List.perm_ext_iff_of_nodup (List.Pairwise.filter _ nx) no]
    intro a
    rw [List.mem_filter, decide_eq_true_iff]
    exact ⟨fun h => h.2, fun h => ⟨sub a h, h⟩⟩
  rw [← h2.length_eq, ← List.countP_eq_length_filter]
  exact h1
theorem sum_const {α β : Type} {g : α → List β} {c : Nat} : ∀ {l : List α}, (∀ x ∈ l, (g x).length = c) → (l.map g).flatten.length = l.length * c
  | [], _ => by simp
  | x :: l, h => by
    rw [List.map_cons, List.flatten_cons, List.length_append, h x List.mem_cons_self, sum_const fun y hy => h y (List.mem_cons_of_mem _ hy), List.length_cons, Nat.add_mul, Nat.one_mul, Nat.add_comm]
theorem ord_len {xs : List Int} (nx : xs.Nodup) (h24 : xs.length ≤ 24) : ∀ k, k ≤ xs.length → (ordF xs k).length * fct (xs.length - k) = fct xs.length
  | 0, _ => by
    show 1 * _ = _
    rw [Nat.one_mul, Nat.sub_zero]
  | k + 1, h => by
    have e : (ordF xs (k + 1)).length = (ordF xs k).length * (xs.length - k) := by
      show (((ordF xs k).map fun o => xs.filterMap (extF o)).flatten).length = _
      refine sum_const fun o ho => ?_
      obtain ⟨a, b, c⟩ := ord_ok k o ho
      have := cnt_out nx b c
      rw [ext_len]
      omega
    have ih := ord_len nx h24 k (by omega)
    have f := fct_succ (xs.length - (k + 1)) (by omega)
    rw [show xs.length - (k + 1) + 1 = xs.length - k by omega] at f
    rw [e, Nat.mul_assoc, ← f]
    exact ih
theorem ord_all {xs : List Int} : ∀ k (o : List Int), o.length = k → o.Nodup → (∀ x ∈ o, x ∈ xs) → o ∈ ordF xs k
  | 0, o, h, _, _ => by
    rw [List.length_eq_zero_iff.mp h]
    exact List.mem_singleton.mpr rfl
  | k + 1, o, h, nd, sub => by
    obtain ⟨o', e, rfl⟩ : ∃ o' e, o = o' ++ [e] := ⟨o.dropLast, o.getLast (fun z => by rw [z] at h; cases h), (List.dropLast_concat_getLast _).symm⟩
    rw [List.length_append] at h
    have h : o'.length + 1 = k + 1 := h
    obtain ⟨n1, _, n2⟩ := List.pairwise_append.mp nd
    have ih := ord_all k o' (by omega) n1 fun x hx => sub x (List.mem_append_left _ hx)
    show o' ++ [e] ∈ ((ordF xs k).map fun o => xs.filterMap (extF o)).flatten
    refine List.mem_flatten.mpr ⟨_, List.mem_map.mpr ⟨o', ih, rfl⟩, List.mem_filterMap.mpr ⟨e, sub e (List.mem_append_right _ List.mem_cons_self), ?_⟩⟩
    unfold extF
    rw [if_neg (fun z => n2 e z e List.mem_cons_self rfl)]
def putP (m : List Int) (p : Int × Int) : List Int := (m.set p.1.toNat p.2).set p.2.toNat p.1
def putF (m F o : List Int) : List Int := (F.zip o).foldl putP m
def plcF (ls : List Int) (l : Int) : List Int := nats ((List.range ls.length).filter fun i => decide (ls.getD i 0 = l))
def allN (ls : List Int) (found : List (List Int)) (k : Int) : List (List Int) := ((ordF (plcF ls (-k)) (plcF ls (-k)).length).map fun o => found.map fun m => putF m (plcF ls k) o).flatten
def allF (ls : List Int) : List (List Int) := (kindsF ls).foldl (allN ls) [List.replicate ls.length 0]
theorem plc_nodup (ls : List Int) (l : Int) : (plcF ls l).Nodup := by
  unfold plcF nats
  exact List.pairwise_map.mpr (List.Pairwise.imp (fun {a b} h => by omega) (List.Pairwise.filter _ List.pairwise_lt_range))
theorem plc_mem {ls : List Int} {l x : Int} : x ∈ plcF ls l ↔ ∃ i : Nat, x = (i : Int) ∧ i < ls.length ∧ ls.getD i 0 = l := by
  unfold plcF nats
  rw [List.mem_map]
  constructor
  · rintro ⟨i, hi, rfl⟩
    rw [List.mem_filter, List.mem_range, decide_eq_true_iff] at hi
    exact ⟨i, rfl, hi⟩
  · rintro ⟨i, rfl, h⟩
    exact ⟨i, by rw [List.mem_filter, List.mem_range, decide_eq_true_iff]; exact h, rfl⟩
theorem plc_len (ls : List Int) (l : Int) : (plcF ls l).length = ls.count l := by
  unfold plcF nats
  rw [List.length_map, ← List.countP_eq_length_filter]
  have : ls = (List.range ls.length).map fun i => ls.getD i 0 := by
    refine List.ext_getElem (by simp) fun i h1 h2 => ?_
    rw [List.getElem_map, List.getElem_range, List.getD_eq_getElem?_getD, List.getElem?_eq_getElem h1]
    rfl
  conv => rhs; rw [this]
  rw [List.count_eq_countP, List.countP_map]
  refine List.countP_congr fun i hi => ?_
  show decide _ = true ↔ (ls.getD i 0 == l) = true
  rw [decide_eq_true_iff, beq_iff_eq]
theorem all_len {ls : List Int} (h24 : ls.length ≤ 24) : ∀ (ks : List Int) (found : List (List Int)), (ks.foldl (allN ls) found).length = found.length * prd ks fun k => fct (ls.count (-k))
  | [], found => (Nat.mul_one _).symm
  | k :: ks, found => by
    rw [List.foldl_cons, all_len h24 ks, prd_cons, ← Nat.mul_assoc]
    congr 1
    unfold allN
    rw [sum_const (c := found.length) fun o _ => List.length_map _]
    have le : (plcF ls (-k)).length ≤ 24 := by
      rw [plc_len]
      exact Nat.le_trans List.count_le_length h24
    have := ord_len (plc_nodup ls (-k)) le _ (Nat.le_refl _)
    rw [Nat.sub_self, show fct 0 = 1 by decide +kernel, Nat.mul_one, plc_len] at this
    rw [plc_len, this, Nat.mul_comm]
theorem put_ok {R : List Int} : ∀ (ps : List (Int × Int)) (m : List Int), (∀ p ∈ ps, ∃ i j : Nat, p = ((i : Int), (j : Int)) ∧ i < m.length ∧ j < m.length ∧ R[i]? = some (j : Int) ∧ R[j]? = some (i : Int)) →
    (ps.foldl putP m).length = m.length ∧ ∀ i : Nat, i < m.length → (m[i]? = R[i]? ∨ ∃ p ∈ ps, p.1 = (i : Int) ∨ p.2 = (i : Int)) → (ps.foldl putP m)[i]? = R[i]?
  | [], m, _ => ⟨rfl, fun i _ h => h.elim id fun ⟨p, hp, _⟩ => by cases hp⟩
  | p :: ps, m, h => by
    obtain ⟨a, b, e, ha, hb, r1, r2⟩ := h p List.mem_cons_self
    have eq : putP m p = (m.set a (b : Int)).set b (a : Int) := by
      rw [e]
      unfold putP
      rw [Int.toNat_natCast, Int.toNat_natCast]
    have len : (putP m p).length = m.length := by rw [eq, List.length_set, List.length_set]
    obtain ⟨l2, g2⟩ := put_ok ps (putP m p) fun q hq => by
      obtain ⟨i, j, e2, hi, hj, s1, s2⟩ := h q (List.mem_cons_of_mem _ hq)
      exact ⟨i, j, e2, by rw [len]; exact hi, by rw [len]; exact hj, s1, s2⟩
    refine ⟨by rw [List.foldl_cons, l2, len], fun i hi hc => ?_⟩
    rw [List.foldl_cons]
    have at_ : (putP m p)[i]? = if b = i then some (a : Int) else if a = i then some (b : Int) else m[i]? := by
      rw [eq, List.getElem?_set, List.length_set, List.getElem?_set, if_pos hb, if_pos ha]
    refine g2 i (by rw [len]; exact hi) ?_
    rw [at_]
    by_cases c1 : b = i
    · rw [if_pos c1]
      exact .inl (by rw [← c1, r2])
    · rw [if_neg c1]
      by_cases c2 : a = i
      · rw [if_pos c2]
        exact .inl (by rw [← c2, r1])
      · rw [if_neg c2]
        rcases hc with hc | ⟨q, hq, hc⟩
        · exact .inl hc
        · rcases List.mem_cons.mp hq with rfl | hq
          · rw [e] at hc
            rcases hc with hc | hc
            · exact absurd (show a = i by have : (a : Int) = (i : Int) := hc; omega) c2
            · exact absurd (show b = i by have : (b : Int) = (i : Int) := hc; omega) c1
          · exact .inr ⟨q, hq, hc⟩
/-- each mates are found, kind by kind -/
theorem all_step {ls : List Int} {r : List Nat} (hr : MatOk ls (nats r)) (bal : ∀ l, ls.count l = ls.count (-l)) {k : Int} {found : List (List Int)} {m : List Int} (hm : m ∈ found) (hl : m.length = ls.length) :
    ∃ m' ∈ allN ls found k, m'.length = ls.length ∧ ∀ i : Nat, i < ls.length → (m[i]? = (nats r)[i]? ∨ ls.getD i 0 = k ∨ ls.getD i 0 = -k) → m'[i]? = (nats r)[i]? := by
  have lr : r.length = ls.length := by
    have := hr.1.1.1
    rw [show (nats r).length = r.length from List.length_map _] at this
    exact this
  obtain ⟨f, hf⟩ : ∃ f : Int → Int, f = fun x => (((r.getD x.toNat 0 : Nat)) : Int) := ⟨_, rfl⟩
  have at_ : ∀ i, i < ls.length → r[i]? = some (r.getD i 0) := fun i hi => by
    rw [List.getD_eq_getElem?_getD, List.getElem?_eq_getElem (by rw [lr]; exact hi)]
    rfl
  have good : ∀ i : Nat, i < ls.length → ls.getD i 0 = k → ∃ j : Nat, f (i : Int) = (j : Int) ∧ j < ls.length ∧ ls.getD j 0 = -k ∧ (nats r)[i]? = some (j : Int) ∧ (nats r)[j]? = some (i : Int) := fun i hi hk => by
    obtain ⟨_, b, c, d, e⟩ := mat_at hr (at_ i hi)
    refine ⟨r.getD i 0, by rw [hf]; show ((r.getD ((i : Int)).toNat 0 : Nat) : Int) = _; rw [Int.toNat_natCast], b, by rw [e, hk], ?_, ?_⟩
    · rw [nats_at, at_ i hi]
      rfl
    · rw [nats_at, d]
      rfl
  have inj : ((plcF ls k).map f).Nodup := by
    refine List.pairwise_map.mpr ((plc_nodup ls k).imp_of_mem fun {x y} hx hy ne e => ne ?_)
    obtain ⟨i, rfl, hi, ki⟩ := plc_mem.mp hx
    obtain ⟨j, rfl, hj, kj⟩ := plc_mem.mp hy
    obtain ⟨a, ea, _, _, _, ra⟩ := good i hi ki
    obtain ⟨b, eb, _, _, _, rb⟩ := good j hj kj
    rw [ea, eb] at e
    have e2 : a = b := by omega
    rw [e2, rb] at ra
    exact (Option.some.inj ra).symm
  have ho : (plcF ls k).map f ∈ ordF (plcF ls (-k)) (plcF ls (-k)).length := by
    refine ord_all _ _ (by rw [List.length_map, plc_len, plc_len, bal]) inj fun x hx => ?_
    obtain ⟨y, hy, rfl⟩ := List.mem_map.mp hx
    obtain ⟨i, rfl, hi, ki⟩ := plc_mem.mp hy
    obtain ⟨a, ea, la, ka, _⟩ := good i hi ki
    exact plc_mem.mpr ⟨a, ea, la, ka⟩
  have pairs : ∀ p ∈ (plcF ls k).zip ((plcF ls k).map f), ∃ i j : Nat, p = ((i : Int), (j : Int)) ∧ i < m.length ∧ j < m.length ∧ (nats r)[i]? = some (j : Int) ∧ (nats r)[j]? = some (i : Int) := by
    intro p hp
    rw [List.zip_map_right, List.mem_map] at hp
    obtain ⟨⟨x, y⟩, hxy, rfl⟩ := hp
    have hx : x ∈ plcF ls k := (List.of_mem_zip hxy).1
    have e : y = x := by
      rw [List.zip_eq_zipWith] at hxy
      obtain ⟨i, hi, e⟩ := List.getElem_of_mem hxy
      rw [List.getElem_zipWith] at e
      injection e with e1 e2
      rw [← e1, ← e2]
    subst e
    obtain ⟨i, rfl, hi, ki⟩ := plc_mem.mp hx
    obtain ⟨a, ea, la, _, r1, r2⟩ := good i hi ki
    exact ⟨i, a, by show ((i : Int), f (i : Int)) = _; rw [ea], by rw [hl]; exact hi, by rw [hl]; exact la, r1, r2⟩
  obtain ⟨p1, p2⟩ := put_ok _ m pairs
  refine ⟨putF m (plcF ls k) ((plcF ls k).map f), ?_, p1.trans hl, fun i hi hc => p2 i (by rw [hl]; exact hi) ?_⟩
  · unfold allN
    exact List.mem_flatten.mpr ⟨_, List.mem_map.mpr ⟨_, ho, rfl⟩, List.mem_map.mpr ⟨m, hm, rfl⟩⟩
  · rcases hc with hc | hc
    · exact .inl hc
    · refine .inr ?_
      have zipm : ∀ x ∈ plcF ls k, (x, f x) ∈ (plcF ls k).zip ((plcF ls k).map f) := fun x hx => by
        rw [List.zip_map_right]
        refine List.mem_map.mpr ⟨(x, x), ?_, rfl⟩
        obtain ⟨i, hi, e⟩ := List.getElem_of_mem hx
        refine List.mem_of_getElem? (i := i) ?_
        rw [List.getElem?_zip_eq_some]
        exact ⟨by rw [List.getElem?_eq_getElem hi, e], by rw [List.getElem?_eq_getElem hi, e]⟩
      rcases hc with hc | hc
      · exact ⟨_, zipm _ (plc_mem.mpr ⟨i, rfl, hi, hc⟩), .inl rfl⟩
      · obtain ⟨_, b, c, d, e⟩ := mat_at hr (at_ i hi)
        have hj : ls.getD (r.getD i 0) 0 = k := by
          rw [e, hc]
          omega
        obtain ⟨a, ea, _, _, r1, _⟩ := good _ b hj
        refine ⟨_, zipm _ (plc_mem.mpr ⟨r.getD i 0, rfl, b, hj⟩), .inr ?_⟩
        rw [nats_at, d] at r1
        have : ((i : Nat) : Int) = (a : Int) := Option.some.inj r1
        show f _ = _
        rw [ea, this]
theorem all_in {ls : List Int} {r : List Nat} (hr : MatOk ls (nats r)) (bal : ∀ l, ls.count l = ls.count (-l)) : ∀ (ks : List Int) (found : List (List Int)) (m : List Int), m ∈ found → m.length = ls.length → ∃ m' ∈ ks.foldl (allN ls) found, m'.length = ls.length ∧ ∀ i : Nat, i < ls.length → (m[i]? = (nats r)[i]? ∨ ∃ k ∈ ks, ls.getD i 0 = k ∨ ls.getD i 0 = -k) → m'[i]? = (nats r)[i]?
  | [], found, m, hm, hl => ⟨m, hm, hl, fun i _ hc => hc.elim id fun ⟨k, hk, _⟩ => by cases hk⟩
  | k :: ks, found, m, hm, hl => by
    obtain ⟨m1, hm1, l1, g1⟩ := all_step hr bal (k := k) hm hl
    obtain ⟨m2, hm2, l2, g2⟩ := all_in hr bal ks _ m1 hm1 l1
    refine ⟨m2, hm2, l2, fun i hi hc => g2 i hi ?_⟩
    rcases hc with hc | ⟨j, hj, hc⟩
    · exact .inl (g1 i hi (.inl hc))
    · rcases List.mem_cons.mp hj with rfl | hj
      · exact .inl (g1 i hi (.inr hc))
      · exact .inr ⟨j, hj, hc⟩
theorem nats_inj {a b : List Nat} (h : nats a = nats b) : a = b := by
  unfold nats at h
  exact List.map_inj_right (fun x y e => by omega) |>.mp h
/-- the law's list is that of all sewings, in another order -/
theorem all_perm {ls : List Int} (hl : Lts ls) (h24 : ls.length ≤ 24) (bal : ∀ l, ls.count l = ls.count (-l)) : ((matesF (prtF ls)).map nats).Perm (allF ls) := by
  refine perm_sub ?_ (fun x hx => ?_) ?_
  · exact List.pairwise_map.mpr ((mates_nodup hl).imp fun {a b} h e => h (nats_inj e))
  · obtain ⟨r, hr, rfl⟩ := List.mem_map.mp hx
    have ok := mates_ok hl hr
    obtain ⟨m, hm, lm, g⟩ := all_in ok bal (kindsF ls) [List.replicate ls.length 0] _ List.mem_cons_self (List.length_replicate ..)
    have e : m = nats r := by
      refine List.ext_getElem? fun i => ?_
      by_cases hi : i < ls.length
      · refine g i hi (.inr ?_)
        have mem : ls.getD i 0 ∈ ls := by
          rw [List.getD_eq_getElem?_getD, List.getElem?_eq_getElem hi]
          exact List.getElem_mem hi
        refine ⟨_, kinds_mem hl mem, ?_⟩
        rcases Int.natAbs_eq (ls.getD i 0) with z | z
        · exact .inl z
        · exact .inr z
      · rw [List.getElem?_eq_none (by omega), List.getElem?_eq_none (by rw [ok.1.1.1]; omega)]
    rw [← e]
    exact hm
  · rw [List.length_map, mates_len hl h24 bal]
    unfold allF
    rw [all_len h24]
    show 1 * _ ≤ prd _ _
    rw [Nat.one_mul]
    exact Nat.le_of_eq (prd_congr fun k _ => by rw [bal k])
end W13
set_option Elab.async false
set_option linter.all false
set_option maxRecDepth 100000
set_option maxHeartbeats 1000000
namespace W13
open PySem L2 PySem.Spec PyProof.Rows WR WB WE WS
def spOr (s1 s2 : Sp) : Sp := fun vs H Q E => s1 vs H Q E ∨ s2 vs H Q E
theorem fn_or {P : Program} {w : World} {K : PySem.W.Frag} {mg : Str → Option Value} {base : Heap} {k : Nat} {f : Addr} {fd : FuncData} {ps : List Str} {s1 s2 : Sp} (F1 : FnOk P w K mg base CX0 k f fd ps s1) (F2 : FnOk P w K mg base (L2.CX P w) k f fd ps s2) : FnOk P w K mg base (L2.CX P w) k f fd ps (spOr s1 s2) := by
  refine ⟨fun vs H Q E h => h.elim (F1.len vs H Q E) (F2.len vs H Q E), fun A outer s H args us vs Q E hr e0 hb r h => ?_⟩
  rcases h with h | h
  · refine codeAny_mono (F1.run A outer s H args us vs Q E hr e0 hb r h) fun r s' q => ?_
    match r, q with
    | .ok (.ret u), q => exact q
    | .error e, q => exact (show False from q).elim
  · exact F2.run A outer s H args us vs Q E hr e0 hb r h
theorem Bad.at {fl : Str} {C : Addr} {E : XK} {H H1 : Hp} {v : V} (h : Bad fl C E H v) (s : Same H H1) : Bad fl C E H1 v := fun H2 s2 => h H2 (s.trans s2)
/-- not of the class D -/
def NotC (K : PySem.W.Frag) (D : Addr) (H : Hp) (x : V) : Prop := ∃ tv, TyX K H x tv ∧ PySem.W.kitOne K tv (.ref D) = some false
abbrev sInitBR : Stmt := inClass (top 5) 0
abbrev nInitBR : List Str := ["self", "part"]
theorem scInitBR : FnScope nInitBR ["self", "part"] (defScope sInitBR) := ⟨rfl, rfl, rfl, by decide +kernel, rfl, by decide +kernel, by decide +kernel⟩
abbrev sInitTM : Stmt := inClass (top 10) 0
abbrev nInitTM : List Str := ["self", "what", "most"]
theorem scInitTM : FnScope nInitTM ["self", "what", "most"] (defScope sInitTM) := ⟨rfl, rfl, rfl, by decide +kernel, rfl, by decide +kernel, by decide +kernel⟩
def spM2 (C : Addr) : Sp := fun vs H Q _ => ∃ (a : Addr) (v u : V), vs = [.ref a, v, u] ∧ H a = some (exo a C none) ∧ ∀ dx, H dx = none → dx ≠ a → Q .non (L2.upd (L2.upd (L2.upd H dx (exd dx [("what", v)])) a (exo a C (some dx))) dx (exd dx [("most", u), ("what", v)]))
theorem heap2 {H : Hp} {a d : Addr} {e1 e2 e3 e4 o : HO} (ha : H a = none) (hd : d ≠ a) : L2.upd (del (L2.upd (L2.upd (L2.upd (L2.upd H a e1) d e2) a e3) d e4) a) d o = L2.upd H d o := by
  funext b
  by_cases h1 : b = d
  · subst h1
    rw [upd_same, upd_same]
  · rw [upd_ne h1, upd_ne h1]
    by_cases h2 : b = a
    · subst h2
      rw [del_same, ha]
    · rw [del_ne h2, upd_ne h1, upd_ne h2, upd_ne h1, upd_ne h2]
theorem mkM2 {C : Addr} {H : Hp} {v u : V} {Q : XK} (k : ∀ d, H d = none → Q (.ref C) (some d) (L2.upd H d (.xd [("most", u), ("what", v)]))) : ∀ a, H a = none → spM2 C [.ref a, v, u] (L2.upd H a (exo a C none))
    (fun z H2 => z = .non ∧ ∃ (d : Addr) (fs : List (Str × V)), H2 a = some (exo a C (some d)) ∧ H2 d = some (exd d fs) ∧ H d = none ∧ Q (.ref C) (some d) (L2.upd (del H2 a) d (.xd fs))) (fun _ _ _ => False) := by
  intro a ha
  refine ⟨a, v, u, rfl, upd_same, fun dx h1 h2 => ⟨rfl, dx, _, by rw [upd_ne h2.symm, upd_same], upd_same, by rw [upd_ne h2] at h1; exact h1, ?_⟩⟩
  rw [heap2 ha h2]
  exact k dx (by rw [upd_ne h2] at h1; exact h1)
abbrev BadM (C : Addr) (E : XK) (H : Hp) (wh : V) (n : Int) : Prop := ∀ H1, Same H H1 → ∀ d, H1 d = none → E (.ref C) (some d) (L2.upd H1 d (.xd [("most", .int n), ("what", wh)]))
section
variable {P : Program} {w : World} {K : PySem.W.Frag} {mg : Str → Option Value} {base : Heap}
theorem ok_initBW {C f : Addr} {fd : FuncData} (F : Fun K "__init__" "BadRims.__init__" sInitBR f fd) (O : OexC K C) (n1 : PySem.W.findIn K (.ref C) "part" = some none) : FnOk P w K mg base CX0 1 f fd ["self", "part"] (spI1 "part" C) := by
  refine F.ok scInitBR (fun vs H Q E h => ?_) (fun cdv A outer s H vs Q E hr h => ?_)
  · obtain ⟨a, v, rfl, _⟩ := h
    rfl
  · obtain ⟨a, v, rfl, hA, k⟩ := h
    refine ⟨_, pss_one (ps_ost (pv 0) (pv 1)), ?_⟩
    exact ⟨_, rfl, _, rfl, a, C, rfl, O, n1, .inl ⟨hA, fun dx h1 h2 => k dx h1 h2⟩⟩
theorem ok_initTM {C f : Addr} {fd : FuncData} (F : Fun K "__init__" "TooMany.__init__" sInitTM f fd) (O : OexC K C) (n1 : PySem.W.findIn K (.ref C) "what" = some none) (n2 : PySem.W.findIn K (.ref C) "most" = some none) : FnOk P w K mg base CX0 1 f fd ["self", "what", "most"] (spM2 C) := by
  refine F.ok scInitTM (fun vs H Q E h => ?_) (fun cdv A outer s H vs Q E hr h => ?_)
  · obtain ⟨a, v, u, rfl, _⟩ := h
    rfl
  · obtain ⟨a, v, u, rfl, hA, k⟩ := h
    refine ⟨_, pss_cons (ps_ost (pv 0) (pv 1)) (pss_one (ps_ost (pv 0) (pv 2))), ?_⟩
    refine ⟨_, rfl, _, rfl, a, C, rfl, O, n1, .inl ⟨hA, fun dx h1 h2 => ?_⟩⟩
    refine ⟨_, rfl, _, rfl, a, C, rfl, O, n2, .inr ⟨dx, _, upd_same, by rw [upd_ne h2, upd_same], by show 1 ≤ 900; decide, k dx h1 h2⟩⟩
end
def spNeedRX (K : PySem.W.Frag) (C CR CBR : Addr) : Sp := fun vs H Q E => ∃ x part : V, vs = [x, part] ∧ ((NotC K CR H x ∧ Bad "part" CBR E H part) ∨ ((∃ p xs ws, x = V.ref p ∧ RimsAt K C CR H p xs ws) ∧ Q .non H))
abbrev sNRX : Stmt := top 46
abbrev nNRX : List Str := ["value", "part"]
theorem scNRX : FnScope nNRX ["value", "part"] (defScope sNRX) := ⟨rfl, rfl, rfl, by decide +kernel, rfl, by decide +kernel, by decide +kernel⟩
def spManyX (K : PySem.W.Frag) (CR CBR : Addr) : Sp := fun vs H Q E => ∃ x : V, vs = [x] ∧ NotC K CR H x ∧ Bad "part" CBR E H (.str "rims")
abbrev sMyX : Stmt := top 58
abbrev nMyX : List Str := ["rims", "many", "kind"]
theorem scMyX : FnScope nMyX ["rims"] (defScope sMyX) := ⟨rfl, rfl, rfl, by decide +kernel, rfl, by decide +kernel, by decide +kernel⟩
section
variable {P : Program} {w : World} {K : PySem.W.Frag} {mg : Str → Option Value} {base : Heap} {C CR CS CBR CTM : Addr}
theorem ok_NRX {f : Addr} {fd : FuncData} (F : Fun K "need_rims" "need_rims" sNRX f fd) (N : TN mg) (T : TxW K mg C) (TC : TxRC K mg CR) (BR : ErrC P w K mg base CBR "BadRims" ["self", "part"] (spI1 "part" CBR))  : FnOk P w K mg base (L2.CX P w) 4 f fd ["value", "part"] (spNeedRX K C CR CBR) := by
  refine F.okX scNRX (fun vs H Q E h => ?_) (fun cdv A outer s H vs Q E hr h => ?_)
  · obtain ⟨x, part, rfl, _⟩ := h
    rfl
  · obtain ⟨x, part, rfl, h⟩ := h
    obtain ⟨fBR, fdBR, iBR, tBR, FBR, bBR⟩ := BR.ini
    refine ⟨_, pss_one (ps_if (pt_not (pt_val (pe_callB call_isi (by rfl) N.isinstance (by decide +kernel) (pa_cons (pv 0) (pa_cons (pe_glob (v := .ref CR) (by rfl) TC.mgR rfl) pa_nil))))) (pss_one (ps_raise rfl (takes_of rfl rfl rfl rfl) (pmk_oex (dvs := []) BR.oex iBR tBR FBR (hr.mono (by decide)) bBR .nil pass0 (by rfl) BR.g (pa_cons (pv 1) pa_nil)))) pss_nil), ?_⟩
    rcases h with ⟨⟨tv, ht, hk⟩, kb⟩ | ⟨⟨p, xs, ws, rfl, hS⟩, kq⟩
    · refine ⟨_, rfl, x, _, _, _, _, rfl, .own CR, ht, hk, _, rfl, ?_⟩
      exact iteT ⟨_, rfl, by show 1 ≤ 1000; decide, mk1 (Q := fun cls d H' => E cls d H') fun d hd => kb H (Same.refl _) d hd⟩
    · refine ⟨_, rfl, .ref p, _, _, _, _, rfl, .own CR, hS.tyx T TC, kit_self CR, _, rfl, ?_⟩
      exact iteF kq
theorem ok_MyX {f : Addr} {fd : FuncData} (F : Fun K "many_sewings" "many_sewings" sMyX f fd) (N : TN mg) (hfac : mg "factorial" = some (.builtin "math.factorial")) (G_need_rims : CalX P w K mg base "need_rims" 4 ["value", "part"] (spNeedRX K C CR CBR)) (GK : Cal P w K mg base "kinds_of" 1 ["letters"] ((spKinds K))) : FnOk P w K mg base (L2.CX P w) 5 f fd ["rims"] (spManyX K CR CBR) := by
  refine F.okX scMyX (fun vs H Q E h => ?_) (fun cdv A outer s H vs Q E hr h => ?_)
  · obtain ⟨x, rfl, _⟩ := h
    rfl
  · obtain ⟨x, rfl, nc, kb⟩ := h
    refine ⟨_, pss_cons (ps_expr (pe_calX G_need_rims hr (by decide) (passes_call (takes_of rfl rfl rfl rfl) (fun _ _ _ _ h => h)) (by rfl) (pa_cons (pv 0) (pa_cons pe_str pa_nil))))
      (pss_cons (ps_set (i := 1) scMyX.nd rfl (Or.inl rfl) pe_int)
      (pss_cons (ps_for (passes_of rfl) rfl (pi_tup (pe_cal GK hr (by decide) (by rfl) (pa_cons (pe_fld (pv 0) rfl) pa_nil))) (pg_name (i := 2) scMyX.nd rfl (Or.inl rfl))
      (pss_one (ps_aug (i := 1) scMyX.nd rfl (Or.inl rfl) (pe_callBfun cr_fct (by rfl) hfac (pa_cons (pe_mG (tyB_ok (K := K) rfl) PySem.F.plainAttrs_tuple PySem.F.slot_tuple_count PySem.F.type_tuple_count (mt_tcount (K := K) rfl) (pe_fld (pv 0) rfl) (pa_cons (pv 2) pa_nil)) pa_nil)) ip_mulW)))
      (pss_one (ps_ret (pv 1))))), ?_⟩
    exact ⟨_, rfl, x, .str "rims", rfl, .inl ⟨nc, kb⟩⟩
/-- what is refused of all sewings -/
def spAllSX (K : PySem.W.Frag) (C CR CBR CTM : Addr) : Sp := fun vs H Q E => ∃ x : V, vs = [x] ∧ ((NotC K CR H x ∧ Bad "part" CBR E H (.str "rims")) ∨
  (∃ p xs ws, x = V.ref p ∧ RimsAt K C CR H p xs ws ∧ RimOk ws ∧ 720 < manyF ws.flatten ∧ BadM CTM E H (.str "sewings") 720))
theorem ok_AllSX {f : Addr} {fd : FuncData} (F : Fun K "all_sewings" "all_sewings" sAllS f fd) (TC : TxRC K mg CR) (TS : TxSC K mg CS) (TA : TxA mg) (R : TxR mg) (hmost : ∃ t, mg "MOST_SEWINGS" = some (.int 720 t)) (M : MkS P w K mg base C CR CS) (GY : CalX P w K mg base "many_sewings" 5 ["rims"] (spOr (spMany K C CR) (spManyX K CR CBR))) (GA : Cal P w K mg base "all_mates" 26 ["partners"] (spAllM K))
    (TM : ErrC P w K mg base CTM "TooMany" ["self", "what", "most"] (spM2 CTM)) : FnOk P w K mg base (L2.CX P w) 27 f fd ["rims"] (spAllSX K C CR CBR CTM) := by
  refine F.okX scAllS (fun vs H Q E h => ?_) (fun cdv A outer s H vs Q E hr h => ?_)
  · obtain ⟨x, rfl, _⟩ := h
    rfl
  · obtain ⟨x, rfl, h⟩ := h
    obtain ⟨tM, mM⟩ := hmost
    obtain ⟨fTM, fdTM, iTM, tTM, FTM, bTM⟩ := TM.ini
    refine ⟨_, pss_cons (ps_if (pt_cmpR op_gt (pe_calX GY hr (by decide) (passes_call (takes_of rfl rfl rfl rfl) (fun _ _ _ _ h => h)) (by rfl) (pa_cons (pv 0) pa_nil)) (pe_glob (v := .int 720) (by rfl) mM ⟨_, rfl⟩) (nomark _)) (pss_one (ps_raise rfl (takes_of rfl rfl rfl rfl) (pmk_oex (dvs := []) TM.oex iTM tTM FTM (hr.mono (by decide)) bTM .nil pass0 (by rfl) TM.g (pa_cons pe_str (pa_cons (pe_glob (v := .int 720) (by rfl) mM ⟨_, rfl⟩) pa_nil))))) pss_nil)
      (pss_cons (ps_set (i := 1) scAllS.nd rfl (Or.inr rfl) (pe_fld (pv 0) rfl))
      (pss_cons (ps_setLc (i := 2) (own := [("letter", 3)]) (g := gName 3) (tt := tYes) rfl scAllS.nd rfl rfl (sw_true rfl rfl rfl (by decide +kernel)) (pi_tup (pv 1))
          (blkOk_by (N := nAllS) (sc := defScope sAllS) (by decide +kernel)) (fun _ _ _ _ _ => pg_name (i := 3) scAllS.nd rfl (Or.inr rfl)) (fun _ _ _ _ _ => pts_nil)
          (fun _ _ _ _ _ => pe_lc (own := [("mate", 4)]) (g := gName 4) rfl scAllS.nd (pi_range1 (by rfl) R.range (pa_cons (pe_fldK (K := K) rfl (pv 0) rfl) pa_nil))
            (blkOk_by (N := nAllS) (sc := outS) (by decide +kernel)) (fun _ _ _ _ _ => pg_name (i := 4) scAllS.nd rfl (Or.inl rfl)) (fun _ _ _ _ _ => pts_one (pt_cmpR op_eq (pe_ix (ixt (K := K) rfl) (pv 1) (pv 4) (fun _ _ => rfl)) (pe_un un_neg (pv 3)) (nomark _)))
            (fun _ _ _ _ _ => pv 4)))
      (pss_one (ps_ret (pe_callTy call_tupB (by rfl) TA.tuple (by decide +kernel) (pa_cons (pe_lc (own := [("mates", 5)]) (g := gName 5) (tt := tYes) rfl scAllS.nd (pi_list (pe_cal GA hr (by decide) (by rfl) (pa_cons (pv 2) pa_nil)))
          (blkOk_by (N := nAllS) (sc := defScope sAllS) (by decide +kernel)) (fun _ _ _ _ _ => pg_name (i := 5) scAllS.nd rfl (Or.inl rfl)) (fun _ _ _ _ _ => pts_nil)
          (fun _ _ _ _ _ => pe_sewK (K := K) rfl M TS hr (by decide) (by rfl) (pa_cons (pv 0) (pa_cons (pv 5) pa_nil)))) pa_nil)))))), ?_⟩
    rcases h with ⟨nc, kb⟩ | ⟨p, xs, ws, rfl, R1, ok, many, kb⟩
    · exact ⟨_, rfl, .inr ⟨x, rfl, nc, kb⟩⟩
    · refine ⟨_, rfl, .inl ⟨p, xs, ws, rfl, R1, ok, fun H1 s1 => ⟨_, _, rfl, rfl, _, rfl, iteT' (decide_eq_true (by omega)) ?_⟩⟩⟩
      exact ⟨by show 2 ≤ 1000; decide, mkM2 (Q := fun cls d H' => E cls d H') fun d hd => kb H1 s1 d hd⟩
theorem ok_CensX {f : Addr} {fd : FuncData} (F : Fun K "census" "census" sCens f fd) (TS : TxSC K mg CS) (TA : TxA mg) (hsorted : mg "sorted" = none) (hset : mg "set" = none) (GA : CalX P w K mg base "all_sewings" 27 ["rims"] (spOr (spAllS K C CR CS) (spAllSX K C CR CBR CTM))) : FnOk P w K mg base (L2.CX P w) 28 f fd ["rims"] (spAllSX K C CR CBR CTM) := by
  refine F.okX scCens (fun vs H Q E h => ?_) (fun cdv A outer s H vs Q E hr h => ?_)
  · obtain ⟨x, rfl, _⟩ := h
    rfl
  · obtain ⟨x, rfl, h⟩ := h
    refine ⟨_, pss_cons (ps_set (i := 1) scCens.nd rfl (Or.inr rfl) (pe_lc (own := [("sewing", 2)]) (g := gName 2) (tt := tYes) rfl scCens.nd (pi_tup (pe_calX GA hr (by decide) (passes_call (takes_of rfl rfl rfl rfl) (fun _ _ _ _ h => h)) (by rfl) (pa_cons (pv 0) pa_nil)))
          (blkOk_by (N := nCens) (sc := defScope sCens) (by decide +kernel)) (fun _ _ _ _ _ => pg_name (i := 2) scCens.nd rfl (Or.inl rfl)) (fun _ _ _ _ _ => pts_nil)
          (fun _ _ _ _ _ => pe_fldK (K := K) rfl (pv 2) rfl)))
      (pss_one (ps_ret (pe_callTy call_tupB (by rfl) TA.tuple (by decide +kernel) (pa_cons (pe_lc (own := [("cost", 3)]) (g := gName 3) (tt := tYes) rfl scCens.nd (pi_list (pe_callB (cr_sortedSet rfl) (by rfl) hsorted (by decide +kernel) (pa_cons (pe_callTy (WS.call_setLI rfl) (by rfl) hset (by decide +kernel) (pa_cons (pv 1) pa_nil)) pa_nil)))
          (blkOk_by (N := nCens) (sc := defScope sCens) (by decide +kernel)) (fun _ _ _ _ _ => pg_name (i := 3) scCens.nd rfl (Or.inl rfl)) (fun _ _ _ _ _ => pts_nil)
          (fun _ _ _ _ _ => pe_tup (pa_cons (pv 3) (pa_cons (pe_bmK (K := K) rfl PySem.F.plainAttrs_list PySem.F.slot_list_count PySem.F.type_list_count (mt_lcountK (K := K) rfl) (pv 1) (pa_cons (pv 3) pa_nil)) pa_nil)))) pa_nil)))), ?_⟩
    refine as_lc ?_
    exact ⟨_, rfl, .inr ⟨x, rfl, h⟩⟩
end
end W13
set_option Elab.async false
set_option linter.all false
set_option maxRecDepth 100000
set_option maxHeartbeats 1000000
namespace W13
open PySem L2 PySem.Spec PyProof.Rows WR WB WE WS SrtT
theorem call_tupBK {X : Cx} {K : PySem.W.Frag} (h : X.K = K) : CallR X (.type "tuple") (fun xs H Q => ∃ p ys, xs = [.ref p] ∧ ((SqL K H p ys ∧ NewB K H Q ys) ∨ (SqB K H p ys ∧ Q (.ref p) H))) := h ▸ call_tupB
theorem for_ss_lc {K : PySem.W.Frag} {r1 r2 : List V → Hp → VK → Prop} {wi : TI} {g gg : TG} {tt : TT} {te : TE} {vs : List Nat} {tb : TS} {D : Ends} {σ : L2.St} {H : Hp}
    (h : wi σ H fun J H1 => tLc (fun _ H R => R J H) g tt te vs σ H1 fun y H2 => r2 [y] H2 fun z H3 => r1 [z] H3 fun u H4 => tFor (iList K (fun _ H Q => Q u H)) gg tb D σ H4) :
    tFor (iList K (tCB r1 (tCons (tCB r2 (tCons (tLc wi g tt te vs) tNil)) tNil))) gg tb D σ H := h
theorem for_cal_lc {K : PySem.W.Frag} {sq : Sp} {wi : TI} {g gg : TG} {tt : TT} {te : TE} {vs : List Nat} {tb : TS} {D : Ends} {σ : L2.St} {H : Hp}
    (h : wi σ H fun J H1 => tLc (fun _ H R => R J H) g tt te vs σ H1 fun y H2 => sq [y] H2 (fun u H4 => tFor (iList K (fun _ H Q => Q u H)) gg tb D σ H4) E0) : tFor (iList K (tCall sq [] E0 (tCons (tLc wi g tt te vs) tNil))) gg tb D σ H := h
theorem sq_lcS {wi : TI} {g gg : TG} {tt : TT} {te : TE} {vs : List Nat} {D : Ends} {σ : L2.St} {H : Hp} {Cc : TS}
    (h : wi σ H fun J H1 => tLc (fun _ H R => R J H) g tt te vs σ H1 fun z H4 => gg z σ H4 (Cc D)) : tSeq (tAsg (tLc wi g tt te vs) gg) Cc D σ H := h
theorem ret_cb_lc {r : List V → Hp → VK → Prop} {wi : TI} {g : TG} {tt : TT} {te : TE} {vs : List Nat} {D : Ends} {σ : L2.St} {H : Hp}
    (h : wi σ H fun J H1 => tLc (fun _ H R => R J H) g tt te vs σ H1 fun y H2 => r [y] H2 D.rt) : tRet (tCB r (tCons (tLc wi g tt te vs) tNil)) D σ H := h
theorem all2_paired {α β : Type} {R : α → β → Prop} : ∀ {xs : List α} {ys : List β}, All2 R xs ys → Paired R xs ys
  | _, _, .nil => .nil
  | _, _, .cons h r => .cons h (all2_paired r)
theorem paired_all2 {α β : Type} {R : α → β → Prop} : ∀ {xs : List α} {ys : List β}, Paired R xs ys → All2 R xs ys
  | _, _, .nil => .nil
  | _, _, .cons h r => .cons h (paired_all2 r)
theorem putP_len (m : List Int) (p : Int × Int) : (putP m p).length = m.length := by
  unfold putP
  rw [List.length_set, List.length_set]
theorem putF_len : ∀ (ps : List (Int × Int)) (m : List Int), (ps.foldl putP m).length = m.length
  | [], _ => rfl
  | p :: ps, m => by rw [List.foldl_cons, putF_len ps, putP_len]
theorem allN_len {ls : List Int} {found : List (List Int)} {k : Int} {n : Nat} (h : ∀ m ∈ found, m.length = n) : ∀ m ∈ allN ls found k, m.length = n := by
  intro m hm
  obtain ⟨l, hl, hm⟩ := List.mem_flatten.mp hm
  obtain ⟨o, _, rfl⟩ := List.mem_map.mp hl
  obtain ⟨m0, h0, rfl⟩ := List.mem_map.mp hm
  unfold putF
  rw [putF_len]
  exact h m0 h0
theorem fold_mem_len {ls : List Int} {n : Nat} : ∀ (ks : List Int) (found : List (List Int)), (∀ m ∈ found, m.length = n) → ∀ m ∈ ks.foldl (allN ls) found, m.length = n
  | [], _, h => h
  | k :: ks, found, h => fold_mem_len ks _ (allN_len h)
theorem prd_pos {f : Int → Nat} : ∀ {ks : List Int}, (∀ k ∈ ks, 1 ≤ f k) → 1 ≤ prd ks f
  | [], _ => Nat.le_refl _
  | k :: ks, h => by
    rw [prd_cons]
    exact Nat.mul_le_mul (h k List.mem_cons_self) (prd_pos fun j hj => h j (List.mem_cons_of_mem _ hj))
theorem prd_take {f : Int → Nat} : ∀ {ks : List Int} (i : Nat), (∀ k ∈ ks, 1 ≤ f k) → prd (ks.take i) f ≤ prd ks f
  | [], i, _ => by rw [List.take_nil]; exact Nat.le_refl _
  | k :: ks, 0, h => prd_pos h
  | k :: ks, i + 1, h => by
    rw [List.take_succ_cons, prd_cons, prd_cons]
    exact Nat.mul_le_mul_left _ (prd_take i fun j hj => h j (List.mem_cons_of_mem _ hj))
theorem fct_pos : ∀ n, n < 25 → 1 ≤ fct n := by decide +kernel
/-- what is found so far is never more than all -/
theorem fold_few {ls : List Int} (h24 : ls.length ≤ 24) (bal : ∀ l, ls.count l = ls.count (-l)) (i : Nat) : ((((kindsF ls).take i).foldl (allN ls) [List.replicate ls.length 0]).length) ≤ manyF ls := by
  rw [all_len h24]
  show 1 * _ ≤ prd _ _
  rw [Nat.one_mul]
  have c : ∀ l, ls.count l < 25 := fun l => Nat.lt_of_le_of_lt List.count_le_length (by omega)
  refine Nat.le_trans (prd_take i fun k _ => fct_pos _ (c _)) (Nat.le_of_eq (prd_congr fun k _ => by rw [bal k]))
theorem ord_few {xs : List Int} (nx : xs.Nodup) (h4 : xs.length ≤ 4) (k : Nat) (hk : k ≤ xs.length) : (ordF xs k).length ≤ 24 := by
  have h := ord_len nx (by omega) k hk
  have a := fct_pos (xs.length - k) (by omega)
  have b : fct xs.length ≤ 24 := by
    have : ∀ n, n ≤ 4 → fct n ≤ 24 := by decide +kernel
    exact this _ h4
  have : (ordF xs k).length ≤ (ordF xs k).length * fct (xs.length - k) := Nat.le_mul_of_pos_right _ a
  omega
theorem ordsN_of {D : Addr} {H : Hp} {us : List V} {os : List (List Int)} (h : OrdsAt H us os) (hD : H D = none) : OrdsN D H us os := h.imp fun _ _ ⟨q, e, r⟩ => ⟨q, e, (fun z => by rw [z, hD] at r; cases r), r⟩
theorem OrdsN.at' {D : Addr} {H : Hp} {us : List V} {os : List (List Int)} (h : OrdsN D H us os) : OrdsAt H us os := h.imp fun _ _ ⟨q, e, _, r⟩ => ⟨q, e, r⟩
theorem OrdsN.same {D : Addr} {H H' : Hp} {us : List V} {os : List (List Int)} (h : OrdsN D H us os) (s : Same H H') : OrdsN D H' us os := h.imp fun _ _ ⟨q, e, n, r⟩ => ⟨q, e, n, s _ _ r⟩
theorem all2_mapr {α β γ : Type} {R : α → γ → Prop} {f : β → γ} : ∀ {xs : List α} {ys : List β}, All2 R xs (ys.map f) → All2 (fun x y => R x (f y)) xs ys
  | [], [], _ => .nil
  | _ :: _, [], h => by cases h
  | [], _ :: _, h => by cases h
  | _ :: _, _ :: _, .cons h r => .cons h (all2_mapr r)
theorem all2_and {α β : Type} {R : α → β → Prop} {P : β → Prop} : ∀ {xs : List α} {ys : List β}, All2 R xs ys → (∀ y ∈ ys, P y) → All2 (fun x y => R x y ∧ P y) xs ys
  | _, _, .nil, _ => .nil
  | _, _, .cons h r, p => .cons ⟨h, p _ List.mem_cons_self⟩ (all2_and r fun y hy => p y (List.mem_cons_of_mem _ hy))
theorem mates_asc2 {ls : List Int} (hl : Lts ls) : ((matesF (prtF ls)).map nats).Pairwise fun a b => lexL b a = false :=
  List.pairwise_map.mpr ((mates_asc hl).imp fun h => lexL_as _ _ h)
theorem kind_has {ls : List Int} (bal : ∀ l, ls.count l = ls.count (-l)) {k : Int} (h : k ∈ kindsF ls) : 1 ≤ ls.count k := by
  unfold kindsF at h
  have h2 := of_decide_eq_true (List.mem_filter.mp h).2
  rcases h2 with h2 | h2
  · exact List.count_pos_iff.mpr h2
  · rw [bal]
    exact List.count_pos_iff.mpr h2
def spAll (K : PySem.W.Frag) : Sp := fun vs H Q _ => ∃ (p : Addr) (ls : List Int), vs = [.ref p] ∧ H p = some (.lst (iv ls)) ∧ 1 ≤ ls.length ∧ ls.length ≤ 24 ∧ Lts ls ∧ (∀ l, ls.count l = ls.count (-l)) ∧ manyF ls ≤ 1000 ∧ (∀ l, ls.count l ≤ 4) ∧
  ∀ q H' vs, Same H H' → H' q = some (.lst vs) → All2 (fun v r => ∃ t, v = V.ref t ∧ SqT K H' t (iv (nats r))) vs (matesF (prtF ls)) → Q (.ref q) H'
abbrev sAll : Stmt := top 73
abbrev nAll : List Str := ["_law_letters_here", "_law_found", "_law_kind", "_law_forward", "_law_longer", "_law_order", "_law_mates", "_law_told", "_law_one", "_law_other", "_law_place", "_law_letter"]
theorem scAll : FnScope nAll ["_law_letters_here"] (defScope sAll) := ⟨rfl, rfl, rfl, by decide +kernel, rfl, by decide +kernel, by decide +kernel⟩
section
variable {P : Program} {w : World} {K : PySem.W.Frag} {mg : Str → Option Value} {base : Heap} {C CR : Addr}
theorem ok_All {f : Addr} {fd : FuncData} (F : Fun K "_law_all" "_law_all" sAll f fd) (N : TN mg)  (G_orders : Cal P w K mg base "_law_orders" 1 ["_law_some"] (spOrders)) : FnOk P w K mg base CX0 2 f fd ["_law_letters_here"] (spAll K) := by
  refine F.ok scAll (fun vs H Q E h => ?_) (fun cdv A outer s H vs Q E hr h => ?_)
  · obtain ⟨p, ls, rfl, _⟩ := h
    rfl
  · obtain ⟨p, ls, rfl, hp, h1, h24, lts, bal, hmany, h4, k⟩ := h
    refine ⟨_, pss_cons (ps_set (i := 1) scAll.nd rfl (Or.inl rfl) (pe_lst (pa_cons (pe_op op_rep (pe_lst (pa_cons pe_int pa_nil)) (pe_callB call_len_seq (by rfl) N.len PySem.boot_len (pa_cons (pv 0) pa_nil))) pa_nil)))
      (pss_cons (ps_for PassesOwn.never rfl (pi_list (pe_callB (cr_sortedSet rfl) (by rfl) N.sorted (by decide +kernel) (pa_cons (pe_callTy (call_setLI rfl) (by rfl) N.set (by decide +kernel) (pa_cons (pe_lc (own := [("_law_letter", 11)]) (g := gName 11) (tt := tYes) rfl scAll.nd (pi_list (pv 0)) (blkOk_by (N := nAll) (sc := defScope sAll) (by decide +kernel)) (fun _ _ _ _ _ => (pg_name (i := 11) scAll.nd rfl (Or.inl rfl))) (fun _ _ _ _ _ => pts_nil) (fun _ _ _ _ _ => (pe_callB call_abs (by rfl) N.abs (by decide +kernel) (pa_cons (pv 11) pa_nil)))) pa_nil)) pa_nil))) (pg_name (i := 2) scAll.nd rfl (Or.inr rfl))
      (pss_cons (ps_setLc (i := 3) (own := [("_law_place", 10), ("_law_letter", 11)]) (g := gTup K 2 (gCons (gName 10) (gCons (gName 11) gNil))) rfl scAll.nd rfl rfl (sw_true rfl rfl rfl (by decide +kernel)) (pi_enum (by rfl) N.enumerate (pa_cons (pv 0) pa_nil)) (blkOk_by (N := nAll) (sc := defScope sAll) (by decide +kernel)) (fun _ _ _ _ _ => (pg_tup (n := 2) rfl (pgs_cons (pg_name (i := 10) scAll.nd rfl (Or.inl rfl)) (pgs_cons (pg_name (i := 11) scAll.nd rfl (Or.inl rfl)) pgs_nil)))) (fun _ _ _ _ _ => (pts_one (pt_cmpR op_eq (pv 11) (pv 2) (nomark _)))) (fun _ _ _ _ _ => (pv 10)))
      (pss_cons (ps_set (i := 4) scAll.nd rfl (Or.inl rfl) (pe_lst pa_nil))
      (pss_cons (ps_for PassesOwn.never rfl (pi_list (pe_cal G_orders hr (by decide) (by rfl) (pa_cons (pe_lc (own := [("_law_place", 10), ("_law_letter", 11)]) (g := gTup K 2 (gCons (gName 10) (gCons (gName 11) gNil))) rfl scAll.nd (pi_enum (by rfl) N.enumerate (pa_cons (pv 0) pa_nil)) (blkOk_by (N := nAll) (sc := defScope sAll) (by decide +kernel)) (fun _ _ _ _ _ => (pg_tup (n := 2) rfl (pgs_cons (pg_name (i := 10) scAll.nd rfl (Or.inl rfl)) (pgs_cons (pg_name (i := 11) scAll.nd rfl (Or.inl rfl)) pgs_nil)))) (fun _ _ _ _ _ => (pts_one (pt_cmpR op_eq (pv 11) (pe_un un_neg (pv 2)) (nomark _)))) (fun _ _ _ _ _ => (pv 10))) pa_nil))) (pg_name (i := 5) scAll.nd rfl (Or.inl rfl))
      (pss_one (ps_for PassesOwn.never rfl (pi_list (pv 1)) (pg_name (i := 6) scAll.nd rfl (Or.inl rfl))
      (pss_cons (ps_set (i := 7) scAll.nd rfl (Or.inl rfl) (pe_callTy call_list_of (by rfl) N.list (by decide +kernel) (pa_cons (pv 6) pa_nil)))
      (pss_cons (ps_for PassesOwn.never rfl (pi_zip (by rfl) N.zip (pa_cons (pv 3) (pa_cons (pv 5) pa_nil))) (pg_tup (n := 2) rfl (pgs_cons (pg_name (i := 8) scAll.nd rfl (Or.inl rfl)) (pgs_cons (pg_name (i := 9) scAll.nd rfl (Or.inl rfl)) pgs_nil)))
      (pss_one (ps_asg (pe_tup (pa_cons (pv 9) (pa_cons (pv 8) pa_nil))) (pg_tup (n := 2) rfl (pgs_cons (pg_sub (pv 7) (pv 8) set_list) (pgs_cons (pg_sub (pv 7) (pv 9) set_list) pgs_nil))))))
      (pss_one (ps_expr (pe_bm PySem.F.plainAttrs_list PySem.F.slot_list_append PySem.F.type_list_append mt_append (pv 4) (pa_cons (pv 7) pa_nil)))))))))
      (pss_one (ps_set (i := 1) scAll.nd rfl (Or.inl rfl) (pv 4)))))))
      (pss_one (ps_ret (pe_callB cr_sortedT2 (by rfl) N.sorted (by decide +kernel) (pa_cons (pe_lc (own := [("_law_mates", 6)]) (g := gName 6) (tt := tYes) rfl scAll.nd (pi_list (pv 1)) (blkOk_by (N := nAll) (sc := defScope sAll) (by decide +kernel)) (fun _ _ _ _ _ => pg_name (i := 6) scAll.nd rfl (Or.inl rfl)) (fun _ _ _ _ _ => pts_nil) (fun _ _ _ _ _ => pe_callTy (call_tupBK (K := K) rfl) (by rfl) N.tuple (by decide +kernel) (pa_cons (pv 6) pa_nil))) pa_nil))))), ?_⟩
    have elen : ((iv ls).length : Int) = (ls.length : Int) := by rw [List.length_map]
    refine ⟨by show 1 ≤ sizeLine; decide, fun q0 hq0 => ?_⟩
    have s0 := same_upd (o := .lst [.int 0]) hq0
    refine ⟨_, rfl, p, _, rfl, .inl (SqL.of (s0 _ _ hp)), q0, _, _, rfl, rfl, upd_same, by omega, by omega, Evl.sz_of (by show 1 * ((((iv ls).length : Nat) : Int)).toNat ≤ _; omega), fun f0 hf0 => ?_⟩
    have s1 := s0.trans (same_upd (o := .lst (List.replicate (((iv ls).length : Nat) : Int).toNat [V.int 0]).flatten) hf0)
    have gf0 : L2.upd (L2.upd H q0 (.lst [.int 0])) f0 (.lst (List.replicate (((iv ls).length : Nat) : Int).toNat [V.int 0]).flatten) f0 = some (.lst (iv (List.replicate ls.length 0))) := by
      rw [upd_same, Int.toNat_natCast, List.length_map]
      simp [iv]
    obtain ⟨H1, e1⟩ : ∃ H1, H1 = L2.upd (L2.upd H q0 (.lst [.int 0])) f0 (.lst (List.replicate (((iv ls).length : Nat) : Int).toNat [V.int 0]).flatten) := ⟨_, rfl⟩
    rw [← e1] at s1 gf0 ⊢
    refine ⟨by show 1 ≤ sizeLine; decide, fun F0 hF0 => ?_⟩
    have s2 := same_upd (o := .lst [.ref f0]) hF0
    have gF0 : L2.upd H1 F0 (.lst [.ref f0]) F0 = some (.lst [.ref f0]) := upd_same
    have gf1 := s2 _ _ gf0
    obtain ⟨H2, e2⟩ : ∃ H2, H2 = L2.upd H1 F0 (.lst [.ref f0]) := ⟨_, rfl⟩
    rw [← e2] at s2 gF0 gf1 ⊢
    have s02 := s1.trans s2
    have o0 : OrdsAt H2 [.ref f0] [List.replicate ls.length 0] := .cons ⟨f0, rfl, gf1⟩ .nil
    clear e1 e2 hq0 s0 gf0 hf0 hF0 s1 s2 gf1
    refine at_set ?_
    try dsimp only
    refine for_ss_lc (K := K) ?_
    have hp1 := s02 _ _ hp
    refine ⟨_, rfl, p, rfl, ⟨_, SqL.of hp1⟩, ?_⟩
    refine lcp (walk_list (K := K) (a := p) (xs := iv ls)) (fun _ => true) (fun x => match x with | .int i => V.int (if i < 0 then -i else i) | v => v) (by rw [List.length_map]; omega) (fun H' s => SqL.of (s _ _ hp1)) ?_ ?_
    · intro x hx H2 s2 Qy Qn ky kn
      obtain ⟨z, hz, rfl⟩ := List.mem_map.mp hx
      exact ⟨rfl, yes_te ⟨_, rfl, z, rfl, ky rfl H2 (Same.refl _)⟩⟩
    intro D H3 hD s3 hD3
    have eab : ((iv ls).filter (fun _ => true)).map (fun x => match x with | .int i => V.int (if i < 0 then -i else i) | v => v) = iv (ls.map fun i => ((i.natAbs : Nat) : Int)) := by
      rw [List.filter_eq_self.mpr (fun _ _ => rfl)]
      unfold iv
      rw [List.map_map, List.map_map]
      refine List.map_congr_left fun i _ => ?_
      show V.int (if i < 0 then -i else i) = V.int ((i.natAbs : Nat) : Int)
      congr 1
      split <;> omega
    rw [eab] at hD3
    refine ⟨D, _, rfl, SqL.of hD3, by rw [List.length_map]; omega, fun S L hS ndL memL => ?_⟩
    have lL : L.length ≤ 26 := by
      have nd2 : (L.map Int.toNat).Nodup := by
        refine List.pairwise_map.mpr (ndL.imp_of_mem fun {x y} hx hy ne e => ne ?_)
        obtain ⟨z1, _, rfl⟩ := List.mem_map.mp ((memL x).mp hx)
        obtain ⟨z2, _, rfl⟩ := List.mem_map.mp ((memL y).mp hy)
        rw [Int.toNat_natCast, Int.toNat_natCast] at e
        rw [e]
      have := L2.nat_nodup_len (L.map Int.toNat) ((List.range 26).map (· + 1)) nd2 fun x hx => by
        obtain ⟨y, hy, rfl⟩ := List.mem_map.mp hx
        obtain ⟨z, hz, rfl⟩ := List.mem_map.mp ((memL y).mp hy)
        have := lts z hz
        rw [Int.toNat_natCast]
        exact List.mem_map.mpr ⟨z.natAbs - 1, List.mem_range.mpr (by omega), by omega⟩
      rw [List.length_map, List.length_map, List.length_range] at this
      exact this
    have s4 := s3.trans (same_upd (o := SetO w S (fun j => decide (j ∈ ls.map fun i => ((i.natAbs : Nat) : Int))) L.length) hS)
    refine ⟨S, _, L.length, rfl, upd_same, by omega, fun ks p3 hlt hmem hlen hp3 => ?_⟩
    have s5 := s4.trans (same_upd (o := .lst (iv ks)) hp3)
    have hks : ∀ z, z ∈ ks ↔ z ∈ ls.map fun i => ((i.natAbs : Nat) : Int) := fun z => by
      rw [hmem]
      exact decide_eq_true_iff
    have ek : ks = kindsF ls := by
      refine kinds_is lts ⟨hlt, fun x => ?_⟩
      rw [hks, List.mem_map]
      exact ⟨fun ⟨y, hy, e⟩ => ⟨y, hy, e.symm⟩, fun ⟨y, hy, e⟩ => ⟨y, hy, e.symm⟩⟩
    subst ek
    have gk5 : L2.upd (L2.upd H3 S (SetO w S (fun j => decide (j ∈ ls.map fun i => ((i.natAbs : Nat) : Int))) L.length)) p3 (.lst (iv (kindsF ls))) p3 = some (.lst (iv (kindsF ls))) := upd_same
    refine ⟨p3, rfl, ⟨_, SqL.of gk5⟩, for_list (K := K) (a := p3) (xs := iv (kindsF ls)) (fun i σ H' => ∃ (v2 v3 v4 v5 v6 v7 v8 v9 : Option V) (F : Addr) (us : List V), σ = [some (.ref p), some (.ref F), v2, v3, v4, v5, v6, v7, v8, v9, none, none] ∧ Same H H' ∧ H' p3 = some (.lst (iv (kindsF ls))) ∧ H' F = some (.lst us) ∧ OrdsAt H' us (((kindsF ls).take i).foldl (allN ls) [List.replicate ls.length 0]))
      ⟨none, none, none, none, none, none, none, none, F0, _, rfl, s02.trans s5, gk5, s5 _ _ gF0, o0.same s5⟩ (fun i σ H' _ ⟨_, _, _, _, _, _, _, _, _, _, _, _, h, _⟩ => SqL.of h) ?_ ?_⟩
    · rintro i x σ H6 hi ⟨v2, v3, v4, v5, v6, v7, v8, v9, F, us, rfl, s6, gk6, gF6, o6⟩
      obtain ⟨kk, hk, rfl⟩ : ∃ z, (kindsF ls)[i]? = some z ∧ x = V.int z := by
        rw [List.getElem?_map] at hi
        cases e : (kindsF ls)[i]? with
        | none => rw [e] at hi; cases hi
        | some z => rw [e] at hi; exact ⟨z, rfl, (Option.some.inj hi).symm⟩
      have hik : i < (kindsF ls).length := (List.getElem?_eq_some_iff.mp hk).1
      have ekt : (kindsF ls).take (i + 1) = (kindsF ls).take i ++ [kk] := by
        rw [List.take_succ_eq_append_getElem hik, (List.getElem?_eq_some_iff.mp hk).2]
      obtain ⟨fd, efd⟩ : ∃ fd, fd = ((kindsF ls).take i).foldl (allN ls) [List.replicate ls.length 0] := ⟨_, rfl⟩
      have lfd : fd.length ≤ 1000 := by rw [efd]; exact Nat.le_trans (fold_few h24 bal i) hmany
      have mfd : ∀ m ∈ fd, m.length = ls.length := by
        rw [efd]
        exact fold_mem_len _ _ fun m hm => by rw [List.mem_singleton.mp hm, List.length_replicate]
      rw [ekt, List.foldl_append, List.foldl_cons, List.foldl_nil]
      rw [← efd] at o6 ⊢
      have hp6 := s6 _ _ hp
      have enm : ∀ (j : Nat) (x : V), (iv ls)[j]? = some x → j < ls.length ∧ x = V.int (ls.getD j 0) := fun j x hx => by
        have hj : j < ls.length := by
          have := (List.getElem?_eq_some_iff.mp hx).1
          rwa [List.length_map] at this
        rw [List.getElem?_map, List.getElem?_eq_getElem hj] at hx
        exact ⟨hj, by rw [List.getD_eq_getElem?_getD, List.getElem?_eq_getElem hj]; exact (Option.some.inj hx).symm⟩
      have efl : ∀ k : Int, ((List.range (iv ls).length).filter fun j => decide (ls.getD j 0 = k)).map (fun (j : Nat) => V.int (j : Int)) = iv (plcF ls k) := fun k => by
        rw [List.length_map]
        unfold iv plcF nats
        rw [List.map_map]
        rfl
      refine at_set ?_
      try dsimp only
      refine sq_lcS ?_
      refine ⟨_, rfl, p, _, rfl, SqL.of hp6, ?_⟩
      refine lcE (walk_enum (K := K) (a := p) (xs := iv ls)) (fun j => decide (ls.getD j 0 = kk)) (fun (j : Nat) => V.int (j : Int)) (by rw [List.length_map]; omega) (fun H' s => SqL.of (s _ _ hp6)) ?_ ?_
      · intro j x hx H2 s2 T0 hT Qy Qn ky kn
        obtain ⟨hj, rfl⟩ := enm j x hx
        have sT := same_upd (o := .tup [.int (j : Nat), .int (ls.getD j 0)]) hT
        refine ⟨T0, _, rfl, SqT.of upd_same, rfl, _, _, rfl, _, _, rfl, rfl, rfl, _, rfl, _, rfl, rfl, _, rfl, ?_⟩
        refine ite2 (fun hb => ?_) (fun hb => ?_)
        · exact ⟨_, rfl, ky (decide_eq_true (by have := of_decide_eq_true hb; injection this)) _ sT⟩
        · exact kn (decide_eq_false fun e => hb (decide_eq_true (by rw [e]))) _ sT
      intro fw H7 hfw s7 gfw
      rw [efl] at gfw
      refine at_set ?_
      try dsimp only
      refine ⟨Nat.zero_le _, fun L hL => ?_⟩
      have s8 := same_upd (o := .lst []) hL
      have gL8 : L2.upd H7 L (.lst []) L = some (.lst []) := upd_same
      obtain ⟨H8, e8⟩ : ∃ H8, H8 = L2.upd H7 L (.lst []) := ⟨_, rfl⟩
      rw [← e8] at s8 gL8 ⊢
      have oN : OrdsN L H8 us fd := (ordsN_of (o6.same s7) hL).same s8
      have nL : ∀ {b : Addr} {o : HO}, H7 b = some o → b ≠ L := fun e z => by
        rw [z, hL] at e
        cases e
      have nFL := nL (s7 _ _ gF6)
      have n3L := nL (s7 _ _ gk6)
      have nfL := nL gfw
      have s68 := s7.trans s8
      have hp8 := s68 _ _ hp6
      clear e8
      refine at_set ?_
      try dsimp only
      refine for_cal_lc (K := K) ?_
      refine ⟨_, rfl, p, _, rfl, SqL.of hp8, ?_⟩
      refine lcE (walk_enum (K := K) (a := p) (xs := iv ls)) (fun j => decide (ls.getD j 0 = -kk)) (fun (j : Nat) => V.int (j : Int)) (by rw [List.length_map]; omega) (fun H' s => SqL.of (s _ _ hp8)) ?_ ?_
      · intro j x hx H2 s2 T0 hT Qy Qn ky kn
        obtain ⟨hj, rfl⟩ := enm j x hx
        have sT := same_upd (o := .tup [.int (j : Nat), .int (ls.getD j 0)]) hT
        refine ⟨T0, _, rfl, SqT.of upd_same, rfl, _, _, rfl, _, _, rfl, rfl, rfl, _, rfl, _, rfl, kk, rfl, rfl, _, rfl, ?_⟩
        refine ite2 (fun hb => ?_) (fun hb => ?_)
        · exact ⟨_, rfl, ky (decide_eq_true (by have := of_decide_eq_true hb; injection this)) _ sT⟩
        · exact kn (decide_eq_false fun e => hb (decide_eq_true (by rw [e]))) _ sT
      intro bq H9 hbq s9 gbq
      rw [efl] at gbq
      have lB : (plcF ls (-kk)).length ≤ 4 := by rw [plc_len]; exact h4 _
      have hkk := List.mem_of_getElem? hk
      have lB1 : 1 ≤ (plcF ls (-kk)).length := by rw [plc_len, ← bal]; exact kind_has bal hkk
      have lFB : (plcF ls kk).length = (plcF ls (-kk)).length := by rw [plc_len, plc_len, bal]
      refine ⟨bq, _, rfl, gbq, by omega, fun j hj => Nat.le_trans (ord_few (plc_nodup _ _) lB j hj) (by decide), fun OQ HA us2 hOQ sA gOQ oA => ?_⟩
      obtain ⟨os, eos⟩ : ∃ os, os = ordF (plcF ls (-kk)) (plcF ls (-kk)).length := ⟨_, rfl⟩
      have los : os.length ≤ 24 := by rw [eos]; exact ord_few (plc_nodup _ _) lB _ (Nat.le_refl _)
      have ook := fun o (ho : o ∈ os) => ord_ok (xs := plcF ls (-kk)) _ o (by rw [← eos]; exact ho)
      rw [← eos] at oA
      have gLA := sA _ _ (s9 _ _ gL8)
      have gFA := sA _ _ (s9 _ _ (s8 _ _ (s7 _ _ gF6)))
      have gfwA := sA _ _ (s9 _ _ (s8 _ _ gfw))
      have oNA := (oN.same s9).same sA
      have nOL : OQ ≠ L := fun z => by rw [z, s9 _ _ gL8] at hOQ; cases hOQ
      have s6A := (s68.trans s9).trans sA
      have hAN : allN ls fd kk = (os.map fun o => fd.map fun m => putF m (plcF ls kk) o).flatten := by rw [eos]; rfl
      refine ⟨OQ, rfl, ⟨_, SqL.of gOQ⟩, for_list (K := K) (a := OQ) (xs := us2) (fun j σ H' => ∃ (v5 v6 v7 v8 v9 : Option V) (vs' : List V), σ = [some (.ref p), some (.ref F), some (.int kk), some (.ref fw), some (.ref L), v5, v6, v7, v8, v9, none, none] ∧ Kept L HA H' ∧ H' L = some (.lst vs') ∧ OrdsN L H' vs' ((os.take j).map fun o => fd.map fun m => putF m (plcF ls kk) o).flatten)
        ⟨_, _, _, _, _, [], rfl, Kept.refl, gLA, .nil⟩ (fun j σ H' _ ⟨_, _, _, _, _, _, _, kA, _⟩ => SqL.of (kA _ _ nOL gOQ)) ?_ ?_⟩
      · rintro j x σ HB hj ⟨v5, v6, v7, v8, v9, vs', rfl, kB, gLB, oB⟩
        obtain ⟨o, ho, oq, rfl, goA⟩ := oA.at hj
        have mo := List.mem_of_getElem? ho
        obtain ⟨lo, ndo, sub⟩ := ook o mo
        have noL : oq ≠ L := fun z => by
          rw [z, gLA] at goA
          injection goA with e
          injection e with e
          cases o with
          | nil => exact absurd lo (by rw [List.length_nil]; omega)
          | cons a b => cases e
        have hjo : j < os.length := (List.getElem?_eq_some_iff.mp ho).1
        have etk : os.take (j + 1) = os.take j ++ [o] := by
          rw [List.take_succ_eq_append_getElem hjo, (List.getElem?_eq_some_iff.mp ho).2]
        rw [etk, List.map_append, List.flatten_append]
        have l1 : (((os.take j).map fun o => fd.map fun m => putF m (plcF ls kk) o).flatten).length ≤ 24 * 1000 := by
          rw [sum_const (c := fd.length) fun o _ => List.length_map _, List.length_take]
          exact Nat.mul_le_mul (by omega) lfd
        obtain ⟨dn, edn⟩ : ∃ dn, dn = ((os.take j).map fun o => fd.map fun m => putF m (plcF ls kk) o).flatten := ⟨_, rfl⟩
        rw [← edn] at oB l1 ⊢
        refine at_set ?_
        try dsimp only
        refine ⟨_, rfl, F, rfl, ⟨_, SqL.of (kB _ _ nFL gFA)⟩, for_list (K := K) (a := F) (xs := us) (fun b σ H' => ∃ (v6 v7 v8 v9 : Option V) (vs' : List V), σ = [some (.ref p), some (.ref F), some (.int kk), some (.ref fw), some (.ref L), some (.ref oq), v6, v7, v8, v9, none, none] ∧ Kept L HA H' ∧ H' L = some (.lst vs') ∧ OrdsN L H' vs' (dn ++ (fd.take b).map fun m => putF m (plcF ls kk) o))
          ⟨_, _, _, _, vs', rfl, kB, gLB, by rw [List.take_zero, List.map_nil, List.append_nil]; exact oB⟩ (fun b σ H' _ ⟨_, _, _, _, _, _, kA, _⟩ => SqL.of (kA _ _ nFL gFA)) ?_ ?_⟩
        · rintro b x σ HC hb ⟨v6, v7, v8, v9, vs', rfl, kC, gLC, oC⟩
          obtain ⟨m, hm, mq, rfl, nmL, gmA⟩ := oNA.at hb
          have mm := List.mem_of_getElem? hm
          have lm := mfd m mm
          have hbf : b < fd.length := (List.getElem?_eq_some_iff.mp hm).1
          have etb : fd.take (b + 1) = fd.take b ++ [m] := by
            rw [List.take_succ_eq_append_getElem hbf, (List.getElem?_eq_some_iff.mp hm).2]
          have gmC := kC _ _ nmL gmA
          refine at_set ?_
          try dsimp only
          refine ⟨_, rfl, mq, _, rfl, .inl (SqL.of gmC), fun T hT => ?_⟩
          have sT := same_upd (o := .lst (iv m)) hT
          have gT : L2.upd HC T (.lst (iv m)) T = some (.lst (iv m)) := upd_same
          obtain ⟨HD, eD⟩ : ∃ HD, HD = L2.upd HC T (.lst (iv m)) := ⟨_, rfl⟩
          rw [← eD] at sT gT ⊢
          have nT : ∀ {b : Addr} {o : HO}, HC b = some o → b ≠ T := fun e z => by
            rw [z, hT] at e
            cases e
          have gfC := kC _ _ nfL gfwA
          have goC := kC _ _ noL goA
          clear eD
          refine at_set ?_
          try dsimp only
          refine ⟨_, rfl, _, rfl, fw, oq, _, _, rfl, SqL.of (sT _ _ gfC), SqL.of (sT _ _ goC), ?_⟩
          refine RZ.for_zipL (K := K) (a := fw) (b := oq) (xs := iv (plcF ls kk)) (ys := iv o) (by rw [List.length_map, List.length_map]; omega) (fun c σ H' => ∃ (v8 v9 : Option V), σ = [some (.ref p), some (.ref F), some (.int kk), some (.ref fw), some (.ref L), some (.ref oq), some (.ref mq), some (.ref T), v8, v9, none, none] ∧ Kept T HD H' ∧ H' T = some (.lst (iv ((((plcF ls kk).zip o).take c).foldl putP m))))
            ⟨_, _, rfl, Kept.refl, gT⟩ (fun c σ H' ⟨_, _, _, kD, _⟩ => ⟨SqL.of (kD _ _ (nT gfC) (sT _ _ gfC)), SqL.of (kD _ _ (nT goC) (sT _ _ goC))⟩) ?_ ?_
          · rintro c x y T0 σ HE hx hy ⟨v8, v9, rfl, kE, gE⟩ hT0
            obtain ⟨xz, hxz, rfl⟩ : ∃ z, (plcF ls kk)[c]? = some z ∧ x = V.int z := by
              rw [List.getElem?_map] at hx
              cases e : (plcF ls kk)[c]? with
              | none => rw [e] at hx; cases hx
              | some z => rw [e] at hx; exact ⟨z, rfl, (Option.some.inj hx).symm⟩
            obtain ⟨yz, hyz, rfl⟩ : ∃ z, o[c]? = some z ∧ y = V.int z := by
              rw [List.getElem?_map] at hy
              cases e : o[c]? with
              | none => rw [e] at hy; cases hy
              | some z => rw [e] at hy; exact ⟨z, rfl, (Option.some.inj hy).symm⟩
            obtain ⟨xn, rfl, lx, _⟩ := plc_mem.mp (List.mem_of_getElem? hxz)
            obtain ⟨yn, rfl, ly, _⟩ := plc_mem.mp (sub _ (List.mem_of_getElem? hyz))
            have sE := same_upd (o := .tup [.int (xn : Int), .int (yn : Int)]) hT0
            have gE2 := sE _ _ gE
            have gT0 : L2.upd HE T0 (.tup [.int (xn : Int), .int (yn : Int)]) T0 = some (.tup [.int (xn : Int), .int (yn : Int)]) := upd_same
            obtain ⟨HF, eF⟩ : ∃ HF, HF = L2.upd HE T0 (.tup [.int (xn : Int), .int (yn : Int)]) := ⟨_, rfl⟩
            rw [← eF] at sE gE2 gT0 ⊢
            clear eF
            refine ⟨T0, _, rfl, SqT.of gT0, rfl, _, _, rfl, _, _, rfl, rfl, ?_⟩
            refine ⟨_, rfl, _, rfl, by show 2 ≤ sizeLine; decide, fun t ht => ?_⟩
            have st := same_upd (o := .tup [.int (yn : Int), .int (xn : Int)]) ht
            have gE3 := st _ _ gE2
            have gt : L2.upd HF t (.tup [.int (yn : Int), .int (xn : Int)]) t = some (.tup [.int (yn : Int), .int (xn : Int)]) := upd_same
            obtain ⟨HG, eG⟩ : ∃ HG, HG = L2.upd HF t (.tup [.int (yn : Int), .int (xn : Int)]) := ⟨_, rfl⟩
            rw [← eG] at st gE3 gt ⊢
            clear eG
            obtain ⟨m1, em1⟩ : ∃ m1, m1 = (((plcF ls kk).zip o).take c).foldl putP m := ⟨_, rfl⟩
            rw [← em1] at gE3
            have lm1 : (iv m1).length = ls.length := by rw [List.length_map, em1, putF_len, lm]
            refine ⟨t, _, rfl, SqT.of gt, rfl, _, _, rfl, _, rfl, _, rfl, T, _, _, xn, rfl, rfl, gE3, Evl.ixN_nat (by omega), _, _, rfl, _, rfl, _, rfl, T, _, _, yn, rfl, rfl, upd_same, Evl.ixN_nat (by rw [List.length_set]; omega), rfl, ?_⟩
            refine ⟨_, _, rfl, fun b' o' nb e => ?_, ?_⟩
            · rw [upd_ne nb, upd_ne nb]
              exact st _ _ (sE _ _ (kE _ _ nb e))
            · rw [upd_same]
              have hzc : ((plcF ls kk).zip o)[c]? = some ((xn : Int), (yn : Int)) := by
                rw [List.getElem?_zip_eq_some]
                exact ⟨hxz, hyz⟩
              have etz : ((plcF ls kk).zip o).take (c + 1) = ((plcF ls kk).zip o).take c ++ [((xn : Int), (yn : Int))] := by
                rw [List.take_succ_eq_append_getElem (List.getElem?_eq_some_iff.mp hzc).1, (List.getElem?_eq_some_iff.mp hzc).2]
              rw [etz, List.foldl_append, List.foldl_cons, List.foldl_nil, ← em1]
              unfold putP iv
              rw [Int.toNat_natCast, Int.toNat_natCast, List.map_set, List.map_set]
          · rintro σ HE ⟨v8, v9, rfl, kE, gE⟩
            have ez : ((plcF ls kk).zip o).take (iv (plcF ls kk)).length = (plcF ls kk).zip o := by
              refine List.take_of_length_le ?_
              rw [List.length_zip, List.length_map]
              exact Nat.min_le_left _ _
            rw [ez] at gE
            have sCE : Same HC HE := fun b' o' e => kE _ _ (nT e) (sT _ _ e)
            have gLE := sCE _ _ gLC
            have nTL : T ≠ L := (nT gLC).symm
            have lrow := oC.length
            rw [List.length_append, List.length_map, List.length_take] at lrow
            try dsimp only
            refine ⟨_, rfl, .inl ⟨rfl, _, SqL.of gLE⟩, _, rfl, L, _, _, rfl, rfl, gLE, Evl.sz_lt (by omega), ?_⟩
            refine ⟨_, _, _, _, vs' ++ [.ref T], rfl, kC.trans (Kept.trans (fun b' o' _ e => sCE _ _ e) Kept.upd), upd_same, ?_⟩
            rw [etb, List.map_append, ← List.append_assoc]
            refine All2.app ((oC.same sCE).kept Kept.upd) (.cons ⟨T, rfl, nTL, ?_⟩ .nil)
            rw [upd_ne nTL]
            exact gE
        · rintro σ HC ⟨v6, v7, v8, v9, vs', rfl, kC, gLC, oC⟩
          have e : fd.take us.length = fd := by
            rw [o6.length]
            exact List.take_length
          rw [e] at oC
          refine ⟨_, _, _, _, _, vs', rfl, kC, gLC, ?_⟩
          rw [List.map_cons, List.map_nil, List.flatten_cons, List.flatten_nil, List.append_nil]
          exact oC
      · rintro σ HB ⟨v5, v6, v7, v8, v9, vs', rfl, kB, gLB, oB⟩
        have e : os.take us2.length = os := by
          rw [oA.length]
          exact List.take_length
        rw [e, ← hAN] at oB
        try dsimp only
        refine ⟨_, rfl, ?_⟩
        refine ⟨_, _, _, _, _, _, _, _, L, vs', rfl, fun b o e => ?_, kB _ _ n3L (s6A _ _ gk6), gLB, oB.at'⟩
        have n : b ≠ L := nL (s7 _ _ (s6 _ _ e))
        exact kB _ _ n (s6A _ _ (s6 _ _ e))
    · rintro σ H6 ⟨v2, v3, v4, v5, v6, v7, v8, v9, F, us, rfl, s6, gk6, gF6, o6⟩
      have et : (kindsF ls).take (iv (kindsF ls)).length = kindsF ls := by
        rw [List.length_map]
        exact List.take_length
      rw [et] at o6
      have o6 : OrdsAt H6 us (allF ls) := o6
      have mall : ∀ m ∈ allF ls, m.length = ls.length := fold_mem_len _ _ fun m hm => by rw [List.mem_singleton.mp hm, List.length_replicate]
      have lall : (allF ls).length ≤ 1000 := by
        rw [← (all_perm lts h24 bal).length_eq, List.length_map, mates_len lts h24 bal]
        exact hmany
      have lus := o6.length
      try dsimp only
      refine ret_cb_lc ?_
      refine ⟨_, rfl, F, rfl, ⟨_, SqL.of gF6⟩, ?_⟩
      refine lcM (walk_list (K := K) (a := F) (xs := us)) (allF ls) (fun _ H v m => ∃ t, v = V.ref t ∧ SqB K H t (iv m)) (fun _ _ _ _ _ ⟨t, e, h⟩ s => ⟨t, e, SqB.same s h⟩) (fun D H ws o v b hD ⟨t, e, h⟩ => ⟨t, e, SqB.keptL hD Kept.upd h⟩) (by omega) lus (fun H s => SqL.of (s _ _ gF6)) ?_ (fun x σ1 H A B k h => gName_mono k h) ?_
      · intro j x m hx hm D H2 hD _ s2 Qy ky
        obtain ⟨m', hm', q, rfl, gq⟩ := o6.at hx
        obtain rfl : m' = m := Option.some.inj (hm'.symm.trans hm)
        exact ⟨rfl, _, rfl, q, _, rfl, .inl ⟨SqL.of (s2 _ _ gq), fun t H' s' B => ky _ H' s' ⟨t, rfl, B⟩⟩⟩
      intro D H7 vs hD s7 g7 r7
      refine ⟨D, vs, allF ls, rfl, SqL.of g7, all2_paired ((all2_and r7 (P := fun m => m ≠ []) fun m hm z => by
        have := mall m hm
        rw [z, List.length_nil] at this
        omega).imp fun v m ⟨⟨t, e, h⟩, n⟩ => ⟨t, e, h.sq, n⟩), fun ys ns q hs hpm hr hq => ?_⟩
      have ens : ns = (matesF (prtF ls)).map nats := asc_uniq hs (mates_asc2 lts) (hpm.trans (all_perm lts h24 bal).symm)
      subst ens
      have sq := same_upd (o := .lst ys) hq
      refine k q _ ys ((s6.trans s7).trans sq) upd_same ((all2_mapr (paired_all2 hr)).imp fun v r ⟨t, e, h⟩ => ⟨t, e, WR.Same.seqT sq h⟩)
end
end W13
set_option Elab.async false
set_option linter.all false
set_option maxRecDepth 100000
set_option maxHeartbeats 1000000
namespace W13
open PySem L2 PySem.Spec PyProof.Rows WR WB WE WS SrtT
theorem ret_cb_cb_lk {r1 r2 : List V → Hp → VK → Prop} {wi : TI} {g : TG} {tt : TT} {te : TE} {vs : List Nat} {D : Ends} {σ : L2.St} {H : Hp}
    (h : ∃ d u, H d = some u ∧ Mut (some u) ∧ ∀ od, wi σ (L2.upd H d (.frz od u)) fun J H1 => tLc (fun _ H R => R J H) g tt te vs σ H1 fun y H2 => H2 d = some (.frz od u) ∧ r2 [y] (L2.upd H2 d u) fun z H3 => r1 [z] H3 D.rt) :
    tRet (tCB r1 (tCons (tCB r2 (tCons (tLockE (tLc wi g tt te vs)) tNil)) tNil)) D σ H := h
/-- what the dict of costs holds -/
def CntOk (kvs : List (Key × V)) (cs : List Int) : Prop := kvs.length ≤ cs.length ∧ (kvs.map (·.1)).Nodup ∧ (∀ kv ∈ kvs, ∃ k : Int, kv.1 = .inl k) ∧ ∀ k : Int, valV kvs (.inl k) = if k ∈ cs then some (.int ((cs.count k : Nat) : Int)) else none
theorem cnt_nil : CntOk [] [] := ⟨Nat.le_refl _, List.Pairwise.nil, (fun _ h => nomatch h), fun k => by rw [if_neg (by simp)]; rfl⟩
theorem keys_put {kvs : List (Key × V)} {k : Key} {v : V} (hn : (kvs.map (·.1)).Nodup) : ((putK kvs k v).map (·.1)).Nodup := by
  cases e : valV kvs k with
  | none => exact nd_putK v hn e
  | some u =>
    have a : (kvs.any fun kv => decide (kv.1 = k)) = true := by rw [valV_any, e]; rfl
    have e2 : (putK kvs k v).map (·.1) = kvs.map (·.1) := by
      unfold putK
      rw [if_pos a, List.map_map]
      refine List.map_congr_left fun kv _ => ?_
      dsimp only [Function.comp_apply]
      split <;> rfl
    rw [e2]
    exact hn
theorem cnt_put {kvs : List (Key × V)} {cs : List Int} (h : CntOk kvs cs) {c w : Int} (hw : (valV kvs (.inl c)).getD (.int 0) = .int w) : CntOk (putK kvs (.inl c) (.int (w + 1))) (cs ++ [c]) := by
  obtain ⟨h1, hn, h2, h3⟩ := h
  refine ⟨?_, keys_put hn, fun kv hkv => ?_, fun k => ?_⟩
  · have := length_putK kvs (.inl c) (.int (w + 1))
    rw [List.length_append]
    show _ ≤ _ + 1
    omega
  · unfold putK at hkv
    split at hkv
    · obtain ⟨kv0, hk0, rfl⟩ := List.mem_map.mp hkv
      obtain ⟨k, e⟩ := h2 _ hk0
      refine ⟨k, ?_⟩
      split
      · exact e
      · exact e
    · rcases List.mem_append.mp hkv with hk | hk
      · exact h2 _ hk
      · rw [List.mem_singleton.mp hk]
        exact ⟨_, rfl⟩
  · rw [valV_put, List.count_append]
    by_cases ek : k = c
    · subst ek
      rw [if_pos rfl, if_pos (List.mem_append_right _ List.mem_cons_self)]
      have hv := h3 k
      have ew : w = ((cs.count k : Nat) : Int) := by
        rw [hv] at hw
        split at hw
        · injection hw with hw
          exact hw.symm
        · rename_i n
          injection hw with hw
          rw [← hw, List.count_eq_zero.mpr n]
          rfl
      rw [ew, List.count_cons_self, List.count_nil]
      rfl
    · rw [if_neg (fun z => ek (by injection z)), h3 k]
      have e1 : [c].count k = 0 := List.count_eq_zero.mpr fun z => ek (List.mem_singleton.mp z)
      rw [e1, Nat.add_zero]
      by_cases m : k ∈ cs
      · rw [if_pos m, if_pos (List.mem_append_left _ m)]
      · rw [if_neg m, if_neg fun z => (List.mem_append.mp z).elim m fun z => ek (List.mem_singleton.mp z)]
theorem keys_ints : ∀ {l : List Key}, (∀ x ∈ l, ∃ k : Int, x = .inl k) → ∃ ks : List Int, l = ks.map fun k => (.inl k : Key)
  | [], _ => ⟨[], rfl⟩
  | x :: l, h => by
    obtain ⟨k, rfl⟩ := h _ List.mem_cons_self
    obtain ⟨ks, rfl⟩ := keys_ints fun y hy => h y (List.mem_cons_of_mem _ hy)
    exact ⟨k :: ks, rfl⟩
/-- a pair of ints that stands there -/
def prOf (H : Hp) : V → Int × Int
  | .ref t => match H t with
    | some (.tup [.int a, .int b]) => (a, b)
    | _ => (0, 0)
  | _ => (0, 0)
theorem prOf_eq {H : Hp} {t : Addr} {a b : Int} (h : H t = some (.tup [.int a, .int b])) : prOf H (.ref t) = (a, b) := by
  simp only [prOf, h]
theorem all2_map {α β : Type} {R : α → β → Prop} {f : α → β} : ∀ {xs : List α} {ys : List β}, All2 R xs ys → (∀ x y, R x y → f x = y) → xs.map f = ys
  | _, _, .nil, _ => rfl
  | _, _, .cons h r, e => by rw [List.map_cons, e _ _ h, all2_map r e]
theorem map_all2 {α β : Type} {R : α → β → Prop} {f : α → β} : ∀ {xs : List α}, (∀ x ∈ xs, R x (f x)) → All2 R xs (xs.map f)
  | [], _ => .nil
  | x :: xs, h => .cons (h x List.mem_cons_self) (map_all2 fun y hy => h y (List.mem_cons_of_mem _ hy))
/-- counted, by costs ascending -/
def cnsF (cs : List Int) : List (Int × Int) := (dsF cs).map fun c => (c, ((cs.count c : Nat) : Int))
theorem hu_of {A : Around} {k : Nat} (hr : Room k A) : A.units + 1 < cLine := by
  have := hr.units
  omega
def spCns (K : PySem.W.Frag) : Sp := fun vs H Q _ => ∃ (p m : Addr) (us vs' : List V) (ws : List (List Int)) (ms : List (List Int)), vs = [.ref p, .ref m] ∧ H p = some (.lst us) ∧ LLs H us ws ∧ (∀ w ∈ ws, w ≠ []) ∧ ws.flatten.length ≤ 24 ∧ H m = some (.lst vs') ∧ ms.length ≤ 1000 ∧
  All2 (fun v mt => ∃ t, v = V.ref t ∧ SqE K H t (iv mt) ∧ MatesOk ws.flatten.length mt) vs' ms ∧ ∀ q H', Same H H' → CensAt K H' q (cnsF (ms.map fun mt => costF ws mt)) → Q (.ref q) H'
abbrev sCns : Stmt := top 75
abbrev nCns : List Str := ["_law_words", "_law_lists", "_law_found", "_law_mates", "_law_cost"]
theorem scCns : FnScope nCns ["_law_words", "_law_lists"] (defScope sCns) := ⟨rfl, rfl, rfl, by decide +kernel, rfl, by decide +kernel, by decide +kernel⟩
section
variable {P : Program} {w : World} {K : PySem.W.Frag} {mg : Str → Option Value} {base : Heap} {C CR : Addr}
theorem ok_Cns {f : Addr} {fd : FuncData} (F : Fun K "_law_census" "_law_census" sCns f fd) (N : TN mg)  (G_corners : Cal P w K mg base "_law_corners" 2 ["_law_words", "_law_mates"] (spCorL K)) : FnOk P w K mg base CX0 3 f fd ["_law_words", "_law_lists"] (spCns K) := by
  refine F.ok scCns (fun vs H Q E h => ?_) (fun cdv A outer s H vs Q E hr h => ?_)
  · obtain ⟨p, m, us, vs', ws, ms, rfl, _⟩ := h
    rfl
  · obtain ⟨p, m, us, vs', ws, ms, rfl, hp, hu, hne, l24, hm, lms, hms, k⟩ := h
    refine ⟨_, pss_cons (ps_set (i := 2) scCns.nd rfl (Or.inr rfl) pe_dnewK)
      (pss_cons (ps_for PassesOwn.never rfl (pi_list (pv 1)) (pg_name (i := 3) scCns.nd rfl (Or.inl rfl))
      (pss_cons (ps_set (i := 4) scCns.nd rfl (Or.inl rfl) (pe_op op_sub (pe_op op_fdiv (pe_callB call_len_seq (by rfl) N.len PySem.boot_len (pa_cons (pv 3) pa_nil)) pe_int) (pe_callB call_len_seq (by rfl) N.len PySem.boot_len (pa_cons (pe_cal G_corners hr (by decide) (by rfl) (pa_cons (pv 0) (pa_cons (pv 3) pa_nil))) pa_nil))))
      (pss_one (ps_dput (hu_of hr) (pv 2) (pv 4) (pe_op op_add (pe_dget2 (hu_of hr) (pv 2) (pv 4) pe_int ⟨rfl, rfl, rfl, rfl⟩) pe_int) rfl))))
      (pss_one (ps_ret (pe_callTy call_tupB (by rfl) N.tuple (by decide +kernel) (pa_cons (pe_callB cr_sortedPO (by rfl) N.sorted (by decide +kernel) (pa_cons (pe_lock (pe_lc (own := [("_law_cost", 4)]) (g := gName 4) (tt := tYes) rfl scCns.nd (pi_keys (pv 2)) (blkOk_by (N := nCns) (sc := defScope sCns) (by decide +kernel)) (fun _ _ _ _ _ => pg_name (i := 4) scCns.nd rfl (Or.inl rfl)) (fun _ _ _ _ _ => pts_nil) (fun _ _ _ _ _ => pe_tup (pa_cons (pv 4) (pa_cons (pe_dget (hu_of hr) (pv 2) (pv 4) (fun _ _ => rfl)) pa_nil))))) pa_nil)) pa_nil))))), ?_⟩
    have lv := hms.length
    obtain ⟨cs, ecs⟩ : ∃ cs, cs = ms.map fun mt => costF ws mt := ⟨_, rfl⟩
    rw [← ecs] at k
    have lcs : cs.length = ms.length := by rw [ecs, List.length_map]
    intro d hd
    have s1 := same_upd (o := .dK []) hd
    have gd1 : L2.upd H d (.dK []) d = some (.dK []) := upd_same
    obtain ⟨H1, e1⟩ : ∃ H1, H1 = L2.upd H d (.dK []) := ⟨_, rfl⟩
    rw [← e1] at s1 gd1 ⊢
    clear e1
    refine at_set ?_
    try dsimp only
    refine ⟨_, rfl, m, rfl, ⟨_, SqL.of (s1 _ _ hm)⟩, for_list (K := K) (a := m) (xs := vs') (fun i σ H' => ∃ (v3 v4 : Option V) (kvs : List (Key × V)), σ = [some (.ref p), some (.ref m), some (.ref d), v3, v4] ∧ Same H H' ∧ H' d = some (.dK kvs) ∧ CntOk kvs (cs.take i))
      ⟨none, none, [], rfl, s1, gd1, cnt_nil⟩ (fun i σ H' _ ⟨_, _, _, _, s, _⟩ => SqL.of (s _ _ hm)) ?_ ?_⟩
    · rintro i x σ H2 hi ⟨v3, v4, kvs, rfl, s2, gd2, ck⟩
      obtain ⟨mt, hmt, t, rfl, hE, hmo⟩ := hms.at hi
      have hic : i < cs.length := by
        rw [lcs]
        exact (List.getElem?_eq_some_iff.mp hmt).1
      have eci : cs[i]? = some (costF ws mt) := by rw [ecs, List.getElem?_map, hmt]; rfl
      have ekt : cs.take (i + 1) = cs.take i ++ [costF ws mt] := by
        rw [List.take_succ_eq_append_getElem hic, (List.getElem?_eq_some_iff.mp eci).2]
      refine at_set ?_
      try dsimp only
      refine ⟨_, rfl, t, _, rfl, hE.same s2, _, _, rfl, rfl, ⟨by decide, by decide⟩, _, rfl, _, rfl, p, t, us, ws, mt, rfl, s2 _ _ hp, hu.same s2, hne, by omega, hE.same s2, hmo, fun q H3 s3 ⟨vs, B1, hv⟩ => ?_⟩
      refine ⟨q, vs, rfl, .inr B1.sq, _, _, rfl, rfl, ?_⟩
      have e : ((iv mt).length : Int) / 2 - (vs.length : Int) = costF ws mt := by
        unfold costF
        rw [List.length_map, hmo.1, hv.length]
        omega
      refine at_set ?_
      try dsimp only
      rw [e]
      have gd3 := s3 _ _ gd2
      have lk : kvs.length < 40000 := by
        have := ck.1
        rw [List.length_take] at this
        omega
      obtain ⟨w, hw⟩ : ∃ w : Int, (valV kvs (.inl (costF ws mt))).getD (.int 0) = .int w := by
        rw [ck.2.2.2]
        split
        · exact ⟨_, rfl⟩
        · exact ⟨_, rfl⟩
      refine ⟨_, rfl, d, rfl, .inl ⟨_, .inl gd3⟩, _, rfl, valV kvs (.inl (costF ws mt)), DGet.k (k := .inl (costF ws mt)) gd3, ?_⟩
      refine ⟨w, 1, hw, rfl, _, rfl, _, rfl, d, L2.upd H3 d (.dK (putK kvs (.inl (costF ws mt)) (.int (w + 1)))), rfl, DPut.k (k := .inl (costF ws mt)) gd3 (Nat.lt_of_lt_of_le lk (by decide)), ?_⟩
      refine ⟨_, _, _, rfl, fun b o e2 => ?_, upd_same, ?_⟩
      · rw [upd_ne (ne_of_none e2 hd)]
        exact s3 _ _ (s2 _ _ e2)
      · rw [ekt]
        exact cnt_put ck hw
    · rintro σ H2 ⟨v3, v4, kvs, rfl, s2, gd2, ck⟩
      rw [show cs.take vs'.length = cs by rw [lv, ← lcs]; exact List.take_length] at ck
      obtain ⟨lk, nk, kk, vk⟩ := ck
      obtain ⟨ks, eks⟩ := keys_ints (l := kvs.map (·.1)) fun x hx => by
        obtain ⟨kv, hkv, rfl⟩ := List.mem_map.mp hx
        exact kk kv hkv
      have lks : ks.length = kvs.length := by
        have := congrArg List.length eks
        rw [List.length_map, List.length_map] at this
        exact this.symm
      try dsimp only
      refine ret_cb_cb_lk ?_
      refine ⟨d, .dK kvs, gd2, trivial, fun od => ?_⟩
      have hfz : (L2.upd H2 d (.frz od (.dK kvs))) d = some (.frz od (.dK kvs)) := upd_same
      refine ⟨_, rfl, d, od, rfl, .inl ⟨kvs, hfz, ?_⟩⟩
      have kmem : ∀ c, c ∈ ks ↔ c ∈ cs := fun c => by
        have v := vk c
        have a : (kvs.any fun kv => decide (kv.1 = (.inl c : Key))) = (valV kvs (.inl c)).isSome := valV_any _ _
        have m : c ∈ ks ↔ (kvs.any fun kv => decide (kv.1 = (.inl c : Key))) = true := by
          rw [List.any_eq_true]
          constructor
          · intro h
            have : (.inl c : Key) ∈ kvs.map (·.1) := by
              rw [eks]
              exact List.mem_map_of_mem h
            obtain ⟨kv, hkv, e⟩ := List.mem_map.mp this
            exact ⟨kv, hkv, decide_eq_true e⟩
          · rintro ⟨kv, hkv, e⟩
            have : (.inl c : Key) ∈ kvs.map (·.1) := List.mem_map.mpr ⟨kv, hkv, of_decide_eq_true e⟩
            rw [eks] at this
            obtain ⟨c2, h2, e2⟩ := List.mem_map.mp this
            injection e2 with e2
            rw [← e2]
            exact h2
        rw [m, a, v]
        by_cases z : c ∈ cs
        · rw [if_pos z]
          exact ⟨fun _ => z, fun _ => rfl⟩
        · rw [if_neg z]
          exact ⟨(fun q => by cases q), fun q => absurd q z⟩
      refine lcF (walk_keys (d := d) (o := od) (kvs := kvs)) (fun i H x H' ⟨e, _⟩ => by rw [e]; exact Same.refl _) (fun i => some (ks.getD i 0, ((cs.count (ks.getD i 0) : Nat) : Int))) (fun _ H v b => ∃ t, v = V.ref t ∧ H t = some (.tup [.int b.1, .int b.2])) (fun _ _ _ _ _ ⟨t, e, h⟩ s => ⟨t, e, s _ _ h⟩) (fun D H ws o v b hD ⟨t, e, h⟩ => ⟨t, e, by rw [upd_ne (fun z => by rw [z, hD] at h; cases h)]; exact h⟩) (by omega) (fun H s => s _ _ hfz) ?_ ?_
      · rintro i x H4 H5 hi s4 ⟨rfl, kx, vv, hkv, rfl⟩ D hD _ Qy Qn ky kn
        have hik : i < ks.length := by omega
        have ekx : kx = .inl (ks.getD i 0) := by
          have h1 : (kvs.map (·.1))[i]? = some kx := by rw [List.getElem?_map, hkv]; rfl
          rw [eks, List.getElem?_map, List.getElem?_eq_getElem hik] at h1
          rw [List.getD_eq_getElem?_getD, List.getElem?_eq_getElem hik]
          exact (Option.some.inj h1).symm
        subst ekx
        have hd4 := s4 _ _ hfz
        have mem : ks.getD i 0 ∈ cs := by
          rw [← kmem, List.getD_eq_getElem?_getD, List.getElem?_eq_getElem hik]
          exact List.getElem_mem hik
        have v0 := vk (ks.getD i 0)
        rw [if_pos mem] at v0
        refine ⟨rfl, yes_te ?_⟩
        refine ⟨_, rfl, _, rfl, _, rfl, d, .int ((cs.count (ks.getD i 0) : Nat) : Int), rfl, .inl ⟨kvs, .inl (ks.getD i 0), .inr ⟨od, hd4⟩, rfl, v0.symm⟩, by show 2 ≤ sizeLine; decide, fun t ht => ?_⟩
        exact ky _ _ _ rfl (same_upd ht) ⟨t, rfl, upd_same⟩
      intro D H4 us2 hD s4 h4 r4
      have hd4 := s4 _ _ hfz
      refine ⟨hd4, ?_⟩
      have eqs : (List.range kvs.length).filterMap (fun i => some (ks.getD i 0, ((cs.count (ks.getD i 0) : Nat) : Int))) = ks.map fun c => (c, ((cs.count c : Nat) : Int)) := by
        rw [← lks, range_fm (fun c : Int => some (c, ((cs.count c : Nat) : Int))) 0 ks]
        exact congrFun List.filterMap_eq_map ks
      rw [eqs] at r4
      have neD : D ≠ d := fun z => by rw [z, hfz] at hD; cases hD
      obtain ⟨H5, e5⟩ : ∃ H5, H5 = L2.upd H4 d (.dK kvs) := ⟨_, rfl⟩
      have g5 : H5 D = some (.lst us2) := by
        rw [e5, upd_ne neD]
        exact h4
      have r5 : All2 (fun v (b : Int × Int) => ∃ t, v = V.ref t ∧ H5 t = some (.tup [.int b.1, .int b.2])) us2 (ks.map fun c => (c, ((cs.count c : Nat) : Int))) := r4.imp fun v b ⟨t, e, h⟩ => ⟨t, e, by rw [e5, upd_ne (fun z => by rw [z, hd4] at h; cases h)]; exact h⟩
      have s5 : Same H H5 := by
        refine s2.trans fun b o e => ?_
        rw [e5]
        by_cases eb : b = d
        · rw [eb] at e ⊢
          rw [upd_same, ← e, gd2]
        · rw [upd_ne eb]
          exact s4 _ _ (by rw [upd_ne eb]; exact e)
      rw [← e5]
      have epr : us2.map (prOf H5) = ks.map fun c => (c, ((cs.count c : Nat) : Int)) := all2_map r5 fun x b ⟨t, e, h⟩ => by rw [e, prOf_eq h]
      refine ⟨D, us2, prOf H5, rfl, SqL.of g5, fun x hx => ?_, fun ys p2 hs hb hp2 => ?_⟩
      · obtain ⟨b, _, t, rfl, h⟩ := All2.mem r5 hx
        exact ⟨t, rfl, by rw [prOf_eq h]; exact h⟩
      have s6 := s5.trans (same_upd (o := .lst ys) hp2)
      have pmy := hb.perm
      have ndk : ks.Nodup := by
        rw [eks] at nk
        exact (List.pairwise_map.mp nk).imp fun {a b} n e => n (by rw [e])
      have pF : (ys.map fun y => (prOf H5 y).1).Perm ks := by
        have h1 := pmy.map fun y => (prOf H5 y).1
        have h2 : (us2.map fun y => (prOf H5 y).1) = ks := by
          have := congrArg (List.map Prod.fst) epr
          rw [List.map_map, List.map_map] at this
          rw [show (us2.map fun y => (prOf H5 y).1) = us2.map (Prod.fst ∘ prOf H5) from rfl, this]
          exact List.map_id' ks
        rw [h2] at h1
        exact h1
      have asc : (ys.map fun y => (prOf H5 y).1).Pairwise (· < ·) := by
        have n := pF.nodup_iff.mpr ndk
        rw [List.pairwise_map]
        have n2 := List.pairwise_map.mp n
        refine (hs.and n2).imp fun {a b} h => ?_
        have := SrtO.lexB_no.mp h.1
        have := h.2
        omega
      have eF : (ys.map fun y => (prOf H5 y).1) = dsF cs := ds_is (fun c hc => by
        rw [ecs] at hc
        obtain ⟨mt, _, rfl⟩ := List.mem_map.mp hc
        exact cost_rng l24) asc fun c => by rw [pF.mem_iff, kmem]
      have each : ∀ y ∈ ys, ∃ t, y = V.ref t ∧ H5 t = some (.tup [.int (prOf H5 y).1, .int ((cs.count (prOf H5 y).1 : Nat) : Int)]) := fun y hy => by
        obtain ⟨b, hb2, t, rfl, h⟩ := All2.mem r5 (pmy.mem_iff.mp hy)
        obtain ⟨c, _, rfl⟩ := List.mem_map.mp hb2
        exact ⟨t, rfl, by rw [prOf_eq h]; exact h⟩
      refine ⟨p2, ys, rfl, .inl ⟨SqL.of upd_same, fun q H7 s7 B7 => k q H7 (s6.trans s7) ⟨ys, B7, ?_⟩⟩⟩
      unfold cnsF
      rw [← eF, List.map_map]
      refine map_all2 fun y hy => ?_
      obtain ⟨t, e, h⟩ := each y hy
      exact ⟨t, e, SqT.of (s7 _ _ (same_upd hp2 _ _ h))⟩
end
end W13
set_option Elab.async false
set_option linter.all false
set_option maxRecDepth 100000
set_option maxHeartbeats 1000000
namespace W13
open PySem L2 PySem.Spec PyProof.Rows WR WB WE WS
abbrev sFault : Stmt := top 74
abbrev nFault : List Str := ["_law_ask", "_law_caught", "error"]
theorem scFault : FnScope nFault ["_law_ask"] (defScope sFault) := ⟨rfl, rfl, rfl, by decide +kernel, rfl, by decide +kernel, by decide +kernel⟩
structure TwoE (K : PySem.W.Frag) (mg : Str → Option Value) (CBR CTM CH : Addr) : Prop where
  gH : mg "HandleError" = some (.ref CH)
  tBR : PySem.W.exmOne K (.ref CBR) (.ref CH) = some true
  tTM : PySem.W.exmOne K (.ref CTM) (.ref CH) = some true
  eBR : L2.ExcC K CBR
  eTM : L2.ExcC K CTM
  nBR : PySem.W.kitOne K (.type "NoneType") (.ref CBR) = some false
  nTM : PySem.W.kitOne K (.type "NoneType") (.ref CTM) = some false
  TMBR : PySem.W.kitOne K (.ref CTM) (.ref CBR) = some false
  f_part : PySem.W.findIn K (.ref CBR) "part" = some none
  f_what : PySem.W.findIn K (.ref CTM) "what" = some none
  f_most : PySem.W.findIn K (.ref CTM) "most" = some none
def KindX (CBR CTM : Addr) (D : Addr) (fs : List (Str × V)) (us : List V) : Prop :=
  (D = CBR ∧ ∃ v : V, fs = ([("part", v)] : List (Str × V)) ∧ us = [.str "rims", v]) ∨ (D = CTM ∧ ∃ v u : V, fs = ([("most", u), ("what", v)] : List (Str × V)) ∧ us = [v, u])
def EF (CBR CTM : Addr) (Q : VK) : XK := fun cls d H' => ∃ (D dd : Addr) (fs : List (Str × V)) (us : List V), cls = .ref D ∧ d = some dd ∧ H' dd = some (.xd fs) ∧ KindX CBR CTM D fs us ∧
  ∀ H2, Same H' H2 → ∀ t, H2 t = some (.tup us) → Q (.ref t) H2
def TFault (CBR CTM : Addr) : (XK → Hp → VK → Prop) → Hp → VK → Prop := fun tl H Q => ∀ R : VK, (∀ v H', (∀ H2, Same H' H2 → Q .non H2) → R v H') → tl (EF CBR CTM Q) H R
theorem takes_len {X : Cx} {W : WX} (t : Takes X W) : Takes X (fun cls d σ H => σ.length = X.N.length → W cls d σ H) := fun u s' ⟨a, B, sI, pins, σ, H, cls, d, e, I, nb, up, sky, na, os, ag, w⟩ =>
  t u s' ⟨a, B, sI, pins, σ, H, cls, d, e, I, nb, up, sky, na, os, ag, w I.len⟩
theorem on2 {a : Addr} {σ : L2.St} (h : σ.length = 3) : (σ.set 2 (some (.ref a)))[2]? = some (some (.ref a)) := by
  match σ, h with
  | [_, _, _], _ => rfl
theorem on1 {a : Addr} {σ : L2.St} (h : σ.length = 3) : (((σ.set 2 (some (.ref a))).set 1 (some (.ref a))).set 2 none)[1]? = some (some (.ref a)) := by
  match σ, h with
  | [_, _, _], _ => rfl
set_option maxHeartbeats 4000000 in
theorem fault_gives {X : Cx} {g CBR CTM CH : Addr} {cdg : Value} {q : Str} (N : TN X.mg) (BR : ErrC X.prog X.w X.K X.mg X.base CBR "BadRims" ["self", "part"] (spI1 "part" CBR)) (TM : ErrC X.prog X.w X.K X.mg X.base CTM "TooMany" ["self", "what", "most"] (spM2 CTM)) (Z : TwoE X.K X.mg CBR CTM CH) (hr : Room 1 X.A) :
    LamX.GivesTo X nFault "_law_fault" (defScope sFault) g cdg (defBody sFault) "_law_ask" q (TFault CBR CTM) := by
  intro f c' s H Q tl act hc h
  have hu : X.A.units + 64 < cLine := hr.units
  refine ⟨_, pss_cons (ps_set (i := 1) scFault.nd rfl (Or.inl rfl) pe_non)
    (pss_cons (CK.ps_try_keep (X := (cxOf C8.CX0 X.prog X.w X.K X.mg X.base nFault "_law_fault" (defScope sFault) g cdg X.A X.stack s H C8.E0).nox) (i := 2) (out := fun _ _ _ _ => False) (c := .ref CH)
      (say := fun _ _ _ => tAsg (tVar 2) (gName 1))
      (tb := fun W D σ H => ∃ Ech : XK, (∀ cls d σ' H', Ech cls d H' → σ'.length = 3 → W cls d σ' H') ∧ σ[0]? = some (some (.ref f)) ∧ H c' = some (LamX.CodeO c' q) ∧ tl Ech H (fun _ H' => D.nx σ H'))
      rfl rfl rfl LamX.takes0 (fun W pn xe tk _ => ?_)
      scFault.nd rfl rfl ⟨rfl, by decide, .inl Z.gH⟩ (fun a oe cls d pn hz hf => pss_one (ps_set (i := 1) scFault.nd rfl (Or.inl rfl) (pv 2))))
    (pss_cons (ps_if (pt_val (pe_callB CK.call_isC (by rfl) N.isinstance (by decide +kernel) (pa_cons (pv 1) (pa_cons (pe_glob (v := .ref CBR) (by rfl) BR.g rfl) pa_nil)))) (pss_one (ps_ret (pe_tup (pa_cons pe_str (pa_cons (CK.pe_kf BR.xf Z.f_part (pv 1)) pa_nil))))) pss_nil)
    (pss_cons (ps_if (pt_val (pe_callB CK.call_isC (by rfl) N.isinstance (by decide +kernel) (pa_cons (pv 1) (pa_cons (pe_glob (v := .ref CTM) (by rfl) TM.g rfl) pa_nil)))) (pss_one (ps_ret (pe_tup (pa_cons (CK.pe_kf TM.xf Z.f_what (pv 1)) (pa_cons (CK.pe_kf TM.xf Z.f_most (pv 1)) pa_nil))))) pss_nil)
    (pss_one (ps_ret (pe_ifExp (pt_cmpR op_isN (pv 1) pe_non (nomark _)) pe_non (pe_tup (pa_cons pe_str (pa_cons pe_non pa_nil))))))))), ?_⟩
  · refine ⟨fun pins s' σ H' D I h' => ?_⟩
    obtain ⟨Ech, hW, h1, h2, h3⟩ := h'
    exact (pss_one (ps_expr (act _ pn xe Ech _ _ (takes_len tk) (fun cls d σ' H' h hl => hW cls d σ' H' h hl)))).run pins s' σ H' D I ⟨h1, h2, h3⟩
  · refine ⟨EF CBR CTM Q, fun cls d σ' H' h1 h2 => ?_, rfl, hc, ?_⟩
    · obtain ⟨D, dd, fs, us, rfl, rfl, h4, hk, hq⟩ := h1
      have tD : PySem.W.exmOne X.K (.ref D) (.ref CH) = some true := by
        rcases hk with ⟨rfl, _⟩ | ⟨rfl, _⟩
        · exact Z.tBR
        · exact Z.tTM
      refine ⟨true, tD, fun _ a ha => ?_, fun z => Bool.noConfusion z⟩
      have sa : Same H' (L2.upd H' a (CK.exk a (.ref D) (some dd))) := same_upd ha
      have hdd : (L2.upd H' a (CK.exk a (.ref D) (some dd))) dd = some (.xd fs) := sa _ _ h4
      have hat : (L2.upd H' a (CK.exk a (.ref D) (some dd))) a = some (CK.exk a (.ref D) (some dd)) := upd_same
      refine ⟨_, on2 h2, ?_⟩
      rcases hk with ⟨rfl, v, rfl, rfl⟩ | ⟨rfl, v, u, rfl, rfl⟩
      · refine ⟨_, on1 h2, .inr ⟨a, D, dd, _, .ref D, .ref D, true, rfl, hat, hdd, Z.eBR, fun u hu => hu, kit_self D, ?_⟩⟩
        refine ⟨_, rfl, iteT ?_⟩
        exact ⟨_, on1 h2, a, dd, _, _, rfl, hat, hdd, lk_eq, by show 2 ≤ sizeLine; decide, fun t ht => hq _ (sa.trans (same_upd ht)) t upd_same⟩
      · refine ⟨_, on1 h2, .inr ⟨a, D, dd, _, .ref CBR, .ref CBR, false, rfl, hat, hdd, Z.eTM, fun u hu => hu, Z.TMBR, ?_⟩⟩
        refine ⟨_, rfl, iteF ?_⟩
        refine ⟨_, on1 h2, .inr ⟨a, D, dd, _, .ref D, .ref D, true, rfl, hat, hdd, Z.eTM, fun u hu => hu, kit_self D, ?_⟩⟩
        refine ⟨_, rfl, iteT ?_⟩
        exact ⟨_, on1 h2, a, dd, _, _, rfl, hat, hdd, (by rw [lk_ne (show ¬ (("what" : Str) = "most") by decide +kernel)]; exact lk_eq), _, on1 h2, a, dd, _, _, rfl, hat, hdd, lk_eq, by show 2 ≤ sizeLine; decide, fun t ht => hq _ (sa.trans (same_upd ht)) t upd_same⟩
    · refine h _ fun v H' hq => ?_
      refine ⟨_, rfl, .inl ⟨_, _, _, _, _, rfl, .own CBR, Typ.non.ty, Z.nBR, ?_⟩⟩
      refine ⟨_, rfl, iteF ?_⟩
      refine ⟨_, rfl, .inl ⟨_, _, _, _, _, rfl, .own CTM, Typ.non.ty, Z.nTM, ?_⟩⟩
      refine ⟨_, rfl, iteF ?_⟩
      exact ⟨_, rfl, rfl, _, rfl, iteT (hq _ (Same.refl _))⟩
end W13
set_option Elab.async false
set_option linter.all false
set_option maxRecDepth 100000
set_option maxHeartbeats 1000000
namespace W13
open PySem L2 PySem.Spec PyProof.Rows WR WB WE WS
structure FunC (K : PySem.W.Frag) (x : Str) (st : Stmt) (f c : Addr) (fd : FuncData) : Prop where
  ex : ∃ (oc : Value) (od : Option Addr) (kV doc pm : Value) (an : Option Addr) (ct : Value) (osl : Array (Option Value)),
    fd = PySem.W.fnOf x x (defArgs st) (defBody st) (defScope st) .none kV doc pm an (.ref c) ct ∧ K.lookup f = some ⟨oc, od, .func fd, osl⟩ ∧ PySem.W.codeIn K (.ref c) x = true
theorem FunC.okG {P : Program} {w : World} {K : PySem.W.Frag} {mg : Str → Option Value} {base : Heap} {x : Str} {st : Stmt} {f c : Addr} {fd : FuncData} {N ps : List Str} {k : Nat} {sp : Sp} (F : FunC K x st f c fd) (S : FnScope N ps (defScope st)) (many : ∀ zs G R E, sp zs G R E → zs.length = ps.length)
    (B0 : ∀ (B : Around) (fr : List Env) (t : Shared) (G : Hp) (zs : List V) (R : VK) (E : XK), B.guards = some [] → Room k (B.deeper (envOfC x (defScope st) t.heap.objs.size f (.ref c))) → sp zs G R E →
      ∃ tb, PSs (cxOf CX0 P w K mg base N x (defScope st) f (.ref c) B fr t G E).nox (defBody st) tb ∧ tb { nx := fun _ G' => R .non G', rt := R } (L2.start N zs) G) : RG.FnG P w K mg base (k + 1) f fd ps sp := by
  obtain ⟨oc, od, kV, doc, pm, an, ct, osl, rfl, lk, cd⟩ := F.ex
  refine RG.fnG_of lk cd S many fun B fr t G zs R E hg room asked => ?_
  obtain ⟨tb, run, read⟩ := B0 B fr t G zs R E hg room asked
  exact ⟨tb, run.nox, read⟩
structure FaultK (K : PySem.W.Frag) (mg : Str → Option Value) (g : Addr) : Prop where
  mg : mg "_law_fault" = some (.ref g)
  kp : PySem.W.keepIn K (.ref g) = true
  ex : ∃ (oc : Value) (od : Option Addr) (kV doc pm cdv ct : Value) (an : Option Addr) (osl : Array (Option Value)),
    K.lookup g = some ⟨oc, od, .func (PySem.W.fnOf "_law_fault" "_law_fault" (defArgs sFault) (defBody sFault) (defScope sFault) .none kV doc pm an cdv ct), osl⟩ ∧ PySem.W.codeIn K cdv "_law_fault" = true
theorem tabs_kept {T : List (Addr × Str)} {a c : Addr} {n : Nat} {H H' : Hp} (h : HandAt H a c n) (k : Kept a H H') (t : LamX.Tabs T H) : LamX.Tabs T H' := by
  intro p hp
  obtain ⟨ps, h1, h2, h3⟩ := t p hp
  obtain ⟨ns, i, r, ha, _⟩ := h
  have na : ∀ {b : Addr} {o : HO}, H b = some o → (∀ xs, o ≠ .lst xs) → b ≠ a := fun e z q => by
    rw [q, ha] at e
    exact z _ (Option.some.inj e).symm
  refine ⟨ps, k _ _ (na h1 fun xs q => by cases q) h1, h2, fun pos cv hc => ?_⟩
  obtain ⟨d, e1, e2⟩ := h3 pos cv hc
  exact ⟨d, e1, k _ _ (na e2 fun xs q => by
    have q2 : HO.ext _ = HO.lst xs := q
    cases q2) e2⟩
theorem HandAt.ext {H H' : Hp} {a c : Addr} {n : Nat} (h : HandAt H a c n) (s : LamX.ExtN H H') : HandAt H' a c n := by
  obtain ⟨ns, i, r, h1, h2, h3⟩ := h
  exact ⟨ns, i, r, s _ _ h1 (fun ps q => by cases q), s _ _ h2 (fun ps q => by cases q), h3⟩
theorem Drew.tabs {T : List (Addr × Str)} {a c : Addr} {m n : Nat} {H H' : Hp} (d : Drew a c n H H') (h : HandAt H a c m) (t : LamX.Tabs T H) : LamX.Tabs T H' := tabs_kept h d.2 t
section
variable {K : PySem.W.Frag} {C CR CS : Addr} {H H' : Hp}
theorem extOf (s : Same H H') : LamX.ExtN H H' := LamX.ExtN.of fun b o e => s b o e
theorem SqT.extN {a : Addr} {xs : List V} (s : LamX.ExtN H H') (h : SqT K H a xs) : SqT K H' a xs :=
  h.elim (fun r => .inl (r.elim (fun r => .inl (s _ _ r fun ps q => by cases q)) fun ⟨o, r⟩ => .inr ⟨o, s _ _ r fun ps q => by cases q⟩)) fun r => .inr r
theorem SqB.extN {a : Addr} {xs : List V} (s : LamX.ExtN H H') (h : SqB K H a xs) : SqB K H' a xs :=
  ⟨SqT.extN s h.sq, let ⟨o, u, e, z⟩ := h.bare; ⟨o, u, s _ _ e (fun ps q => by cases q), z⟩⟩
theorem WordAt.extN {p : Addr} {ns : List Int} (s : LamX.ExtN H H') (h : WordAt K C H p ns) : WordAt K C H' p ns := by
  obtain ⟨dx, tl, tk, ks, h1, h2, h3, h4⟩ := h
  exact ⟨dx, tl, tk, ks, s _ _ h1 (fun ps q => by cases q), SqB.extN s h2, SqT.extN s h3, h4⟩
theorem RimsAt.extN {p : Addr} {xs : List Addr} {ws : List (List Int)} (s : LamX.ExtN H H') (h : RimsAt K C CR H p xs ws) : RimsAt K C CR H' p xs ws := by
  obtain ⟨d2, tw, tl, th, tn, r1, r2, r3, r4, r5, r6⟩ := h
  exact ⟨d2, tw, tl, th, tn, s _ _ r1 (fun ps q => by cases q), SqB.extN s r2, r3.imp fun a ns wa => WordAt.extN s wa, SqB.extN s r4, SqB.extN s r5, SqB.extN s r6⟩
end
section
variable {K : PySem.W.Frag} {CBR CTM : Addr} {T : List (Addr × Str)} {H H1 : Hp} {Q : VK}
theorem ef_any {D : Addr} {fs : List (Str × V)} {us : List V} (s0 : LamX.ExtN H H1) (t1 : LamX.Tabs T H1) (k : ∀ H2 t, LamX.ExtN H H2 → LamX.Tabs T H2 → H2 t = some (.tup us) → Q (.ref t) H2) (kind : KindX CBR CTM D fs us) :
    ∀ H2, Same H1 H2 → ∀ d, H2 d = none → EF CBR CTM Q (.ref D) (some d) (L2.upd H2 d (.xd fs)) := by
  intro H2 s2 d hd
  have s3 := s2.trans (same_upd (o := .xd fs) hd)
  refine ⟨D, d, fs, us, rfl, rfl, upd_same, kind, fun H4 s4 t ht => ?_⟩
  have s5 := s3.trans s4
  exact k H4 t (s0.trans (extOf s5)) (fun p hp => (t1 p hp).ext fun b o e => s5 b o e) ht
theorem ef_rims (s0 : LamX.ExtN H H1) (t1 : LamX.Tabs T H1) (k : ∀ H2 t, LamX.ExtN H H2 → LamX.Tabs T H2 → H2 t = some (.tup [.str "rims", .str "rims"]) → Q (.ref t) H2) : Bad "part" CBR (EF CBR CTM Q) H1 (.str "rims") :=
  ef_any s0 t1 k (.inl ⟨rfl, _, rfl, rfl⟩)
theorem ef_many (s0 : LamX.ExtN H H1) (t1 : LamX.Tabs T H1) (k : ∀ H2 t, LamX.ExtN H H2 → LamX.Tabs T H2 → H2 t = some (.tup [.str "sewings", .int 720]) → Q (.ref t) H2) : BadM CTM (EF CBR CTM Q) H1 (.str "sewings") 720 :=
  ef_any s0 t1 k (.inr ⟨rfl, _, _, rfl, rfl⟩)
end
end W13
set_option Elab.async false
set_option linter.all false
set_option maxRecDepth 100000
set_option maxHeartbeats 2000000
namespace TE
open PySem PySem.SeqAt PySem.Spec PyProof.Rows
open AutoSeq1 (wpAny_loadPart')
section
variable {P : Program} {w : World} {A : Around} {R : Result → Shared → Prop}
theorem tup_ne (l b : Addr) (xs ys : Array Value) (n k : Nat) (d1 d2 : Option Addr) (o1 o2 : Array (Option Value)) (e : Nat → Bool) (I : Nat → Shared → Prop)
    (step : ∀ i (h1 : i < xs.size) (h2 : i < ys.size) t, I i t → wpAny (model P w) A.in1 (eqBool xs[i] ys[i]) (fun r t' => r = e i ∧ I (i + 1) t') (fun x t' => R (.error x) t') t)
    (out : ∀ i t, I i t → R (.ok (.ret (.bool (!ans xs ys e)))) t) {s : Shared} (at1 : s.heap.get? l = some { cls := .type "tuple", dict := d1, data := .seq xs n, slots := o1 }) (at2 : s.heap.get? b = some { cls := .type "tuple", dict := d2, data := .seq ys k, slots := o2 }) (start : I 0 s) :
    wpAny (model P w) A.in1 (Builtin.«tuple.__ne__» ⟨[.ref l, .ref b], []⟩) (GQ.FinOf P w A R) (fun x t => R (.error x) t) s := by
  have sub := AutoSeq1.sub_tuple_tuple
  have len : (xs.toList.zip ys.toList).length = min xs.size ys.size := by simp
  have i0 := start
  obtain ⟨hp, g, d, tk, os⟩ := s
  wp_walk using wpAny_loadPart' at1, wpAny_loadPart' at2, wpAny_forIn_list _ (fun rest b t => b.1 = none ∧ ∃ i, rest = (xs.toList.zip ys.toList).drop i ∧ (∀ j, j < i → j < min xs.size ys.size → e j = true) ∧ I i t) _
  case turn =>
    rintro ⟨y, x⟩ rest b t ⟨hb, i, hz, before, it⟩
    have lt : i < (xs.toList.zip ys.toList).length := Nat.lt_of_not_le fun h' => by
      rw [List.drop_of_length_le h'] at hz
      cases hz
    have lm : i < min xs.size ys.size := len ▸ lt
    have h1 : i < xs.size := by omega
    have h2 : i < ys.size := by omega
    rw [List.drop_eq_getElem_cons lt] at hz
    obtain ⟨pq, more⟩ := List.cons.inj hz
    obtain rfl : y = xs[i] := by simpa using congrArg Prod.fst pq
    obtain rfl : x = ys[i] := by simpa using congrArg Prod.snd pq
    refine wpAny_bind (wpAny_mono (step i h1 h2 t it) (fun r t2 q => ?_) fun _ _ z => z)
    obtain ⟨rfl, it2⟩ := q
    cases he : e i with
    | true =>
      wp_walk
      refine ⟨rfl, i + 1, more, fun j hj lj => ?_, it2⟩
      rcases Nat.lt_succ_iff_lt_or_eq.mp hj with h | rfl
      · exact before j h lj
      · exact he
    | false =>
      wp_walk
      have no : ans xs ys e = false := by
        have : (List.range (min xs.size ys.size)).all e = false := List.all_eq_false.mpr ⟨i, List.mem_range.mpr lm, by rw [he]; decide⟩
        rw [ans, this, Bool.false_and]
      have := out _ _ it2
      rw [no] at this
      exact this
  case fin =>
    rintro ⟨b1, b2⟩ t ⟨hb, i, hz, before, it⟩
    simp only at hb
    subst hb
    have ge : min xs.size ys.size ≤ i := Nat.le_of_not_lt fun h => by
      rw [List.drop_eq_getElem_cons (len ▸ h)] at hz
      cases hz
    have yes : (List.range (min xs.size ys.size)).all e = true := List.all_eq_true.mpr fun j hj => before j (by have := List.mem_range.mp hj; omega) (List.mem_range.mp hj)
    have fin := out _ _ it
    rw [ans, yes, Bool.true_and] at fin
    wp_walk
    simpa [Builtin.Tuple.tupleCompareSizes, bne] using fin
  case h => exact ⟨rfl, 0, rfl, fun j hj => absurd hj (Nat.not_lt_zero j), i0⟩
end
end TE
set_option Elab.async false
set_option linter.all false
set_option maxRecDepth 100000
set_option maxHeartbeats 1000000
namespace OE
open PySem PySem.Spec PyProof.Rows L2 WR WB WE WS W13
section
variable {X : Cx} {C : Addr} {k : Nat} {R : Hp → Addr → Addr → Bool → Prop} {pins : List (Addr × Obj)} {σ : L2.St} {H : Hp} {s : Shared}
theorem rcE (M : Eq X.prog X.w X.K X.mg X.base C k R) {A : Around} (sb : Sub X k A) (I : Inv X pins σ H s) {a b : Addr} {c : Bool} (r : R H a b c) :
    wpAny (model X.prog X.w) A (richCompare .Eq (.ref a) (.ref b)) (fun r s' => r = .bool c ∧ Inv X pins σ H s') X.xe s := by
  obtain ⟨⟨dx, fs, ha⟩, dy, gs, hb'⟩ := M.ins _ _ _ _ r
  obtain ⟨mA, J, _⟩ := ins_get I.hok ha
  obtain ⟨mB, J', _⟩ := ins_get I.hok hb'
  obtain ⟨od, J, _⟩ := J.look
  obtain ⟨od', J', _⟩ := J'.look
  obtain ⟨m, hF⟩ := I.fr
  obtain ⟨f, hs, hf, hc⟩ := callE M sb I r
  exact PySem.W.cmp_K (op := .Eq) (tb := .ref C) sb.room.units0 hF I.ok.mod.kin J J'.type (by simp [PySem.W.notFirst]) hs hf (wpAny_mono hc (fun r s' q => by obtain ⟨rfl, I2⟩ := q; exact ⟨rfl, I2⟩) fun _ _ z => z)
theorem ebE (M : Eq X.prog X.w X.K X.mg X.base C k R) {A : Around} (sb : Sub X k A) (I : Inv X pins σ H s) {a b : Addr} {c : Bool} (r : R H a b c) (same : a = b → c = true) :
    wpAny (model X.prog X.w) A (eqBool (.ref a) (.ref b)) (fun r s' => r = c ∧ Inv X pins σ H s') X.xe s := by
  by_cases hab : a = b
  · subst hab
    rw [same rfl]
    exact (SeqAt.EqAt.same (A := A) (s := s) (.ref a)) X.prog X.w X.xe _ ⟨rfl, I⟩
  · refine GQ.eqBool_refG hab (wpAny_mono (rcE M sb I r) (fun v s' q => ⟨_, q.1, rfl, q.2⟩) fun _ _ z => z)
/-- two tuples of things with their own ==, of one length -/
def rNT (K : PySem.W.Frag) (R : Hp → Addr → Addr → Bool → Prop) : R2 := fun x y H Q => ∃ (a b : Addr) (xs ys : List Addr) (cs : Nat → Bool), x = .ref a ∧ y = .ref b ∧ SqT K H a (xs.map V.ref) ∧ SqT K H b (ys.map V.ref) ∧ xs.length = ys.length ∧ (∀ i p, xs[i]? = some p → ys[i]? = some p → cs i = true) ∧
  (∀ i p q, xs[i]? = some p → ys[i]? = some q → R H p q (cs i)) ∧ Q (.bl (!((List.range xs.length).all cs))) H
theorem op_nT (M : Eq X.prog X.w X.K X.mg X.base C k R) {j : Nat} (hr : Room j X.A) (hj : k + 1 ≤ j) : OpR X (compareOp .NotEq) (rNT X.K R) := by
  intro pins s σ H x y u v Q I rx ry d
  obtain ⟨a, b, xs, ys, cs, rfl, rfl, ha, hb, lxy, same, each, q⟩ := d
  cases rx
  cases ry
  have rm : Room (k + 1) X.A := hr.mono hj
  obtain ⟨its, r, ⟨⟨cls, dd, data, sl⟩, ho, hc, n, hd⟩, _⟩ := I.tuple ha
  obtain ⟨its2, r2, ⟨⟨cls2, dd2, data2, sl2⟩, ho2, hc2, n2, hd2⟩, _⟩ := I.tuple hb
  simp only at hc hd hc2 hd2
  subst hc hd hc2 hd2
  have l1 : its.toArray.size = xs.length := by rw [List.size_toArray, ← r.length, List.length_map]
  have l2 : its2.toArray.size = ys.length := by rw [List.size_toArray, ← r2.length, List.length_map]
  have sb : Sub X k X.A.in1 := ⟨rm.in1, rfl⟩
  show wpAny (model X.prog X.w) X.A (richCompare .NotEq (.ref a) (.ref b)) (EP X pins σ Q) X.xe s
  refine wpAny_richCompare_same_room (op := .NotEq) ⟨_, ho, rfl⟩ ⟨_, ho2, rfl⟩ PySem.F.slot_tuple_ne (GQ.call_here PySem.F.slot_tuple_ne ⟨_, ho, rfl⟩ PySem.F.entry_tuple_ne (PySem.F.args_tuple_ne_2 _ _) ?_) rm.units0
  refine TE.tup_ne a b its.toArray its2.toArray n n2 dd dd2 sl sl2 cs (fun _ t => Inv X pins σ H t) (fun i h1 h2 t It => ?_) (fun i t It => ?_) ho ho2 I
  · have k1 : i < xs.length := by omega
    have k2 : i < ys.length := by omega
    obtain ⟨u1, hu1, ru1⟩ := r.get (show (xs.map V.ref)[i]? = some (V.ref xs[i]) by rw [List.getElem?_map, List.getElem?_eq_getElem k1]; rfl)
    obtain ⟨u2, hu2, ru2⟩ := r2.get (show (ys.map V.ref)[i]? = some (V.ref ys[i]) by rw [List.getElem?_map, List.getElem?_eq_getElem k2]; rfl)
    cases ru1
    cases ru2
    have e1 : its.toArray[i] = .ref xs[i] := by
      have := (List.getElem?_eq_some_iff.mp hu1).2
      simpa using this
    have e2 : its2.toArray[i] = .ref ys[i] := by
      have := (List.getElem?_eq_some_iff.mp hu2).2
      simpa using this
    rw [e1, e2]
    exact ebE M sb It (each i _ _ (List.getElem?_eq_getElem k1) (List.getElem?_eq_getElem k2)) fun e => same i xs[i] (List.getElem?_eq_getElem k1) (by rw [e]; exact List.getElem?_eq_getElem k2)
  · have e : TE.ans its.toArray its2.toArray cs = (List.range xs.length).all cs := by
      show ((List.range (min its.toArray.size its2.toArray.size)).all cs && its.toArray.size == its2.toArray.size) = _
      rw [l1, l2, ← lxy, Nat.min_self, beq_self_eq_true, Bool.and_true]
    rw [e]
    exact ⟨(fun z => nomatch z), .bl _, H, It, rfl, q⟩
end
end OE
set_option Elab.async false
set_option linter.all false
set_option maxRecDepth 100000
set_option maxHeartbeats 1000000
namespace W13
open PySem L2 PySem.Spec PyProof.Rows WR WB WE WS
abbrev prD (p : Int × Int) : PyData := .tuple [.int p.1, .int p.2]
abbrev cenD (ps : List (Int × Int)) : PyData := .tuple (ps.map prD)
def smI (i : Int) : Bool := PyData.showable (.int i) && PyData.intsShort 13 (.int i) && decide (PyData.weight (.int i) ≤ 10)
theorem smI_nat : ∀ n : Nat, n < 61 → smI (n : Int) = true := by decide +kernel
theorem smI_neg : ∀ n : Nat, n < 61 → smI (-(n : Int)) = true := by decide +kernel
theorem smI_of {i : Int} (h : -60 ≤ i) (h2 : i ≤ 60) : smI i = true := by
  by_cases hi : 0 ≤ i
  · have := smI_nat i.toNat (by omega)
    rwa [Int.toNat_of_nonneg hi] at this
  · have := smI_neg (-i).toNat (by omega)
    rwa [Int.toNat_of_nonneg (by omega), Int.neg_neg] at this
theorem all_cen {ps : List (Int × Int)} (h : ∀ p ∈ ps, smI p.1 = true ∧ smI p.2 = true) :
    PyData.showableAll (ps.map prD) = true ∧ PyData.hasDictAll (ps.map prD) = false ∧ PyData.depthAll (ps.map prD) ≤ 1 ∧ PyData.canLayAll0 (ps.map prD) = true ∧ PyData.intsShortAll 13 (ps.map prD) = true ∧ PyData.weightAll (ps.map prD) ≤ ps.length * 23 := by
  induction ps with
  | nil => exact ⟨rfl, rfl, by simp [PyData.depthAll], rfl, rfl, by simp [PyData.weightAll]⟩
  | cons p r ih =>
    obtain ⟨h1, h2, h3, h4, h5, h6⟩ := ih fun q hq => h q (List.mem_cons_of_mem _ hq)
    obtain ⟨a, b⟩ := h p List.mem_cons_self
    simp only [smI, Bool.and_eq_true, decide_eq_true_eq] at a b
    obtain ⟨⟨a1, a2⟩, a3⟩ := a
    obtain ⟨⟨b1, b2⟩, b3⟩ := b
    refine ⟨?_, ?_, ?_, ?_, ?_, ?_⟩
    · simp only [List.map_cons, PyData.showableAll, PyData.showable, Bool.and_eq_true, h1, and_true] at a1 b1 ⊢
      exact ⟨a1, b1⟩
    · simp only [List.map_cons, PyData.hasDictAll, PyData.hasDict, h2, Bool.or_self]
    · simp only [List.map_cons, PyData.depthAll, PyData.depth] at h3 ⊢
      omega
    · simp only [List.map_cons, PyData.canLayAll0, PyData.canLay0, h4, Bool.and_self]
    · simp only [List.map_cons, PyData.intsShortAll, PyData.intsShort, Bool.and_eq_true, h5, and_true] at a2 b2 ⊢
      exact ⟨a2, b2⟩
    · simp only [List.map_cons, PyData.weightAll, PyData.weight, List.length_cons] at h6 a3 b3 ⊢
      omega
theorem shw_cen {ps : List (Int × Int)} (h : ∀ p ∈ ps, smI p.1 = true ∧ smI p.2 = true) (hl : ps.length ≤ 64) : RA.Shw (cenD ps) := by
  obtain ⟨h1, h2, h3, h4, h5, h6⟩ := all_cen h
  have hw : PyData.weight (cenD ps) ≤ 2 ^ 20 := by
    simp only [PyData.weight]
    have e : (2 : Nat) ^ 20 = 1048576 := by decide
    omega
  have hd : PyData.depth (cenD ps) ≤ 30 := by
    simp only [PyData.depth]
    omega
  have lay : PyData.layable0 (cenD ps) = true := by
    simp only [PyData.layable0, Bool.and_eq_true, decide_eq_true_eq, PyData.canLay0]
    exact ⟨⟨h4, by omega⟩, hw⟩
  have sh := PyProof.Rows.shown_le13 lay (by simpa only [PyData.intsShort] using h5)
  exact ⟨by simpa only [PyData.showable] using h1, by simpa only [PyData.hasDict] using h2, hd, by rw [sizeLine_eq]; omega⟩
theorem shw_int {i : Int} (h : smI i = true) : RA.Shw (.int i) := by
  simp only [smI, Bool.and_eq_true, decide_eq_true_eq] at h
  obtain ⟨⟨a1, a2⟩, a3⟩ := h
  have lay : PyData.layable0 (.int i) = true := by
    simp only [PyData.layable0, Bool.and_eq_true, decide_eq_true_eq, PyData.canLay0, PyData.depth]
    have e : (2 : Nat) ^ 20 = 1048576 := by decide
    exact ⟨⟨trivial, by first | trivial | omega⟩, by omega⟩
  have sh := PyProof.Rows.shown_le13 lay a2
  exact ⟨a1, rfl, by simp [PyData.depth], by rw [sizeLine_eq]; omega⟩
theorem all2_mem {α β : Type} {R S : α → β → Prop} {xs : List α} {ys : List β} (h : All2 R xs ys) (f : ∀ a b, b ∈ ys → R a b → S a b) : All2 S xs ys := by
  induction h with
  | nil => exact .nil
  | cons e _ ih => exact .cons (f _ _ List.mem_cons_self e) (ih fun a b hb r => f a b (List.mem_cons_of_mem _ hb) r)
theorem prd_dp {K : PySem.W.Frag} {H : Hp} {vs : List V} {ps : List (Int × Int)} (h : All2 (PrT K H) vs ps) : DpAll K H vs (ps.map prD) := by
  induction h with
  | nil => exact .nil
  | cons e _ ih =>
    obtain ⟨q, rfl, hq⟩ := e
    exact .cons (.tup hq (.cons (.int _) (.cons (.int _) .nil))) ih
theorem dp_cen {K : PySem.W.Frag} {H : Hp} {q : Addr} {ps : List (Int × Int)} (h : CensAt K H q ps) : Dp K H (.ref q) (cenD ps) := by
  obtain ⟨vs, hB, h2⟩ := h
  exact .tup hB.sq (prd_dp h2)
theorem cen_shw {cs : List Int} (hl : cs.length ≤ 60) : RA.Shw (cenD (cnsF cs)) := by
  refine shw_cen (fun p hp => ?_) ?_
  · obtain ⟨c, hc, rfl⟩ := List.mem_map.mp hp
    have hc2 := (List.mem_filter.mp hc).1
    obtain ⟨i, hi, rfl⟩ := List.mem_map.mp hc2
    have hi2 := List.mem_range.mp hi
    have hn : cs.count ((i : Int) - 32) ≤ cs.length := List.count_le_length
    exact ⟨smI_of (by omega) (by omega), smI_of (by omega) (by omega)⟩
  · show ((((List.range 64).map fun (i : Nat) => (i : Int) - 32).filter fun c => decide (c ∈ cs)).map _).length ≤ 64
    rw [List.length_map]
    refine Nat.le_trans (List.length_filter_le _ _) ?_
    rw [List.length_map, List.length_range]
    exact Nat.le_refl _
end W13
set_option Elab.async false
set_option linter.all false
set_option maxRecDepth 100000
set_option maxHeartbeats 1000000
namespace W13
open PySem L2 PySem.Spec PyProof.Rows WR WB WE WS SrtT
def ltd (ws : List (List Int)) : List PyData := ws.map fun w => .tuple (w.map .int)
theorem lay_ltd : ∀ ws, PyData.canLayAll0 (ltd ws) = true ∧ PyData.depthAll (ltd ws) ≤ 2
  | [] => ⟨rfl, by decide⟩
  | w :: r => by
    obtain ⟨h1, h2⟩ := lay_ltd r
    obtain ⟨i1, i2⟩ := lay_ints w
    unfold ltd at h1 h2 ⊢
    simp [PyData.canLayAll0, PyData.canLay0, PyData.depthAll, PyData.depth, h1, i1, i2]
    omega
theorem shaped_ltd (ws : List (List Int)) : SeqAt.shaped (.list (ltd ws)) = true := by
  obtain ⟨h1, h2⟩ := lay_ltd ws
  simp [SeqAt.shaped, PyData.canLay0, PyData.depth, h1]
  omega
theorem eqv_ltd : ∀ ws : List (List Int), PyData.eqv (.list (ltd ws)) (.list (ltd ws)) = true
  | [] => rfl
  | w :: r => by
    have ih : PyData.eqvAll (ltd r) (ltd r) = true := eqv_ltd r
    show (PyData.eqvAll (w.map .int) (w.map .int) && PyData.eqvAll (ltd r) (ltd r)) = true
    rw [eqvAll_ints, ih, decide_eq_true rfl]
    rfl
theorem nx_or_op_lc {r : R2} {wi : TI} {g : TG} {tt : TT} {te tb : TE} {vs : List Nat} {rest : TT} {A B Cc : TS} {D : Ends} {σ : L2.St} {H : Hp} {b1 b2 : L2.St → Hp → Prop} {rt : VK}
    (h : wi σ H fun J H1 => tLc (fun _ H R => R J H) g tt te vs σ H1 fun x H2 => tb σ H2 fun y H3 => r x y H3 fun v H4 => ∃ k, v = .bl k ∧ if k = true then (if true = true then A { D with nx := Cc D } σ H4 else B { D with nx := Cc D } σ H4) else rest σ H4 fun c H5 => if c = true then A { D with nx := Cc D } σ H5 else B { D with nx := Cc D } σ H5) :
    tNext { nx := tSeq (tIfS (tOr (tTest (tOp r (tLc wi g tt te vs) tb)) rest) A B) Cc D, rt := rt, bk := b1, ct := b2 } σ H := h
theorem dp_lts {K : PySem.W.Frag} {H : Hp} {us : List V} {ws : List (List Int)} (h : All2 (fun v w => ∃ q, v = V.ref q ∧ SqT K H q (iv w)) us ws) : DpAll K H us (ltd ws) := by
  induction h with
  | nil => exact .nil
  | cons h1 _ ih =>
    obtain ⟨q, rfl, hq⟩ := h1
    exact .cons (.tup hq (dpInts _)) ih
theorem mapr_all2 {α β γ : Type} {R : α → γ → Prop} {f : β → γ} : ∀ {xs : List α} {ys : List β}, All2 (fun x y => R x (f y)) xs ys → All2 R xs (ys.map f)
  | _, _, .nil => .nil
  | _, _, .cons h r => .cons h (mapr_all2 r)
theorem or_op_lc {r : R2} {wi : TI} {g : TG} {tt : TT} {te tb : TE} {vs : List Nat} {rest : TT} {σ : L2.St} {H : Hp} {Q : Bool → Hp → Prop}
    (h : wi σ H fun J H1 => tLc (fun _ H R => R J H) g tt te vs σ H1 fun x H2 => tb σ H2 fun y H3 => r x y H3 fun v H4 => ∃ c, v = .bl c ∧ if c = true then Q true H4 else rest σ H4 Q) : tOr (tTest (tOp r (tLc wi g tt te vs) tb)) rest σ H Q := h
theorem all2_last {α β : Type} {R : α → β → Prop} : ∀ {xs : List α} {ys : List β}, All2 R xs ys → 1 ≤ ys.length → ∃ xs0 x ys0 y, xs = xs0 ++ [x] ∧ ys = ys0 ++ [y] ∧ R x y
  | _, _, .nil, h => absurd h (Nat.not_succ_le_zero _)
  | [x], [y], .cons h .nil, _ => ⟨[], x, [], y, rfl, rfl, h⟩
  | x :: x2 :: xs, y :: y2 :: ys, .cons h r, _ => by
    obtain ⟨xs0, u, ys0, v, e1, e2, q⟩ := all2_last r (by rw [List.length_cons]; omega)
    exact ⟨x :: xs0, u, y :: ys0, v, by rw [e1]; rfl, by rw [e2]; rfl, q⟩
theorem all2_refs {β : Type} {R : Addr → β → Prop} : ∀ {vs : List V} {bs : List β}, All2 (fun v b => ∃ p, v = V.ref p ∧ R p b) vs bs → ∃ ps : List Addr, vs = ps.map V.ref ∧ All2 R ps bs
  | _, _, .nil => ⟨[], rfl, .nil⟩
  | _, _, .cons ⟨p, e, h⟩ r => by
    obtain ⟨ps, e2, q⟩ := all2_refs r
    exact ⟨p :: ps, by rw [e, e2]; rfl, .cons h q⟩
abbrev sLR : Stmt := top 76
abbrev nLR : List Str := ["_law_words", "_law_rims_here", "_law_lists", "_law_told", "_law_sewing"]
theorem scLR : FnScope nLR ["_law_words"] (defScope sLR) := ⟨rfl, rfl, rfl, by decide +kernel, rfl, by decide +kernel, by decide +kernel⟩
theorem units40 {A : Around} {k : Nat} (hr : Room k A) : A.units + 40 < cLine := Nat.lt_of_le_of_lt (Nat.add_le_add_left (by decide : 40 ≤ 64) _) hr.units
theorem op_neRK {X : Cx} {K : PySem.W.Frag} {C CR : Addr} (h : X.K = K) (M : EqR X.prog X.w K X.mg X.base C CR) (rn : PySem.W.findIn K (.ref CR) "__ne__" = some (some (.builtin "object.__ne__"))) (cm : PySem.W.mroIn K CR (.type "object") = some true) {j : Nat} (hr : Room j X.A) (hj : 4 ≤ j) : OpR X (compareOp .NotEq) (rNeR K C CR) := by
  subst h
  exact op_neR M rn cm hr hj
def spLR : Sp := fun vs H Q _ => ∃ (p : Addr) (us : List V) (ws : List (List Int)), vs = [.ref p] ∧ H p = some (.lst us) ∧ LLs H us ws ∧ RimOk ws ∧ (∀ z, (ws.flatten.count z : Int) = ws.flatten.count (-z)) ∧ manyF ws.flatten ≤ 36 ∧ (∀ l, ws.flatten.count l ≤ 4) ∧ ∀ H', Same H H' → Q (.bl true) H'
section
variable {P : Program} {w : World} {K : PySem.W.Frag} {mg : Str → Option Value} {base : Heap} {C CR CS CBR CTM : Addr}
theorem ok_LR {f : Addr} {fd : FuncData} (F : Fun K "_law_listed_right" "_law_listed_right" sLR f fd) (N : TN mg) (T : TxW K mg C) (TC : TxRC K mg CR) (TS : TxSC K mg CS) (MS : MkS P w K mg base C CR CS) (ER : EqR P w K mg base C CR) (rn : PySem.W.findIn K (.ref CR) "__ne__" = some (some (.builtin "object.__ne__"))) (ES : OE.Eq P w K mg base CS 4 (SewEq K C CR CS))
    (G_rims : Cal P w K mg base "_law_rims" 6 ["_law_words"] (spLRims K C CR)) (G_letters : Cal P w K mg base "_law_letters" 1 ["_law_words"] spLets) (G_all : Cal P w K mg base "_law_all" 2 ["_law_letters_here"] (spAll K)) (G_census : Cal P w K mg base "_law_census" 3 ["_law_words", "_law_lists"] (spCns K))
    (GA : Cal P w K mg base "all_sewings" 27 ["rims"] (spAllS K C CR CS)) (GM : Cal P w K mg base "many_sewings" 2 ["rims"] (spMany K C CR))
    (GAK : CalKX P w K mg base "all_sewings" 27 ["rims"] ["rims"] (fun zs => zs) (spOr (spAllS K C CR CS) (spAllSX K C CR CBR CTM))) (GMK : CalKX P w K mg base "many_sewings" 5 ["rims"] ["rims"] (fun zs => zs) (spOr (spMany K C CR) (spManyX K CR CBR))) (GCK : CalKX P w K mg base "census" 28 ["rims"] ["rims"] (fun zs => zs) (spOr (spCens K C CR) (spAllSX K C CR CBR CTM))) :
    RG.FnG P w K mg base 29 f fd ["_law_words"] spLR := by
  refine RG.Fun.okG F scLR (fun vs H Q E h => ?_) (fun cdv A outer s H vs Q E hg hr h => ?_)
  · obtain ⟨p, us, ws, rfl, _⟩ := h
    rfl
  · obtain ⟨p, us, ws, rfl, hp, hu, ok, bal, many, h4, k⟩ := h
    refine ⟨_, pss_cons (ps_asg (pe_tup (pa_cons (pe_cal G_rims hr (by decide) (by rfl) (pa_cons (pv 0) pa_nil)) (pa_cons (pe_cal G_all hr (by decide) (by rfl) (pa_cons (pe_cal G_letters hr (by decide) (by rfl) (pa_cons (pv 0) pa_nil)) pa_nil)) pa_nil))) (pg_tup (n := 2) rfl (pgs_cons (pg_name (i := 1) scLR.nd rfl (Or.inr rfl)) (pgs_cons (pg_name (i := 2) scLR.nd rfl (Or.inl rfl)) pgs_nil))))
      (pss_cons (ps_set (i := 3) scLR.nd rfl (Or.inl rfl) (pe_calKX GAK hr (by decide) (by rfl) (pk_cons (pv 1) pk_nil)))
      (pss_cons (ps_if (PW.pt (pw_or (pt_not (pt_val (pe_callB call_isi (by rfl) N.isinstance (by decide +kernel) (pa_cons (pv 3) (pa_cons (pe_bltn (v := .ty "tuple") (by rfl) N.tuple (by decide +kernel) rfl) pa_nil))))) (pw_or (pt_cmpR (op_neD hr.units) (pe_lc (own := [("_law_sewing", 4)]) (g := gName 4) (tt := tYes) rfl scLR.nd (pi_tup (pv 3)) (blkOk_by (N := nLR) (sc := defScope sLR) (by decide +kernel)) (fun _ _ _ _ _ => (pg_name (i := 4) scLR.nd rfl (Or.inl rfl))) (fun _ _ _ _ _ => pts_nil) (fun _ _ _ _ _ => (pe_fldK (K := K) rfl (pv 4) rfl))) (pv 2) (nomark _)) (pw_or1 (pt_cmpR op_ne (pe_callB call_len_seq (by rfl) N.len PySem.boot_len (pa_cons (pv 2) pa_nil)) (pe_calKX GMK hr (by decide) (by rfl) (pk_cons (pv 1) pk_nil)) (nomark _)))))) (pss_one (ps_ret pe_bl)) pss_nil)
      (pss_cons (ps_if (PW.pt (pw_or (pt_cmpR (op_neD hr.units) (pe_lc (own := [("_law_sewing", 4)]) (g := gName 4) rfl scLR.nd (pi_tup (pv 3)) (blkOk_by (N := nLR) (sc := defScope sLR) (by decide +kernel)) (fun _ _ _ _ _ => (pg_name (i := 4) scLR.nd rfl (Or.inl rfl))) (fun _ _ _ _ _ => (pts_one (pt_cmpR (op_neRK (K := K) rfl ER rn TC.cm hr (by decide)) (pe_fldK (K := K) rfl (pv 4) rfl) (pv 1) (nomark _)))) (fun _ _ _ _ _ => (pv 4))) (pe_lst pa_nil) (nomark _)) (pw_or (pt_cmpR (OE.op_n ES hr (by decide)) (pe_ix ix_tup (pv 3) (pe_un un_neg pe_int) (fun _ _ => rfl)) (pe_sewK (K := K) rfl MS TS hr (by decide) (by rfl) (pa_cons (pv 1) (pa_cons (pe_callTy (call_listK (K := K) rfl) (by rfl) N.list (by decide +kernel) (pa_cons (pe_ix ix_list (pv 2) (pe_un un_neg pe_int) (fun _ _ => rfl)) pa_nil)) pa_nil))) (nomark _)) (pw_or1 (pt_cmpR (OE.op_nT ES hr (by decide)) (pe_cal GA hr (by decide) (by rfl) (pa_cons (pv 1) pa_nil)) (pv 3) (nomark _)))))) (pss_one (ps_ret pe_bl)) pss_nil)
      (pss_one (ps_ret (pe_and (pe_cmpR op_eq (pe_callB (RA.call_reprA hg (units40 hr)) (by rfl) N.repr (by decide +kernel) (pa_cons (pe_calKX GCK hr (by decide) (by rfl) (pk_cons (pv 1) pk_nil)) pa_nil)) (pe_callB (RA.call_reprA hg (units40 hr)) (by rfl) N.repr (by decide +kernel) (pa_cons (pe_cal G_census hr (by decide) (by rfl) (pa_cons (pv 0) (pa_cons (pv 2) pa_nil))) pa_nil)) (nomark _)) (pe_one (pe_cmpR op_eq (pe_callB (RA.call_reprA hg (units40 hr)) (by rfl) N.repr (by decide +kernel) (pa_cons (pe_cal GM hr (by decide) (by rfl) (pa_cons (pv 1) pa_nil)) pa_nil)) (pe_callB (RA.call_reprA hg (units40 hr)) (by rfl) N.repr (by decide +kernel) (pa_cons (pe_callB call_len_seq (by rfl) N.len PySem.boot_len (pa_cons (pv 2) pa_nil)) pa_nil)) (nomark _))))))))), ?_⟩
    obtain ⟨l1, l4, hne, l24, hl_, hb⟩ := id ok
    have bal2 : ∀ l, ws.flatten.count l = ws.flatten.count (-l) := fun l => by have := bal l; omega
    have f1 : 1 ≤ ws.flatten.length := by
      obtain ⟨w0, hw0⟩ : ∃ w0, w0 ∈ ws := List.exists_mem_of_length_pos (by omega)
      have h0 : 0 < w0.length := List.length_pos_iff.mpr (hne w0 hw0)
      have := word_le hw0
      omega
    have lsew : (sewF ws).length = manyF ws.flatten := mates_len hl_ l24 bal2
    refine ⟨_, rfl, p, us, ws, rfl, hp, hu, ok, fun rp H1 xs s1 R1 => ?_⟩
    refine ⟨_, rfl, p, us, ws, rfl, s1 _ _ hp, hu.same s1, by omega, fun lq H2 hlq s2 gl2 => ?_⟩
    refine ⟨lq, ws.flatten, rfl, gl2, f1, l24, hl_, bal2, by omega, h4, fun q H3 vs s3 g3 r3 => ?_⟩
    refine ⟨by show 2 ≤ sizeLine; decide, fun t ht => ?_⟩
    have s4 := same_upd (o := .tup [.ref rp, .ref q]) ht
    refine ⟨t, _, rfl, SqT.of upd_same, rfl, _, _, rfl, _, _, rfl, rfl, ?_⟩
    have g4 := s4 _ _ g3
    have s14 := (s2.trans s3).trans s4
    have R4 := R1.same s14
    have r4 := r3.imp fun v r ⟨t, e, h⟩ => (⟨t, e, WR.Same.seqT s4 h⟩ : ∃ t, v = V.ref t ∧ SqT K _ t (iv (nats r)))
    obtain ⟨H4, e4⟩ : ∃ H4, H4 = L2.upd H3 t (.tup [.ref rp, .ref q]) := ⟨_, rfl⟩
    rw [← e4] at s4 g4 s14 R4 r4 ⊢
    clear e4
    try dsimp only
    refine ⟨_, rfl, rfl, .inl ⟨rp, xs, ws, rfl, R4, ok, by omega, by omega, fun q5 H5 s5 ⟨ss, B5, A5⟩ => ?_⟩⟩
    refine at_set ?_
    try dsimp only
    refine ⟨_, rfl, _, _, _, _, true, rfl, .ty _, SqT.tyx B5.sq, kit_ty (by decide +kernel), _, rfl, iteF ?_⟩
    have g5 := s5 _ _ g4
    have r5 := r4.imp fun v r ⟨t, e, h⟩ => (⟨t, e, WR.Same.seqT s5 h⟩ : ∃ t, v = V.ref t ∧ SqT K H5 t (iv (nats r)))
    have R5 := R4.same s5
    have lss := A5.length
    refine or_op_lc ?_
    refine ⟨_, rfl, q5, rfl, ⟨_, B5.sq⟩, ?_⟩
    refine lcM (walk_tup (K := K) (a := q5) (xs := ss)) (sewF ws) (fun _ H v r => ∃ t, v = V.ref t ∧ SqB K H t (iv (nats r))) (fun _ _ _ _ _ ⟨t, e, h⟩ s => ⟨t, e, SqB.same s h⟩) (fun D H us o v b hD ⟨t, e, h⟩ => ⟨t, e, SqB.keptL hD Kept.upd h⟩) (by omega) lss (fun H s => (SqB.same s B5).sq) ?_ (fun _ _ _ _ _ => gName_mono) ?_
    · intro i x r hx hr2 D H6 hD _ s6 Qy ky
      obtain ⟨r', hr', sp, rfl, S5⟩ := A5.at hx
      obtain rfl : r' = r := Option.some.inj (hr'.symm.trans hr2)
      obtain ⟨dx, tm, tc, tp, h1, R1', h3, _⟩ := S5.same s6
      exact ⟨rfl, _, rfl, sp, CS, dx, _, _, rfl, h1, TS.cl, TS.n2, sf_mates, ky _ _ (Same.refl _) ⟨tm, rfl, h3⟩⟩
    intro D H6 us6 hD s6 g6 r6
    have g6q := s6 _ _ g5
    have r6q := r5.imp fun v r ⟨t, e, h⟩ => (⟨t, e, WR.Same.seqT s6 h⟩ : ∃ t, v = V.ref t ∧ SqT K H6 t (iv (nats r)))
    have r6b := r6.imp fun v r ⟨t, e, h⟩ => (⟨t, e, h.sq⟩ : ∃ t, v = V.ref t ∧ SqT K H6 t (iv (nats r)))
    refine ⟨_, rfl, .list (ltd ((sewF ws).map nats)), .list (ltd ((sewF ws).map nats)), .lst (SqL.of g6) (dp_lts (mapr_all2 r6b)), .lst (SqL.of g6q) (dp_lts (mapr_all2 r6q)), shaped_ltd _, shaped_ltd _, _, rfl, iteF' (by rw [eqv_ltd]; rfl) ?_⟩
    have lvs : vs.length = manyF ws.flatten := by rw [r3.length]; exact lsew
    have R6 := R5.same s6
    refine ⟨_, rfl, q, vs, rfl, .inl (SqL.of g6q), _, rfl, rfl, .inl ⟨rp, xs, ws, rfl, R6, ok, fun H7 s7 => ?_⟩⟩
    refine ⟨rfl, _, rfl, iteF' (by rw [lvs]; simp) ?_⟩
    have A7 := A5.imp fun v r ⟨p, e, h⟩ => (⟨p, e, (h.same s6).same s7⟩ : ∃ p, v = V.ref p ∧ SewAt K C CR CS H7 p rp xs ws (nats r))
    have B7 := SqB.same s7 (SqB.same s6 B5)
    have R7 := R6.same s7
    refine nx_or_op_lc ?_
    refine ⟨_, rfl, q5, rfl, ⟨_, B7.sq⟩, ?_⟩
    refine lcp (walk_tup (K := K) (a := q5) (xs := ss)) (fun _ => false) (fun v => v) (by omega) (fun H s => (SqB.same s B7).sq) ?_ ?_
    · intro x hx H8 s8 Qy Qn ky kn
      obtain ⟨r, hr, sp, rfl, S7⟩ := All2.mem A7 hx
      have S8 := S7.same s8
      obtain ⟨dx, tm, tc, tp, h1, R1', h3, _⟩ := id S8
      refine ⟨rfl, _, rfl, sp, CS, dx, _, _, rfl, h1, TS.cl, TS.n1, sf_rims, _, rfl, rp, rp, xs, xs, ws, ws, rfl, rfl, R1', R1', _, rfl, iteF' (by simp) (kn rfl _ (Same.refl _))⟩
    intro D8 H8 hD8 s8 g8
    have e8 : (ss.filter fun _ => false).map (fun v => v) = [] := by simp
    rw [e8] at g8
    refine ⟨Nat.zero_le _, fun p9 hp9 => ?_⟩
    have s9 := same_upd (o := .lst []) hp9
    refine ⟨.list [], .list [], .lst (SqL.of (s9 _ _ g8)) .nil, .lst (SqL.of upd_same) .nil, rfl, rfl, _, rfl, iteF' (by rfl) ?_⟩
    have s79 := s8.trans s9
    obtain ⟨H9, e9⟩ : ∃ H9, H9 = L2.upd H8 p9 (.lst []) := ⟨_, rfl⟩
    rw [← e9] at s79 ⊢
    clear e9 s9 g8 e8
    have A9 := A7.imp fun v r ⟨p, e, h⟩ => (⟨p, e, h.same s79⟩ : ∃ p, v = V.ref p ∧ SewAt K C CR CS H9 p rp xs ws (nats r))
    have B9 := SqB.same s79 B7
    have R9 := R7.same s79
    have g9 := s79 _ _ (s7 _ _ g6q)
    have r9 := r6q.imp fun v r ⟨t, e, h⟩ => (⟨t, e, WR.Same.seqT (s7.trans s79) h⟩ : ∃ t, v = V.ref t ∧ SqT K H9 t (iv (nats r)))
    have pos : 1 ≤ (sewF ws).length := by
      rw [lsew]
      exact prd_pos fun k _ => fct_pos _ (Nat.lt_of_le_of_lt List.count_le_length (by omega))
    obtain ⟨ss0, sv, rs0, rl, ess, ers, sp, rfl, S9⟩ := all2_last A9 pos
    obtain ⟨vs0, vv, rs1, rl1, evs, ers1, tq, rfl, T9⟩ := all2_last r9 pos
    have erl : rl1 = rl := by
      have e := ers.symm.trans ers1
      have := congrArg List.getLast? e
      rw [List.getLast?_concat, List.getLast?_concat] at this
      exact (Option.some.inj this).symm
    subst erl
    have mrl : rl1 ∈ sewF ws := by rw [ers]; exact List.mem_append_right _ List.mem_cons_self
    refine ⟨_, rfl, _, rfl, q5, ss, _, .ref sp, rfl, rfl, B9.sq, by rw [ess]; exact atI_last _ _, ?_⟩
    refine ⟨_, rfl, _, rfl, _, rfl, q, vs, _, .ref tq, rfl, rfl, SqL.of g9, by rw [evs]; exact atI_last _ _, tq, _, rfl, .inr T9, fun l hl => ?_⟩
    have sl := same_upd (o := .lst (iv (nats rl1))) hl
    intro x dx nx ndx _
    refine sew_at nx ndx (R9.same sl) ok (.inl (SqL.of upd_same)) (mates_ok hl_ mrl) fun H10 s10 S10 => ?_
    have sA := sl.trans s10
    refine ⟨sp, x, true, rfl, rfl, ⟨rp, rp, xs, xs, ws, ws, nats rl1, nats rl1, S9.same sA, S10, by simp⟩, _, rfl, iteF ?_⟩
    refine ⟨_, rfl, rp, xs, ws, rfl, R9.same sA, ok, by omega, by omega, fun q6 H11 s11 ⟨ss6, B11, A11⟩ => ?_⟩
    have sB := sA.trans s11
    obtain ⟨ps6, e6, P6⟩ := all2_refs A11
    obtain ⟨ps5, e5, P5⟩ := all2_refs (A9.imp fun v r ⟨p, e, h⟩ => (⟨p, e, h.same sB⟩ : ∃ p, v = V.ref p ∧ SewAt K C CR CS H11 p rp xs ws (nats r)))
    have B5b := SqB.same sB B9
    rw [e5] at B5b
    rw [e6] at B11
    refine ⟨_, rfl, q6, q5, ps6, ps5, fun _ => true, rfl, rfl, B11.sq, B5b.sq, by rw [P6.length, P5.length], fun _ _ _ _ => rfl, fun i a b ha hb2 => ?_, ?_⟩
    · obtain ⟨r1, hr1, X1⟩ := P6.at ha
      obtain ⟨r2, hr2, X2⟩ := P5.at hb2
      obtain rfl := Option.some.inj (hr1.symm.trans hr2)
      exact ⟨rp, rp, xs, xs, ws, ws, _, _, X1, X2, by simp⟩
    rw [show ((List.range ps6.length).all fun _ => true) = true by simp]
    refine ⟨_, rfl, iteF ?_⟩
    have R11 := R9.same sB
    refine ⟨_, rfl, rfl, .inl ⟨rp, xs, ws, rfl, R11, ok, by omega, by omega, fun qc H12 s12 K12 => ?_⟩⟩
    have cn : (costsF ws).length ≤ 60 := by
      show ((sewF ws).map _).length ≤ 60
      rw [List.length_map]
      omega
    refine ⟨_, _, rfl, dp_cen K12, cen_shw cn, ?_⟩
    have sZ := s1.trans (s14.trans (s5.trans (s6.trans (s7.trans (s79.trans (sB.trans s12))))))
    have g12 := (sB.trans s12) _ _ g9
    have r12 := all2_mem r9 fun v r hr ⟨t, e, h⟩ => (⟨t, e, .inr (WR.Same.seqT (sB.trans s12) h), (mates_ok hl_ hr).1.1⟩ : ∃ t, v = V.ref t ∧ SqE K H12 t (iv (nats r)) ∧ MatesOk ws.flatten.length (nats r))
    refine ⟨_, rfl, _, rfl, p, q, us, vs, ws, (sewF ws).map nats, rfl, sZ _ _ hp, hu.same sZ, hne, l24, g12, by rw [List.length_map]; omega, mapr_all2 r12, fun qd H13 s13 K13 => ?_⟩
    rw [List.map_map] at K13
    refine ⟨_, _, rfl, dp_cen K13, cen_shw (show ((sewF ws).map _).length ≤ 60 by rw [List.length_map]; omega), ?_⟩
    rw [show cnsF (List.map ((fun mt => costF ws mt) ∘ nats) (sewF ws)) = censusF ws from rfl]
    refine ⟨rfl, _, rfl, ?_⟩
    rw [if_pos (decide_eq_true rfl)]
    have sY := sB.trans (s12.trans s13)
    refine ⟨_, rfl, rp, xs, ws, rfl, R9.same sY, ok, fun H14 s14_ => ?_⟩
    have sm : smI ((manyF ws.flatten : Nat) : Int) = true := smI_of (by omega) (by omega)
    refine ⟨_, _, rfl, .int _, shw_int sm, ?_⟩
    refine ⟨_, rfl, q, vs, rfl, .inl (SqL.of ((s12.trans s13).trans s14_ _ _ (sB _ _ g9))), ?_⟩
    rw [lvs]
    refine ⟨_, _, rfl, .int _, shw_int sm, rfl, ?_⟩
    rw [decide_eq_true rfl]
    exact k _ (sZ.trans (s13.trans s14_))
end
end W13
set_option Elab.async false
set_option linter.all false
set_option maxRecDepth 100000
set_option maxHeartbeats 1000000
namespace LamD
open PySem PySem.Spec PyProof.Rows L2 LamX
/-- the function: its defaults are the tuple at t -/
abbrev fnD (qual : Str) (params : Arguments) (body : Expr) (scope : Scope) (cl : List (Str × Addr)) (pm cdv ct dv : Value) : FuncData := { PySem.W.kla_fn "<lambda>" qual params body scope cl pm cdv ct with defaults := dv }
abbrev obD (qual : Str) (params : Arguments) (body : Expr) (scope : Scope) (cl : List (Str × Addr)) (pm cdv ct dv : Value) : Obj := { cls := .type "function", data := .func (fnD qual params body scope cl pm cdv ct dv) }
abbrev tupO (u : Value) : Obj := { cls := .type "tuple", data := .seq [u].toArray }
section
variable {M : Model} {A : Around} {E : Value → Shared → Prop} {s : Shared} {qual : Str} {params : Arguments} {body : Expr} {scope : Scope} {env : Env} {c P : Addr} {ps : Array Value} {pos : Pos} {mg : Str → Option Value} {clos : List (Str × Addr)} {Q : Value → Shared → Prop} {dv : Value}
/-- the function's end: its code object is new -/
theorem tail_new (hcl : closureFor scope env = pure clos) (hge0 : env.globals = mainGlobals) (hg : s.heap.Ns mainGlobals mg) (hcode : env.code = .ref c) (C : PySem.W.CodeHd s.heap c P) (hP : s.heap.get? P = some (PySem.W.tabObj ps)) (ht : TriplesOk ps.toList)
    (hnf : codeAmong pos ps.toList = none) (hgP : mainGlobals ≠ P) (hb : s.heap.BuiltinsAt mg P)
    (h : ∀ c' ctv h' tk, Heap.ExtBut P s.heap h' → s.heap.objs.size ≤ c' → c' < h'.objs.size → h'.CodeRec (.ref c') qual → h'.get? P = some (PySem.W.tabObj (ps ++ #[rawInt pos.line, rawInt pos.col, .ref c'])) →
      Q (.ref h'.objs.size) { s with heap := h'.push (obD qual params body scope clos ((mg "__name__").getD .none) (.ref c') ctv dv), toks := tk }) :
    wpAny M A (makeTail "<lambda>" qual params (.expr body) scope env dv .none none pos pos.line) Q E s := by
  obtain ⟨bm, ob, b1, b2, _, b3, b4, b5, b6, b7⟩ := hb
  -- from where the tuple of cells stands, or none
  have rest : ∀ (ctv : Value) (h0 : Heap), (∀ b o, s.heap.get? b = some o → h0.get? b = some o) → s.heap.objs.size ≤ h0.objs.size →
      wpAny M A (do
        let code ← functionCode env pos pos.line "<lambda>" qual params scope (.expr body)
        let bu ← builtinsFor mainGlobals env.builtins
        let nm ← nsGet mainGlobals "__name__"
        let dc ← (pure .none : Sem Value)
        newObj (.type "function") (.func { name := "<lambda>", qualname := qual, params := params, body := .expr body, scope := scope, globals := mainGlobals, closure := clos, closureTuple := ctv, code := code, builtins := bu, defaults := dv, kwdefaults := .none, annotations := none, pyModule := nm.getD .none, doc := dc })) Q E { s with heap := h0 } := by
    intro ctv h0 k0 z0
    have hP0 := k0 _ _ hP
    have C0 := C.keeps k0
    refine wpAny_bind (wpAny_functionCodeX hcode (C0.code hP0 ht) (C0.tab hP0) hnf fun c' h' tk hx hge hlt _ hrec htb _ => ?_)
    have hg0 : h0.Ns mainGlobals mg := by
      obtain ⟨o, es, ep, e, r⟩ := hg
      exact ⟨o, es, ep, k0 _ _ e, r⟩
    have hg' := hg0.extBut hx hgP
    refine wpAny_bind (wpAny_builtinsFor hg' b1 b2 (hx _ _ b3 (k0 _ _ b4)) b5 b6 b7 (wpAny_bind (wpAny_nsGet hg' (wpAny_bind (wpAny_pure ?_)))))
    exact wpAny_newObj_type (h c' ctv h' tk (fun b o n e => hx b o n (k0 _ _ e)) (Nat.le_trans z0 hge) hlt hrec htb.2) (by size_fits)
  unfold makeTail
  rw [hcl, hge0]
  refine wpAny_bind (wpAny_pure ?_)
  by_cases em : clos.isEmpty = true
  · simp only [em, if_true]
    exact wpAny_bind (wpAny_pure (rest .none s.heap (fun _ _ e => e) (Nat.le_refl _)))
  · simp only [em, if_false]
    exact wpAny_bind (wpAny_newTextTuple (rest _ _ (fun b o e => Heap.get?_push_of_some _ e) (by rw [Heap.size_push]; omega)))
/-- the function's end: its code object is known -/
theorem tail_hit {cv : Value} (hcl : closureFor scope env = pure clos) (hge0 : env.globals = mainGlobals) (hg : s.heap.Ns mainGlobals mg) (hcode : env.code = .ref c) (C : PySem.W.CodeHd s.heap c P) (hP : s.heap.get? P = some (PySem.W.tabObj ps)) (ht : TriplesOk ps.toList)
    (hf : codeAmong pos ps.toList = some cv) (hb : s.heap.BuiltinsAt mg P)
    (h : ∀ (ctv : Value) (h' : Heap) (tk : Tok), (∀ b o, s.heap.get? b = some o → h'.get? b = some o) → s.heap.objs.size ≤ h'.objs.size → Q (.ref h'.objs.size) { s with heap := h'.push (obD qual params body scope clos ((mg "__name__").getD .none) cv ctv dv), toks := tk }) :
    wpAny M A (makeTail "<lambda>" qual params (.expr body) scope env dv .none none pos pos.line) Q E s := by
  obtain ⟨bm, ob, b1, b2, _, b3, b4, b5, b6, b7⟩ := hb
  have rest : ∀ (ctv : Value) (h0 : Heap), (∀ b o, s.heap.get? b = some o → h0.get? b = some o) → s.heap.objs.size ≤ h0.objs.size →
      wpAny M A (do
        let code ← functionCode env pos pos.line "<lambda>" qual params scope (.expr body)
        let bu ← builtinsFor mainGlobals env.builtins
        let nm ← nsGet mainGlobals "__name__"
        let dc ← (pure .none : Sem Value)
        newObj (.type "function") (.func { name := "<lambda>", qualname := qual, params := params, body := .expr body, scope := scope, globals := mainGlobals, closure := clos, closureTuple := ctv, code := code, builtins := bu, defaults := dv, kwdefaults := .none, annotations := none, pyModule := nm.getD .none, doc := dc })) Q E { s with heap := h0 } := by
    intro ctv h0 k0 z0
    have hP0 := k0 _ _ hP
    have C0 := C.keeps k0
    have hg0 : h0.Ns mainGlobals mg := by
      obtain ⟨o, es, ep, e, r⟩ := hg
      exact ⟨o, es, ep, k0 _ _ e, r⟩
    refine wpAny_bind (wpAny_functionCode_hit hcode (C0.code hP0 ht) hf ?_)
    refine wpAny_bind (wpAny_builtinsFor hg0 b1 b2 (k0 _ _ b4) b5 b6 b7 (wpAny_bind (wpAny_nsGet hg0 (wpAny_bind (wpAny_pure ?_)))))
    exact wpAny_newObj_type (h ctv h0 s.toks k0 z0) (by size_fits)
  unfold makeTail
  rw [hcl, hge0]
  refine wpAny_bind (wpAny_pure ?_)
  by_cases em : clos.isEmpty = true
  · simp only [em, if_true]
    exact wpAny_bind (wpAny_pure (rest .none s.heap (fun _ _ e => e) (Nat.le_refl _)))
  · simp only [em, if_false]
    exact wpAny_bind (wpAny_newTextTuple (rest _ _ (fun b o e => Heap.get?_push_of_some _ e) (by rw [Heap.size_push]; omega)))
/-- the lambda's expression: its default is made, then a tuple of it, then the function -/
theorem eval_lam {d : Sem Value} (hdef : defaultsOf params env = ([d], []))
    (h : wpAny M A d (fun u s1 => wpAny M A (makeTail "<lambda>" (env.qual ++ "<lambda>") params (.expr body) scope env (.ref s1.heap.objs.size) .none none pos pos.line) Q E { s1 with heap := s1.heap.push (tupO u) }) E s) : wpAny M A (eval (.Lambda params body scope pos) env) Q E s := by
  rw [arm_eval_Lambda, hdef]
  show wpAny M A (do let dv ← evalAll [d]; let kdv ← holding dv (evalAllOpt []); makeFunction "<lambda>" (env.qual ++ "<lambda>") params (.expr body) scope env dv kdv [] pos pos.line) Q E s
  refine wpAny_bind ?_
  show wpAny M A (do let v ← d; let r ← holding [v] (evalAll []); pure (v :: r)) _ E s
  refine wpAny_bind (wpAny_mono h (fun u s1 h1 => ?_) fun _ _ z => z)
  refine wpAny_bind (wpAny_holding (wpAny_pure (wpAny_pure ?_)))
  refine wpAny_bind (wpAny_holding (wpAny_pure ?_))
  rw [makeFunction_eq]
  simp only [List.zip_nil_right, List.filterMap_nil, List.isEmpty_nil, List.isEmpty_cons, if_true, if_false, pure_bind]
  exact wpAny_bind (wpAny_newTextTuple h1)
end
section
variable {X : Cx} {pins : List (Addr × Obj)} {σ : L2.St} {H : Hp} {s : Shared}
theorem not_frame {f : Addr} {X : Cx} {pins : List (Addr × Obj)} {σ : L2.St} {H : Hp} {s : Shared} (I : Inv X pins σ H s) (hf : s.heap.objs.size ≤ f) : f ∉ frs X.stack := fun z => by
  rcases List.mem_cons.mp (I.stkSub _ z) with e | e
  · have h1 := I.lt
    rw [← e] at h1
    exact Nat.lt_irrefl _ (Nat.lt_of_lt_of_le h1 hf)
  · exact I.nofs hf e
/-- what stands when the lambda is made -/
structure Made (X : Cx) (T : List (Addr × Str)) (params : Arguments) (body : Expr) (scope : Scope) (H H1 : Hp) (s' : Shared) (f c' t : Addr) (u : Value) (pm ctv : Value) : Prop where
  ext : ExtN H H1
  tab : Tabs T H1
  fn : s'.heap.get? f = some (obD (X.env.qual ++ "<lambda>") params body scope (cloFrom X.env.cells scope.names []) pm (.ref c') ctv (.ref t))
  fnN : H1 f = none
  fnF : f ∉ frs X.stack
  tu : s'.heap.get? t = some (tupO u)
  tuN : H1 t = none
  tuF : t ∉ frs X.stack
  co : H1 c' = some (CodeO c' (X.env.qual ++ "<lambda>"))
theorem lam_makeD {T : List (Addr × Str)} {c P : Addr} {params : Arguments} {body e0 : Expr} {v0 : V} {scope : Scope} {pos : Pos} {Q : Value → Shared → Prop} (I : Inv X pins σ H s) (TB : TabB X.base X.mg c P) (hcode : X.env.code = .ref c)
    (hm : (P, X.env.qual ++ "<lambda>") ∈ T) (hu : ∀ p ∈ T, p.1 = P → p.2 = X.env.qual ++ "<lambda>") (hT : Tabs T H) (hdef : defaultsOf params X.env = ([eval e0 X.env], [])) (he : PE X e0 (tC v0)) (hfree : ∀ y ∈ scope.names, y.2 = .free → ∃ c, X.env.cells.lookup y.1 = some c)
    (h : ∀ (f c' t : Addr) (u pm ctv : Value) (H1 : Hp) (s' : Shared), Inv X pins σ H1 s' → Made X T params body scope H H1 s' f c' t u pm ctv → Q (.ref f) s') :
    wpAny (model X.prog X.w) X.A (eval (.Lambda params body scope pos) X.env) Q X.xe s := by
  refine eval_lam hdef (thn (he.run pins s σ H (fun v H1 => H1 = H) I rfl) fun u s1 ⟨v, H1, I1, r1, eH⟩ => ?_)
  subst eH
  obtain ⟨ps, hP, ht, ha⟩ := hT _ hm
  -- the tuple
  have tS : (s1.heap.push (tupO u)).get? s1.heap.objs.size = some (tupO u) := Heap.get?_push_size _ rfl
  have I2 : Inv X pins σ H1 { s1 with heap := s1.heap.push (tupO u), toks := s1.toks } := I1.kept fun b o e => Heap.get?_push_of_some _ e
  have tN : H1 s1.heap.objs.size = none := I1.hok.fresh (Nat.le_refl _)
  have tF : s1.heap.objs.size ∉ frs X.stack := not_frame I1 (Nat.le_refl _)
  have tlt : s1.heap.objs.size < (s1.heap.push (tupO u)).objs.size := by rw [Heap.size_push]; omega
  generalize s1.heap.objs.size = t at tS tN tF tlt ⊢
  show wpAny _ _ _ _ _ { s1 with heap := s1.heap.push (tupO u), toks := s1.toks }
  obtain ⟨s2, e2⟩ : ∃ s2 : Shared, s2 = { s1 with heap := s1.heap.push (tupO u), toks := s1.toks } := ⟨_, rfl⟩
  have tS2 : s2.heap.get? t = some (tupO u) := by rw [e2]; exact tS
  have tlt2 : t < s2.heap.objs.size := by rw [e2]; exact tlt
  rw [← e2] at I2 ⊢
  clear e2 tS tlt I1 I
  have bP : s2.heap.BuiltinsAt X.mg P := TB.bm.keeps I2.bk
  have hP' : s2.heap.get? P = some { cls := .none, data := .fields ps } := I2.hok P _ hP
  have tP : t ≠ P := fun z => by
    rw [z, hP'] at tS2
    have z2 : Data.fields ps = Data.seq _ _ := congrArg Obj.data (Option.some.inj tS2)
    cases z2
  cases hc : codeAmong pos ps.toList with
  | none =>
    refine tail_new (mg := X.mg) (c := c) (P := P) (ps := ps) (closure_ok hfree) I2.ok.glob (I2.mod.glob.keeps I2.bk) hcode (TB.code.keeps I2.bk) hP' ht hc TB.gP bP fun c' ctv h' tk hx hge hlt hrec htb => ?_
    obtain ⟨c2, oc, cs, tq, e2, hoc, hd, hv⟩ := hrec
    cases e2
    have hsz : s2.heap.objs.size ≤ h'.objs.size := Nat.le_trans hge (Nat.le_of_lt hlt)
    have nC : H1 c' = none := I2.hok.fresh hge
    have I3 := inv_table (t' := tk) (more := #[rawInt pos.line, rawInt pos.col, .ref c']) (h' := h'.push (obD (X.env.qual ++ "<lambda>") params body scope (cloFrom X.env.cells scope.names []) ((X.mg "__name__").getD .none) (.ref c') ctv (.ref t))) I2 hP
      (fun b o hb e => Heap.get?_push_of_some _ (hx b o hb e)) (Heap.get?_push_of_some _ htb) hge ⟨oc, cs, tq, Heap.get?_push_of_some _ hoc, hd, hv⟩
    have hE : ExtN H1 (upd (upd H1 P (.tbl (ps ++ #[rawInt pos.line, rawInt pos.col, .ref c']))) c' (CodeO c' (X.env.qual ++ "<lambda>"))) := fun b o e n => by
      rw [upd_ne (ne_of_none e nC), upd_ne (fun z => n ps (Option.some.inj (e.symm.trans (by rw [z]; exact hP))))]
      exact e
    have eL : (ps ++ #[rawInt pos.line, rawInt pos.col, .ref c']).toList = ps.toList ++ [rawInt pos.line, rawInt pos.col, .ref c'] := by simp
    have n1 : h'.objs.size ≠ c' := Nat.ne_of_gt hlt
    have n2 : h'.objs.size ≠ P := Nat.ne_of_gt (Nat.lt_of_lt_of_le (Heap.lt_size hP') hsz)
    refine h h'.objs.size c' t u ((X.mg "__name__").getD .none) ctv _ _ I3 ⟨hE, fun p hp => ?_, Heap.get?_push_size _ rfl, ?_, not_frame I2 hsz, Heap.get?_push_of_some _ (hx _ _ tP tS2), ?_, tF, upd_same⟩
    · by_cases hb : p.1 = P
      · rw [hu p hp hb, hb]
        refine ⟨_, by rw [upd_ne (ne_of_none hP nC), upd_same], by rw [eL]; exact PySem.TriplesOk_snoc _ _ _ _ ht, fun p' cv hcv => ?_⟩
        rw [eL] at hcv
        rcases among_app _ ht hcv with z | z
        · obtain ⟨c0, e1, e2⟩ := ha p' cv z
          exact ⟨c0, e1, hE _ _ e2 codeO_ne⟩
        · exact ⟨c', z, upd_same⟩
      · obtain ⟨ps', a1, a2, a3⟩ := hT p hp
        refine ⟨ps', by rw [upd_ne (ne_of_none a1 nC), upd_ne hb]; exact a1, a2, fun p' cv hcv => ?_⟩
        obtain ⟨c0, e1, e2⟩ := a3 p' cv hcv
        exact ⟨c0, e1, hE _ _ e2 codeO_ne⟩
    · rw [upd_ne n1, upd_ne n2]
      exact I2.hok.fresh hsz
    · rw [upd_ne (fun z => by rw [z] at tlt2; omega), upd_ne tP]
      exact tN
  | some cv =>
    obtain ⟨c', e, hco⟩ := ha pos cv hc
    subst e
    refine tail_hit (mg := X.mg) (c := c) (P := P) (ps := ps) (closure_ok hfree) I2.ok.glob (I2.mod.glob.keeps I2.bk) hcode (TB.code.keeps I2.bk) hP' ht hc bP fun ctv h' tk hx hsz => ?_
    have I3 : Inv X pins σ H1 { s2 with heap := h'.push (obD (X.env.qual ++ "<lambda>") params body scope (cloFrom X.env.cells scope.names []) ((X.mg "__name__").getD .none) (.ref c') ctv (.ref t)), toks := tk } := I2.kept fun b o e => Heap.get?_push_of_some _ (hx b o e)
    exact h h'.objs.size c' t u ((X.mg "__name__").getD .none) ctv H1 _ I3 ⟨ExtN.refl H1, hT, Heap.get?_push_size _ rfl, I2.hok.fresh hsz, not_frame I2 hsz, Heap.get?_push_of_some _ (hx _ _ tS2), tN, tF, hco⟩
end
/-- one name of its own, the parameter p1; captured ones and globals -/
structure LamS1 (sc scope : Scope) (p1 : Str) : Prop where
  kind : scope.kind = .function
  co : scope.isCoroutine = false
  gen : scope.isGenerator = false
  own : ∀ y ∈ scope.names, y.2 ≠ .cell ∧ (y.2 = .local → y.1 = p1)
  par : scope.names.lookup p1 = some .local
  free : ∀ y ∈ scope.names, y.2 = .free → sc.names.lookup y.1 = some .cell ∨ sc.names.lookup y.1 = some .free
def lamS1B (sc scope : Scope) (p1 : Str) : Bool :=
  decide (scope.kind = .function) && (!scope.isCoroutine && (!scope.isGenerator && (decide (scope.names.lookup p1 = some .local) && scope.names.all fun y => !decide (y.2 = .cell) && ((!decide (y.2 = .local) || decide (y.1 = p1)) && (!decide (y.2 = .free) || decide (sc.names.lookup y.1 = some .cell) || decide (sc.names.lookup y.1 = some .free))))))
theorem lamS1_by {sc scope : Scope} {p1 : Str} (h : lamS1B sc scope p1 = true) : LamS1 sc scope p1 := by
  unfold lamS1B at h
  simp only [Bool.and_eq_true, Bool.or_eq_true, Bool.not_eq_true', decide_eq_true_eq, decide_eq_false_iff_not, List.all_eq_true] at h
  obtain ⟨h1, h2, h3, h4, h5⟩ := h
  refine ⟨h1, h2, h3, fun y hy => ⟨(h5 y hy).1, fun e => ?_⟩, h4, fun y hy e => ?_⟩
  · rcases (h5 y hy).2.1 with z | z
    · exact absurd e z
    · exact z
  · rcases (h5 y hy).2.2 with (z | z) | z
    · exact absurd e z
    · exact .inl z
    · exact .inr z
section
variable {X : Cx} {pins : List (Addr × Obj)} {σ : L2.St} {H HZ : Hp} {s s1 : Shared}
theorem LamS1.has {scope : Scope} {p1 : Str} (L : LamS1 X.env.scope scope p1) (ok : X.Ok) : ∀ y ∈ scope.names, y.2 = .free → ∃ c, X.env.cells.lookup y.1 = some c := fun y hy e => by
  rcases L.free y hy e with k | k
  · exact ok.has _ (.inl k)
  · exact ok.has _ (.inr k)
theorem startD {A : Around} {outer : List Env} {E : XK} {scope : Scope} {p1 : Str} {u : Value} {f c' : Addr} {h₁ : Heap} {tk : Nat} (I : Inv X pins σ H s) (L : LamS1 X.env.scope scope p1) (new : p1 ∉ X.N) (e0 : Env0 X.prog X.w X.K X.mg X.base A outer s1 HZ) (hd : A.handled = none)
    (un : Un (frs X.stack) [] H HZ s.heap s1.heap) (hns : h₁.Ns s1.heap.objs.size fun y => [(p1, u)].reverse.lookup y) (kp : ∀ b o, s1.heap.get? b = some o → h₁.get? b = some o) :
    Inv (lamCx X A outer s1 HZ E scope f c') [] σ HZ { s1 with heap := h₁, toks := tk } := by
  have hfree := L.has I.ok
  have mem : ∀ {y : Str} {k : NameKind}, scope.names.lookup y = some k → (y, k) ∈ scope.names := fun e => PySem.mem_of_lookup e
  have cm : ∀ {y c}, (cloFrom X.env.cells scope.names []).lookup y = some c → X.env.cells.lookup y = some c := fun {y c} e => by
    rcases cloFrom_mem (PySem.mem_of_lookup e) with hm | ⟨h1, h2⟩
    · cases hm
    · obtain ⟨c1, hc⟩ := hfree _ h1 rfl
      have hc : X.env.cells.lookup y = some c1 := hc
      rw [show c = c1 by rw [h2, hc] <;> rfl]
      exact hc
  have look : ∀ {y}, scope.names.lookup y = some .free → ∃ c, (cloFrom X.env.cells scope.names []).lookup y = some c := fun {y} hl => mem_lookup (cloFrom_has (cells := X.env.cells) (acc := []) (mem hl))
  have cellK : ∀ {c : Addr} {v : Option Value}, H c = none → s.heap.IsCell c v → h₁.IsCell c v := fun {c v} n ⟨o, ho, hd⟩ => by
    obtain ⟨sl, q⟩ := un.any ho n (by simp)
    exact ⟨_, kp _ _ q, hd⟩
  have noA : ∀ b : Addr, b ∉ (lamCx X A outer s1 HZ E scope f c').ex := fun b z => absurd (show b ∈ ([] : List Addr) from z) (by simp)
  refine ⟨⟨e0.mod, L.kind, rfl, rfl, Nat.le_refl _, fun y z c e1 e2 => I.ok.inj y z c (cm e1) (cm e2), fun y hy => ?_, fun y c z _ => ?_, fun _ => hd, Around.frames_deeper e0.frames, .inr ⟨rfl, rfl⟩, fun b z => absurd z (noA b), e0.bs, e0.bsz, fun b _ _ => noA b,
      fun b z => absurd z (noA b), e0.funs, e0.frf⟩,
    rfl, e0.bare, Un.kept kp, ⟨_, hns, fun i y v e1 e2 e3 => ?_⟩, fun y c e => ?_, e0.hok.fresh (Nat.le_refl _), fun y c e => ?_, fun q hq => absurd (show q ∈ ([] : List (Addr × Obj)) ++ [] from hq) (by simp), e0.hok.kept kp, I.len⟩
  · have hy : scope.names.lookup y = some .cell ∨ scope.names.lookup y = some .free := hy
    rcases hy with hy | hy
    · exact absurd rfl (L.own _ (mem hy)).1
    · exact look hy
  · have z : false = true := z
    cases z
  · have e3 : Vis scope y := e3
    have hN : y ∈ X.N := List.mem_of_getElem? e1
    rcases e3 with k | k | k
    · have e4 : y = p1 := (L.own _ (mem k)).2 rfl
      exact absurd (by rw [← e4]; exact hN) new
    · exact absurd rfl (L.own _ (mem k)).1
    · obtain ⟨m, hn, hl⟩ := I.loc
      have hvis : Vis X.env.scope y := (L.free _ (mem k) rfl).elim (fun k => .inr (.inl k)) (fun k => .inr (.inr k))
      obtain ⟨w', r, q⟩ := hl i y v e1 e2 hvis
      obtain ⟨c2, h2⟩ := look k
      refine ⟨w', r, .inr ⟨.inr k, c2, h2, ?_⟩⟩
      have c1 := cm h2
      rcases q with ⟨k', _⟩ | ⟨_, c3, e', z⟩
      · have k' : X.env.scope.names.lookup y = some .local := k'
        rcases L.free _ (mem k) rfl with k2 | k2 <;> rw [show X.env.scope.names.lookup y = _ from k2] at k' <;> cases k'
      · rw [c1] at e'
        cases e'
        exact cellK (I.freeC y _ c1) z
  · obtain ⟨w', z⟩ := I.cell y c (cm e)
    exact ⟨w', cellK (I.freeC y c (cm e)) z⟩
  · obtain ⟨v, o, ho, hd⟩ := I.cell y c (cm e)
    exact un.free c o ho (I.freeC y c (cm e)) (by simp)
/-- what the call without arguments binds: the default -/
abbrev BindD (params : Arguments) (body : Expr) (scope : Scope) (p1 : Str) : Prop := ∀ (q : Str) (cl : List (Str × Addr)) (pm cv ctv u : Value) (t : Addr), ∃ k, bindArgs (fnD q params body scope cl pm cv ctv (.ref t)) ⟨[], []⟩ = (seqItems? (.ref t) >>= k) ∧ k (some [u].toArray) = pure [(p1, u)]
/-- x(), in the def that got the lambda -/
theorem pe_actD {CXg : CXT} {Eg : XK} {Ng : List Str} {qg : Str} {sg : Scope} {g f c' t : Addr} {u cdg pm ctv : Value} {params : Arguments} {body : Expr} {scope : Scope} {p1 : Str} {k i : Nat} {a : Str} {pn : List (Addr × Obj)} {xe : Value → Shared → Prop} {W : WX} {E : XK} {tb : TE} {T : List (Addr × Str)} {H0 : Hp} {q1 q2 : Pos}
    (I : Inv X pins σ H s) (L : LamS1 X.env.scope scope p1) (new : p1 ∉ X.N) (D : Made X T params body scope H0 H s f c' t u pm ctv) (hbind : BindD params body scope p1)
    (tk : Takes ((cxOf CXg X.prog X.w X.K X.mg X.base Ng qg sg g cdg X.A X.stack s H Eg).tr pn xe) W) (hW : ∀ cls d σ' H', E cls d H' → W cls d σ' H') (hr : Room (k + 1) (X.A.deeper (envOfC qg sg s.heap.objs.size g cdg)))
    (hbody : ∀ (A : Around) (outer : List Env) (s : Shared) (H : Hp), Room k (A.deeper (lamEnv X scope s.heap.objs.size f c')) → PE (lamCx X A outer s H E scope f c') body tb)
    (hN : Ng[i]? = some a) (hv : Vis sg a) (hd : (a == ("__debug__" : Str)) = false := by decide) (hcd : (a == ("__classdict__" : Str)) = false := by decide) :
    PE ((cxOf CXg X.prog X.w X.K X.mg X.base Ng qg sg g cdg X.A X.stack s H Eg).tr pn xe) (.Call (.Name a q1) [] [] q2)
      (fun σZ HZ Q => σZ[i]? = some (some (.ref f)) ∧ HZ c' = some (CodeO c' (X.env.qual ++ "<lambda>")) ∧ tb σ HZ Q) := by
  refine ⟨fun pinsZ sZ σZ HZ Q IZ h => ?_⟩
  obtain ⟨hs, hc, ht⟩ := h
  refine wpAny_Call_Name_kw (thn ((pe_var (pos := q1) (i := i) hN hv hd hcd).run pinsZ sZ σZ HZ (fun v H1 => v = .ref f ∧ H1 = HZ) IZ ⟨.ref f, hs, rfl, rfl⟩) fun w1 s1 ⟨v, H1, I1, r1, ev, eH⟩ => ?_)
  subst ev eH
  obtain rfl : w1 = Value.ref f := r1
  have no : ∀ b : Addr, b ∉ ([] : List Addr) := fun b z => nomatch z
  have of1 := I1.base.keep f _ D.fn D.fnN D.fnF (no _)
  have ot1 := I1.base.keep t _ D.tu D.tuN D.tuF (no _)
  refine PySem.W.callWith_F0 ⟨_, _, _, _, of1⟩ ?_
  have un : Un (frs X.stack) [] H H1 s.heap s1.heap := I1.base
  obtain ⟨⟨oc, cs, tt, hoc, hdc, hvc⟩, _, _⟩ := I1.hok c' _ hc
  have rc : codeAny (model X.prog X.w) (X.A.deeper (envOfC qg sg s.heap.objs.size g cdg)) (.call (.ref f) ⟨[], []⟩) (CR (L2.CX X.prog X.w) (envOfC qg sg s.heap.objs.size g cdg :: X.stack) X.prog X.w H1 s1 Q E) s1 := by
    refine PySem.W.kla_callFunE hr.depth of1 rfl L.co L.gen rfl ⟨c', oc, cs, tt, rfl, hoc, hdc, hvc⟩ ?_
    obtain ⟨kk, hb1, hb2⟩ := hbind (X.env.qual ++ "<lambda>") (cloFrom X.env.cells scope.names []) pm (.ref c') ctv u t
    rw [hb1]
    refine wpAny_bind (wpAny_seqItems ot1 rfl ?_)
    rw [hb2]
    refine wpAny_pure (wpAny_newFunctionEnv (fun y hy => (L.own y hy).1) (fun y hy => by rw [List.mem_singleton.mp hy]; exact L.par) (fun h₁ hns hsb => ⟨I1.nolimit.fresh _ hsb, ?_⟩) L.kind)
    show codeAny _ _ (.expr body (lamEnv X scope s1.heap.objs.size f c')) _ _
    have kp : ∀ b o, s1.heap.get? b = some o → h₁.get? b = some o := fun b o e => hsb.extBut b o (Nat.ne_of_lt (Heap.lt_size e)) (Heap.get?_push_of_some _ e)
    have J := startD (f := f) (c' := c') (E := E) (tk := s1.toks + [(p1, u)].length) I L new I1.env0 hr.hd un hns kp
    refine PySem.W.kla_codeExpr (wpAny_mono ((hbody _ _ s1 H1 (hr.deeper _)).run [] _ _ H1 Q J ht) (fun v s' hq => ?_) fun e s' hq => hq)
    obtain ⟨w', H', J', rv, q⟩ := hq
    exact ⟨w', H', J'.os, J'.bare, J'.base, J'.hok, rv, q⟩
  have hx : Passes (L2.CX X.prog X.w) ((cxOf CXg X.prog X.w X.K X.mg X.base Ng qg sg g cdg X.A X.stack s H Eg).tr pn xe) E := passes_call tk hW
  refine wpAny_call (codeAny_mono rc fun r s' hq => ?_)
  match r, hq with
  | .error e, hq => exact hx pinsZ σZ H1 s1 e s' I1 hq
  | .ok (.ret z), hq => exact I1.after hq
/-- x(lambda p1=e0: body) -/
theorem pe_lamcallD {T : List (Addr × Str)} {TT : (XK → Hp → VK → Prop) → Hp → VK → Prop} {x a p1 : Str} {g c P : Addr} {k : Nat} {pg : Arguments} {bg : List Stmt} {sg : Scope} {dV kV doc pm cdv ct oc : Value} {an od : Option Addr} {osl : Array (Option Value)} {Ng : List Str}
    {params : Arguments} {body e0 : Expr} {v0 : V} {scope : Scope} {t : XK → TE} {p lpos pos : Pos} (hg : Gl X x) (hm : X.mg x = some (.ref g)) (hk : PySem.W.keepIn X.K (.ref g) = true)
    (lk : X.K.lookup g = some ⟨oc, od, .func (PySem.W.fnOf x x pg bg sg dV kV doc pm an cdv ct), osl⟩) (hcg : PySem.W.codeIn X.K cdv x = true) (hb : L2.Binds X.K (PySem.W.fnOf x x pg bg sg dV kV doc pm an cdv ct) [a] []) (Sg : FnScope Ng [a] sg) (hNg : Ng[0]? = some a) (hva : Vis sg a)
    (hG : GivesTo X Ng x sg g cdv bg a (X.env.qual ++ "<lambda>") TT)
    (TB : TabB X.base X.mg c P) (hcode : X.env.code = .ref c) (hmT : (P, X.env.qual ++ "<lambda>") ∈ T) (hu : ∀ p ∈ T, p.1 = P → p.2 = X.env.qual ++ "<lambda>") (hr : Room (k + 2) X.A) (L : LamS1 X.env.scope scope p1) (new : p1 ∉ X.N) (hdef : defaultsOf params X.env = ([eval e0 X.env], [])) (he : PE X e0 (tC v0))
    (hbind : BindD params body scope p1)
    (hbody : ∀ (A : Around) (outer : List Env) (s : Shared) (H : Hp) (E : XK) (f c' : Addr), Room k (A.deeper (lamEnv X scope s.heap.objs.size f c')) → PE (lamCx X A outer s H E scope f c') body (t E))
    (hdb : (x == ("__debug__" : Str)) = false := by decide) (hd : (a == ("__debug__" : Str)) = false := by decide) (hcd : (a == ("__classdict__" : Str)) = false := by decide) :
    PE X (.Call (.Name x p) [.Lambda params body scope lpos] [] pos) (tLam T TT t) := by
  refine ⟨fun pins s σ H Q I h => ?_⟩
  obtain ⟨hT, h⟩ := h
  refine wpAny_Call_Name_kw (ld_glob I hg hm (PySem.W.callWith_K (h₀ := X.base) I.ok.mod.kin hk ?_ (by rfl) (by rfl)) hdb)
  refine Calls.spliced_cons (lam_makeD I TB hcode hmT hu hT hdef he (L.has I.ok) fun f c' tt u pm' ctv H1 s' I1 D => Calls.spliced_nil ⟨I1.kIn, ?_⟩)
  have rc : codeAny (model X.prog X.w) X.A (.call (.ref g) ⟨[.ref f], []⟩) (CR C8.CX0 X.stack X.prog X.w H1 s' Q C8.E0) s' := by
    refine run_ofS (N := Ng) (ps := [a]) (us := [.ref f]) (vs := [.ref f]) lk hcg Sg hr I1.env0 (hb s' [.ref f] I1.kIn rfl) (.cons rfl .nil) rfl fun hr' => ?_
    obtain ⟨t', ht', hq'⟩ := hG f c' s' H1 Q (fun E H' Q' => t E σ H' Q') (fun W pn xe E p1 p2 tk hW => pe_actD (i := 0) I1 L new D hbind tk hW hr' (fun A outer s H hr2 => hbody A outer s H E f c' hr2) hNg hva hd hcd) D.co (h H1 D.ext D.tab)
    exact ⟨t', ht'.nox, hq'⟩
  refine wpAny_call (codeAny_mono rc fun r s2 hq => ?_)
  match r, hq with
  | .error e, hq => exact (show False from hq).elim
  | .ok (.ret z), hq => exact I1.after hq
end
end LamD
set_option Elab.async false
set_option linter.all false
set_option maxRecDepth 100000
set_option maxHeartbeats 1000000
namespace W13
open PySem L2 PySem.Spec PyProof.Rows WR WB WE WS
def dueN (cs : List Nat) : Nat := cs.foldr (fun c r => fct c * r) 1
theorem due_app : ∀ (xs ys : List Nat), dueN (xs ++ ys) = dueN xs * dueN ys
  | [], ys => (Nat.one_mul _).symm
  | c :: r, ys => by
    show fct c * dueN (r ++ ys) = fct c * dueN r * dueN ys
    rw [due_app r ys, Nat.mul_assoc]
theorem due_snoc {xs : List Nat} {i c : Nat} (h : xs[i]? = some c) : dueN (xs.take (i + 1)) = dueN (xs.take i) * fct c := by
  have hi := (List.getElem?_eq_some_iff.mp h).1
  have e : xs[i] = c := Option.some.inj ((List.getElem?_eq_getElem hi).symm.trans h)
  rw [List.take_succ_eq_append_getElem hi, due_app, e]
  show _ = _ * fct c
  show dueN (xs.take i) * (fct c * 1) = _
  rw [Nat.mul_one]
abbrev U26 : List Int := (List.range 26).map fun (i : Nat) => (i : Int) + 1
theorem u26_nd : U26.Nodup := by decide +kernel
theorem u26_mem {k : Int} (h : 1 ≤ k ∧ k ≤ 26) : k ∈ U26 := List.mem_map.mpr ⟨(k - 1).toNat, List.mem_range.mpr (by omega), by omega⟩
theorem prd_filter {p : Int → Bool} {f : Int → Nat} : ∀ {ks : List Int}, (∀ k ∈ ks, p k = false → f k = 1) → prd (ks.filter p) f = prd ks f
  | [], _ => rfl
  | k :: r, h => by
    have ih := prd_filter (p := p) (f := f) (ks := r) fun x hx => h x (List.mem_cons_of_mem _ hx)
    cases e : p k with
    | true => rw [List.filter_cons_of_pos e, prd_cons, prd_cons, ih]
    | false => rw [List.filter_cons_of_neg (by rw [e]; exact Bool.false_ne_true), prd_cons, ih, h k List.mem_cons_self e, Nat.one_mul]
theorem rep_cntP {k z : Int} (hk : 1 ≤ k) (hz : 1 ≤ z) : ∀ c : Nat, (List.replicate c [k, -k]).flatten.count z = if z = k then c else 0
  | 0 => by
    show 0 = _
    split <;> rfl
  | c + 1 => by
    rw [List.replicate_succ, List.flatten_cons, List.count_append, rep_cntP hk hz c]
    show List.count z [k, -k] + _ = _
    rw [List.count_cons, List.count_cons, List.count_nil]
    have n1 : ((-k : Int) == z) = false := beq_eq_false_iff_ne.mpr (by omega)
    rw [n1]
    by_cases e : z = k
    · subst e
      simp
      omega
    · have n2 : (k == z) = false := beq_eq_false_iff_ne.mpr fun q => e q.symm
      rw [n2, if_neg e, if_neg e]
      rfl
theorem plF_none {z : Int} (hz : 1 ≤ z) {zs : List (Int × Nat)} (h : ∀ p ∈ zs, 1 ≤ p.1 ∧ p.1 ≠ z) : (plF zs).count z = 0 := by
  refine List.count_eq_zero.mpr fun m => ?_
  obtain ⟨p, hp, e⟩ := plF_mem m
  have := h p hp
  omega
theorem prd_plain : ∀ {zs : List (Int × Nat)}, (zs.map (·.1)).Nodup → (∀ p ∈ zs, 1 ≤ p.1 ∧ p.1 ≤ 26) → prd U26 (fun k => fct ((plF zs).count k)) = dueN (zs.map (·.2))
  | [], _, _ => prd_one fun _ _ => rfl
  | (k, c) :: r, nd, rg => by
    rw [List.map_cons, List.nodup_cons] at nd
    obtain ⟨hk1, hk2⟩ := rg (k, c) List.mem_cons_self
    have hr : ∀ p ∈ r, 1 ≤ p.1 ∧ p.1 ≤ 26 := fun p hp => rg p (List.mem_cons_of_mem _ hp)
    have ih := prd_plain nd.2 hr
    show _ = fct c * dueN (r.map (·.2))
    rw [← ih]
    have cnt : ∀ z : Int, 1 ≤ z → (plF ((k, c) :: r)).count z = (if z = k then c else 0) + (plF r).count z := fun z hz => by
      show ((List.replicate c [k, -k]).flatten ++ plF r).count z = _
      rw [List.count_append, rep_cntP hk1 hz]
    refine prd_put (k0 := k) u26_nd (u26_mem ⟨hk1, hk2⟩) (fun z hz ne => ?_) ?_
    · obtain ⟨i, _, rfl⟩ := List.mem_map.mp hz
      show fct _ = fct _
      rw [cnt _ (by omega), if_neg ne, Nat.zero_add]
    · show fct _ = fct c * fct _
      rw [cnt k hk1, if_pos rfl, plF_none hk1 fun p hp => ⟨(hr p hp).1, fun q => nd.1 (List.mem_map.mpr ⟨p, hp, q⟩)⟩, Nat.add_zero]
      show fct c = fct c * 1
      rw [Nat.mul_one]
theorem zip_sub : ∀ (ks : List Int) (cs : List Nat), ((ks.zip cs).map (·.1)).Sublist ks
  | [], _ => List.Sublist.slnil
  | k :: ks, [] => List.nil_sublist _
  | k :: ks, c :: cs => (zip_sub ks cs).cons_cons k
theorem many_plain {cs : List Nat} {ws : List (List Int)} {ks : List Int} (h : PlainOk cs ws ks) (hc : cs.length ≤ 26) : manyF ws.flatten = dueN cs := by
  show prd (U26.filter fun k => decide (k ∈ ws.flatten ∨ -k ∈ ws.flatten)) (fun k => fct (ws.flatten.count k)) = _
  rw [prd_filter fun k _ e => by
    have n : k ∉ ws.flatten := fun m => of_decide_eq_false e (.inl m)
    rw [List.count_eq_zero.mpr n]
    rfl]
  have e : (fun k => fct (ws.flatten.count k)) = fun k => fct ((plF (ks.zip cs)).count k) := funext fun k => by rw [h.pm.count_eq]
  have z1 : (ks.zip cs).map (·.2) = cs := List.map_snd_zip (by rw [h.len]; exact hc)
  have nd : ((ks.zip cs).map (·.1)).Nodup := by
    exact List.Sublist.nodup (zip_sub ks cs) h.nd
  rw [e, prd_plain nd fun p hp => h.rg _ (List.of_mem_zip hp).1, z1]
end W13
set_option Elab.async false
set_option linter.all false
set_option maxRecDepth 100000
set_option maxHeartbeats 1000000
namespace W13
open PySem L2 PySem.Spec PyProof.Rows WR WB WE WS
theorem HandAt.ne_iv {H : Hp} {a c m : Addr} {n : Nat} {ns : List Int} (h : HandAt H a c n) (hm : H m = some (.lst (iv ns))) : m ≠ a := fun e => by
  obtain ⟨_, i, r, h1, _⟩ := h
  rw [← e, hm] at h1
  cases ns with
  | nil => cases h1
  | cons x t => cases h1
def LitI (ta : TA) (ns : List Int) : Prop := ∀ (σ : L2.St) (H : Hp) (Q : List V → Hp → Prop), Q (iv ns) H → ta σ H Q
def Lits (ta : TA) (cs : List (List Int)) : Prop := ∀ (σ : L2.St) (H : Hp) (Q : List V → Hp → Prop), (∀ us H', Same H H' → LLs H' us cs → Q us H') → ta σ H Q
theorem liti_nil : LitI tNil [] := fun _ _ _ q => q
theorem liti_cons {i : Int} {ns : List Int} {tr : TA} (h : LitI tr ns) : LitI (tCons (tC (.int i)) tr) (i :: ns) := fun σ H Q q => h σ H _ q
theorem lits_nil : Lits tNil [] := fun _ H _ q => q [] H (Same.refl _) .nil
theorem lits_cons {ta tr : TA} {ns : List Int} {cs : List (List Int)} (h1 : LitI ta ns) (hz : ns.length ≤ 1000) (h2 : Lits tr cs) : Lits (tCons (tLst ta) tr) (ns :: cs) := fun σ H Q q => by
  refine h1 σ H _ ⟨by rw [List.length_map]; exact Nat.le_trans hz (by decide), fun l hl => ?_⟩
  have s1 := same_upd (o := .lst (iv ns)) hl
  refine h2 σ _ _ fun us H' s2 hu => q _ _ (s1.trans s2) (.cons ⟨l, rfl, s2 _ _ upd_same⟩ hu)
theorem rep_one {i : Int} : ∀ n : Nat, (List.replicate n [V.int i]).flatten = iv (List.replicate n i)
  | 0 => rfl
  | n + 1 => by
    rw [List.replicate_succ, List.flatten_cons, rep_one n]
    rfl
theorem lits_rep {i : Int} {n : Nat} {tr : TA} {cs : List (List Int)} (hz : n ≤ 1000) (h2 : Lits tr cs) : Lits (tCons (tOp rRep (tLst (tCons (tC (.int i)) tNil)) (tC (.int (n : Int)))) tr) (List.replicate n i :: cs) := fun σ H Q q => by
  refine ⟨by show 1 ≤ sizeLine; decide, fun l hl => ?_⟩
  have s1 := same_upd (o := .lst [.int i]) hl
  refine ⟨l, (n : Int), [.int i], rfl, rfl, upd_same, by omega, by omega, by rw [Int.toNat_natCast]; show 1 * n ≤ sizeLine; rw [sizeLine_eq]; omega, fun p hp => ?_⟩
  rw [Int.toNat_natCast, rep_one]
  have s2 := same_upd (o := .lst (iv (List.replicate n i))) hp
  refine h2 σ _ _ fun us H' s3 hu => q _ _ ((s1.trans s2).trans s3) (.cons ⟨p, rfl, s3 _ _ upd_same⟩ hu)
theorem lst_lits {ta : TA} {cs : List (List Int)} {σ : L2.St} {H : Hp} {Q : VK} (hL : Lits ta cs) (h : ∀ us H', Same H H' → LLs H' us cs → us.length ≤ sizeLine ∧ ∀ l, H' l = none → Q (.ref l) (L2.upd H' l (.lst us))) : tLst ta σ H Q := hL σ H _ h
theorem lls_mem {H : Hp} {us : List V} {ws : List (List Int)} (h : LLs H us ws) {v : V} (hv : v ∈ us) : ∃ q, ∃ w ∈ ws, v = .ref q ∧ H q = some (.lst (iv w)) := by
  obtain ⟨i, hi, e⟩ := List.getElem_of_mem hv
  obtain ⟨w, hw, q, e2, g⟩ := h.at (List.getElem?_eq_getElem hi)
  exact ⟨q, w, List.mem_of_getElem? hw, by rw [← e, e2], g⟩
theorem ar1 {t : TE} {σ : L2.St} {H : Hp} {Q : List V → Hp → Prop} (h : t σ H fun x H2 => Q [x] H2) : tCons t tNil σ H Q := h
def CMs : List (List Int) := [[7], [12], [6, 2], [5, 4], [6, 6], [3, 3, 3, 3], [4, 4, 2], List.replicate 6 2, [5, 3, 2], List.replicate 12 1]
theorem CMs_ok : ∀ w ∈ CMs, w = nats (w.map Int.toNat) ∧ (w.map Int.toNat).length ≤ 12 ∧ 1 ≤ (w.map Int.toNat).sum ∧ (w.map Int.toNat).sum ≤ 12 := by decide +kernel
abbrev qMR : Str := ("_law_many_right" : Str) ++ ".<locals>." ++ "<lambda>"
abbrev sMR : Stmt := top 77
abbrev nMR : List Str := ["_law_pen_here", "_law_counts", "_law_words", "_law_due", "_law_count", "_law_turn", "_law_rims_here", "_law_heard"]
theorem scMR : FnScope nMR ["_law_pen_here"] (defScope sMR) := ⟨rfl, rfl, rfl, by decide +kernel, rfl, by decide +kernel, by decide +kernel⟩
theorem bal_of {cs : List Nat} {ws : List (List Int)} {ks : List Int} (h : PlainOk cs ws ks) (l : Int) : ws.flatten.count l = ws.flatten.count (-l) := by
  rw [h.pm.count_eq, h.pm.count_eq]
  have := plF_cnt0 l (ks.zip cs)
  omega
def spMR (T : List (Addr × Str)) : Sp := fun vs H Q _ => ∃ (a c : Addr) (n : Nat), vs = [.ref a] ∧ HandAt H a c n ∧ n ≤ 5000 ∧ LamX.Tabs T H ∧ ∀ H', HandAt H' a c (n + 300) → LamX.Tabs T H' → Q (.bl true) H'
section
variable {P : Program} {w : World} {K : PySem.W.Frag} {mg : Str → Option Value} {base : Heap} {C CR CS CBR CTM CH : Addr}
theorem ok_MR {f cd P1 g : Addr} {fd : FuncData} {TT : List (Addr × Str)} (F : FunC K "_law_many_right" sMR f cd fd) (N : TN mg) (BR : ErrC P w K mg base CBR "BadRims" ["self", "part"] (spI1 "part" CBR)) (TM : ErrC P w K mg base CTM "TooMany" ["self", "what", "most"] (spM2 CTM)) (Z : TwoE K mg CBR CTM CH) (G : FaultK K mg g) (TB : LamX.TabB base mg cd P1) (hT : (P1, qMR) ∈ TT) (hu : ∀ p ∈ TT, p.1 = P1 → p.2 = qMR)
    (G_pick : Cal P w K mg base "_law_pick" 2 ["_law_pen_here", "_law_some"] spPick) (G_plain : Cal P w K mg base "_law_plain" 4 ["_law_pen_here", "_law_counts"] spPlain) (G_rims : Cal P w K mg base "_law_rims" 6 ["_law_words"] (spLRims K C CR)) (GM : Cal P w K mg base "many_sewings" 2 ["rims"] (spMany K C CR))
    (GC : CalX P w K mg base "census" 28 ["rims"] (spOr (spCens K C CR) (spAllSX K C CR CBR CTM))) (GA : CalX P w K mg base "all_sewings" 27 ["rims"] (spOr (spAllS K C CR CS) (spAllSX K C CR CBR CTM))) :
    RG.FnG P w K mg base 31 f fd ["_law_pen_here"] (spMR TT) := by
  refine F.okG scMR (fun vs H Q E h => ?_) (fun A outer s H vs Q E hg hr h => ?_)
  · obtain ⟨a, c, n, rfl, _⟩ := h
    rfl
  · obtain ⟨a, c, n, rfl, hH, hn, tT, k⟩ := h
    obtain ⟨oc, od, kV, doc, pm, cdv, ct, an, osl, lk, hcd⟩ := G.ex
    have bG : L2.Binds K (PySem.W.fnOf "_law_fault" "_law_fault" (defArgs sFault) (defBody sFault) (defScope sFault) .none kV doc pm an cdv ct) ["_law_ask"] [] := (fun_mk (st := sFault) lk hcd G.kp).binds (ps := ["_law_ask"]) fun _ _ _ _ _ _ us hl => match us, hl with | [_], _ => rfl
    refine ⟨_, pss_cons (ps_set (i := 1) scMR.nd rfl (Or.inl rfl) (pe_cal G_pick hr (by decide) (by rfl) (pa_cons (pv 0) (pa_cons (pe_lst (pa_cons (pe_lst (pa_cons pe_int pa_nil)) (pa_cons (pe_lst (pa_cons pe_int pa_nil)) (pa_cons (pe_lst (pa_cons pe_int (pa_cons pe_int pa_nil))) (pa_cons (pe_lst (pa_cons pe_int (pa_cons pe_int pa_nil))) (pa_cons (pe_lst (pa_cons pe_int (pa_cons pe_int pa_nil))) (pa_cons (pe_lst (pa_cons pe_int (pa_cons pe_int (pa_cons pe_int (pa_cons pe_int pa_nil))))) (pa_cons (pe_lst (pa_cons pe_int (pa_cons pe_int (pa_cons pe_int pa_nil)))) (pa_cons (pe_op op_rep (pe_lst (pa_cons pe_int pa_nil)) pe_int) (pa_cons (pe_lst (pa_cons pe_int (pa_cons pe_int (pa_cons pe_int pa_nil)))) (pa_cons (pe_op op_rep (pe_lst (pa_cons pe_int pa_nil)) pe_int) pa_nil))))))))))) pa_nil))))
      (pss_cons (ps_par (i := 2) (j := 3) (by rfl) scMR.nd rfl rfl (by decide) rfl rfl (pa_cons (pe_cal G_plain hr (by decide) (by rfl) (pa_cons (pv 0) (pa_cons (pv 1) pa_nil))) (pa_cons pe_int pa_nil)) (by rfl))
      (pss_cons (ps_for PassesOwn.never rfl (pi_list (pv 1)) (pg_name (i := 4) scMR.nd rfl (Or.inl rfl))
      (pss_one (ps_for PassesOwn.never rfl (pi_range1 (by rfl) N.range (pa_cons (pv 4) pa_nil)) (pg_name (i := 5) scMR.nd rfl (Or.inl rfl))
      (pss_one (ps_set (i := 3) scMR.nd rfl (Or.inl rfl) (pe_op op_mul (pv 3) (pe_op op_add (pv 5) pe_int)))))))
      (pss_cons (ps_set (i := 6) scMR.nd rfl (Or.inr rfl) (pe_cal G_rims hr (by decide) (by rfl) (pa_cons (pv 2) pa_nil)))
      (pss_cons (ps_if (pt_cmpR op_ne (pe_cal GM hr (by decide) (by rfl) (pa_cons (pv 6) pa_nil)) (pv 3) (nomark _)) (pss_one (ps_ret pe_bl)) pss_nil)
      (pss_cons (ps_set (i := 7) scMR.nd rfl (Or.inl rfl) (pe_lst (pa_cons (LamX.pe_lamcall (T := TT) (k := 28) (t := fun E => tCall (spOr (spCens K C CR) (spAllSX K C CR CBR CTM)) [] E (tCons (tVar 6) tNil)) (by rfl) G.mg G.kp lk hcd bG scFault (by rfl) (Or.inl rfl) (fault_gives N BR TM Z (hr.mono (by decide))) TB rfl hT hu hr (LamX.lamS_by (sc := defScope sMR) (by decide +kernel)) (by rfl) (fun q cl pm cv ctv => by rfl) (fun A outer s H E f c' hr2 => pe_calX GC hr2 (by decide) (passes_call (takes_of rfl rfl rfl rfl) (fun _ _ _ _ h => h)) (by rfl) (pa_cons (pv 6) pa_nil))) (pa_cons (LamD.pe_lamcallD (T := TT) (k := 28) (p1 := "_law_other") (v0 := .int 0) (t := fun E => tCall (spOr (spAllS K C CR CS) (spAllSX K C CR CBR CTM)) [] E (tCons (tVar 6) tNil)) (by rfl) G.mg G.kp lk hcd bG scFault (by rfl) (Or.inl rfl) (fault_gives N BR TM Z (hr.mono (by decide))) TB rfl hT hu hr (LamD.lamS1_by (sc := defScope sMR) (by decide +kernel)) (show ("_law_other" : Str) ∉ nMR by decide) (by rfl) pe_int (fun q cl pm cv ctv u t => ⟨_, rfl, rfl⟩) (fun A outer s H E f c' hr2 => pe_calX GA hr2 (by decide) (passes_call (takes_of rfl rfl rfl rfl) (fun _ _ _ _ h => h)) (by rfl) (pa_cons (pv 6) pa_nil))) pa_nil))))
      (pss_one (ps_ret (pe_cmpR (op_eqD hr.units) (pv 7) (pe_ifExp (pt_cmpR op_gt (pv 3) pe_int (nomark _)) (pe_op op_rep (pe_lst (pa_cons (pe_tup (pa_cons pe_str (pa_cons pe_int pa_nil))) pa_nil)) pe_int) (pe_lst (pa_cons pe_non (pa_cons pe_non pa_nil)))) (nomark _))))))))), ?_⟩
    refine ⟨_, rfl, ar1 (lst_lits (cs := CMs) (lits_cons (liti_cons liti_nil) (by decide) (lits_cons (liti_cons liti_nil) (by decide) (lits_cons (liti_cons (liti_cons liti_nil)) (by decide) (lits_cons (liti_cons (liti_cons liti_nil)) (by decide) (lits_cons (liti_cons (liti_cons liti_nil)) (by decide) (lits_cons (liti_cons (liti_cons (liti_cons (liti_cons liti_nil)))) (by decide) (lits_cons (liti_cons (liti_cons (liti_cons liti_nil))) (by decide) (lits_rep (n := 6) (by decide) (lits_cons (liti_cons (liti_cons (liti_cons liti_nil))) (by decide) (lits_rep (n := 12) (by decide) lits_nil)))))))))) fun us H2 s2 hu => ⟨by rw [hu.length]; decide, fun O hO => ?_⟩)⟩
    have lu : us.length = 10 := hu.length
    have s3 := same_upd (o := .lst us) hO
    have gO : L2.upd H2 O (.lst us) O = some (.lst us) := upd_same
    have s03 := s2.trans s3
    have hH3 := hH.same s03
    have Oh := (hH.same s2).ne hO
    have hu3 := hu.same s3
    have t3 := tT.ext s03
    generalize L2.upd H2 O (.lst us) = H3 at s3 gO s03 hH3 hu3 t3 ⊢
    refine ⟨a, c, O, us, n, rfl, hH3, by omega, Oh, gO, by omega, by omega, fun v hv H5 d5 => ?_⟩
    obtain ⟨cq, cw, hcw, rfl, gq3⟩ := lls_mem hu3 hv
    have gq5 := d5.2 _ _ (hH3.ne_iv gq3) gq3
    have cqh := d5.1.ne_iv gq5
    have t5 := d5.tabs hH3 t3
    obtain ⟨k1, k2, k3, k4⟩ := CMs_ok cw hcw
    refine at_set ?_
    try dsimp only
    refine ⟨_, rfl, _, rfl, a, c, cq, cw.map Int.toNat, n + 1, rfl, d5.1, cqh, by rw [← k1]; exact gq5, by omega, k3, by omega, by omega, fun p H6 ws_ wl ks hp6 d6 gp6 L6 pok => ?_⟩
    have t6 := d6.tabs d5.1 t5
    have rok := pok.ok (by omega)
    have due := many_plain pok (by omega)
    have gq6 : H6 cq = some (.lst (iv (nats (cw.map Int.toNat)))) := by rw [← k1]; exact d6.2 _ _ cqh gq5
    obtain ⟨M, eM⟩ : ∃ M, M = cw.map Int.toNat := ⟨_, rfl⟩
    rw [← eM] at gq6 k2 k3 k4 due pok
    refine ⟨_, _, rfl, ?_⟩
    try dsimp only
    refine ⟨_, rfl, cq, rfl, ⟨_, SqL.of gq6⟩, for_list (K := K) (a := cq) (xs := iv (nats M)) (fun i σ H' => (∃ v4 v5 : Option V, σ = [some (.ref a), some (.ref cq), some (.ref p), some (.int ((dueN (M.take i) : Nat) : Int)), v4, v5, none, none]) ∧ H' = H6) ⟨⟨none, none, rfl⟩, rfl⟩ (fun i σ H' _ h => by rw [h.2]; exact SqL.of gq6) ?_ ?_⟩
    · rintro i x σ H7 hx ⟨⟨v4, v5, rfl⟩, rfl⟩
      obtain ⟨cc, hcc, rfl⟩ : ∃ cc, M[i]? = some cc ∧ x = V.int ((cc : Nat) : Int) := by
        have e0 : (nats M)[i]? = M[i]?.map (fun (n : Nat) => (n : Int)) := by unfold nats; exact List.getElem?_map
        rw [List.getElem?_map, e0] at hx
        cases e : M[i]? with
        | none => rw [e] at hx; cases hx
        | some z => rw [e] at hx; exact ⟨z, rfl, (Option.some.inj hx).symm⟩
      have hc12 : cc ≤ 12 := Nat.le_trans (le_sum (List.mem_of_getElem? hcc)) k4
      refine ⟨_, rfl, (cc : Int), rfl, by omega, by omega, ?_⟩
      rw [Int.toNat_natCast]
      refine for_range (lo := 0) (n := cc) (fun j σ H' => (∃ v5 : Option V, σ = [some (.ref a), some (.ref cq), some (.ref p), some (.int ((dueN (M.take i) * fct j : Nat) : Int)), some (.int (cc : Int)), v5, none, none]) ∧ H' = H7) ⟨⟨v5, by rw [show fct 0 = 1 from rfl, Nat.mul_one]; rfl⟩, rfl⟩ ?_ ?_
      · rintro j σ H8 hj ⟨⟨v5', rfl⟩, rfl⟩
        refine ⟨_, rfl, _, rfl, _, _, rfl, rfl, _, _, rfl, rfl, .inr ⟨by omega, by omega⟩, ⟨some (.int (0 + (j : Int))), ?_⟩, rfl⟩
        have e : ((dueN (M.take i) * fct (j + 1) : Nat) : Int) = ((dueN (M.take i) * fct j : Nat) : Int) * (0 + (j : Int) + 1) := by
          rw [fct_succ j (by omega), Nat.mul_comm (j + 1), ← Nat.mul_assoc, Int.natCast_mul (dueN (M.take i) * fct j) (j + 1)]
          congr 1
          omega
        rw [e]
        rfl
      · rintro σ H8 ⟨⟨v5', rfl⟩, rfl⟩
        exact ⟨⟨_, v5', by rw [due_snoc hcc]⟩, rfl⟩
    · rintro σ H7 ⟨⟨v4, v5, rfl⟩, rfl⟩
      have all : M.take (iv (nats M)).length = M := by
        rw [List.length_map, show (nats M).length = M.length by unfold nats; exact List.length_map _]
        exact List.take_length
      rw [all]
      try dsimp only
      refine ⟨_, rfl, p, ws_, wl, rfl, gp6, L6, rok, fun rp H9 xs9 s9 R9 => ?_⟩
      try dsimp only
      refine at_set ?_
      try dsimp only
      refine ⟨_, rfl, rp, xs9, wl, rfl, R9, rok, fun HA sA => ?_⟩
      rw [due]
      refine ⟨_, rfl, rfl, _, rfl, iteF' (by simp) ?_⟩
      have s0A := s9.trans sA
      have RA_ := R9.same sA
      have tA := t6.ext s0A
      have hHA := d6.1.same s0A
      obtain ⟨l1, l4, hne, l24, hl_, hb⟩ := id rok
      by_cases big : 720 < dueN M
      · refine ⟨tA, fun H1 x1 t1 R hR => ?_⟩
        refine ⟨_, rfl, .inr ⟨_, rfl, .inr ⟨rp, xs9, wl, rfl, RimsAt.extN x1 RA_, rok, by rw [due]; exact big, ef_many x1 t1 fun H2 q1 x2 t2 g2 => ?_⟩⟩⟩
        refine ⟨t2, fun H3 x3 t3 R2 hR2 => ?_⟩
        refine ⟨_, rfl, .inr ⟨_, rfl, .inr ⟨rp, xs9, wl, rfl, RimsAt.extN x3 (RimsAt.extN x2 RA_), rok, by rw [due]; exact big, ef_many x3 t3 fun H4 q2 x4 t4 g4 => ?_⟩⟩⟩
        refine ⟨by show 2 ≤ sizeLine; decide, fun l hl => ?_⟩
        try dsimp only
        refine at_set ?_
        try dsimp only
        have gl : L2.upd H4 l (.lst [.ref q1, .ref q2]) l = some (.lst [.ref q1, .ref q2]) := upd_same
        have s5 := same_upd (o := .lst [.ref q1, .ref q2]) hl
        have k1_ := s5 _ _ (x4 _ _ g2 fun ps q => by cases q)
        have k2_ := s5 _ _ g4
        refine ⟨_, rfl, _, rfl, _, _, rfl, rfl, _, rfl, iteT' (decide_eq_true (by omega)) ?_⟩
        refine ⟨by show 2 ≤ sizeLine; decide, fun t ht => ⟨by show 1 ≤ sizeLine; decide, fun l1_ hl1 => ⟨l1_, 2, _, rfl, rfl, upd_same, by decide, by decide, by show 2 ≤ sizeLine; decide, fun pp hp => ?_⟩⟩⟩
        have sT := same_upd (o := .tup [.str "sewings", .int 720]) ht
        have gT : L2.upd (L2.upd H4 l (.lst [.ref q1, .ref q2])) t (.tup [.str "sewings", .int 720]) t = some (.tup [.str "sewings", .int 720]) := upd_same
        have sL := same_upd (o := .lst [.ref t]) hl1
        have sP := same_upd (o := .lst (List.replicate (2 : Int).toNat [V.ref t]).flatten) hp
        have sQ := (sT.trans sL).trans sP
        have gT2 := sP _ _ (sL _ _ gT)
        have dq : ∀ {q : Addr} {G : Hp}, G q = some (.tup [.str "sewings", .int 720]) → Dp K G (.ref q) (.tuple [.str "sewings", .int 720]) := fun g => .tup (SqT.of g) (.cons (.str _) (.cons (.int _) .nil))
        refine ⟨.list [.tuple [.str "sewings", .int 720], .tuple [.str "sewings", .int 720]], .list [.tuple [.str "sewings", .int 720], .tuple [.str "sewings", .int 720]], .lst (SqL.of (sQ _ _ gl)) (.cons (dq (sQ _ _ k1_)) (.cons (dq (sQ _ _ k2_)) .nil)), .lst (SqL.of upd_same) (.cons (dq gT2) (.cons (dq gT2) .nil)), by decide +kernel, by decide +kernel, ?_⟩
        exact k _ (((((hHA.ext x2).ext x4).same s5).same sQ).mono (by omega)) ((t4.ext s5).ext sQ)
      · refine ⟨tA, fun H1 x1 t1 R hR => ?_⟩
        have lsew : (sewF wl).length = manyF wl.flatten := mates_len hl_ l24 (bal_of pok)
        refine ⟨_, rfl, .inl ⟨rp, xs9, wl, rfl, RimsAt.extN x1 RA_, rok, by omega, by omega, fun qc H2 s2_ _ => hR _ _ fun H3 s3_ => ?_⟩⟩
        have tB := (t1.ext s2_).ext s3_
        refine ⟨tB, fun H4 x4 t4 R2 hR2 => ?_⟩
        have RB := RimsAt.extN x4 ((RimsAt.extN x1 RA_).same (s2_.trans s3_))
        refine ⟨_, rfl, .inl ⟨rp, xs9, wl, rfl, RB, rok, by omega, by omega, fun qc2 H5_ s5_ _ => hR2 _ _ fun H6_ s6_ => ?_⟩⟩
        refine ⟨by show 2 ≤ sizeLine; decide, fun l hl => ?_⟩
        try dsimp only
        refine at_set ?_
        try dsimp only
        have gl : L2.upd H6_ l (.lst [.non, .non]) l = some (.lst [.non, .non]) := upd_same
        refine ⟨_, rfl, _, rfl, _, _, rfl, rfl, _, rfl, iteF' (decide_eq_false (by omega)) ?_⟩
        refine ⟨by show 2 ≤ sizeLine; decide, fun l2 hl2 => ?_⟩
        have s7_ := same_upd (o := .lst [.non, .non]) hl
        have s8_ := same_upd (o := .lst [.non, .non]) hl2
        refine ⟨.list [.none, .none], .list [.none, .none], .lst (SqL.of (s8_ _ _ gl)) (.cons .non (.cons .non .nil)), .lst (SqL.of upd_same) (.cons .non (.cons .non .nil)), by decide +kernel, by decide +kernel, ?_⟩
        exact k _ ((((((hHA.ext x1).same (s2_.trans s3_)).ext x4).same (s5_.trans s6_)).same (s7_.trans s8_)).mono (by omega)) (((t4.ext s5_).ext s6_).ext (s7_.trans s8_))
end
end W13
set_option Elab.async false
set_option linter.all false
set_option maxRecDepth 100000
set_option maxHeartbeats 1000000
namespace SrtT
open PySem PySem.Spec PyProof.Rows L2
theorem lex_told (ns ms : List Int) (fin : Bool) : ∀ (k i : Nat), i + k = min ns.length ms.length →
    Ob.lexAt (fun j => decide (ns.getD j 0 = ms.getD j 0)) (fun j => decide (ns.getD j 0 < ms.getD j 0)) fin i k = lexZ fin (ns.drop i) (ms.drop i)
  | 0, i, h => by
    rw [Ob.lexAt_zero]
    rcases Nat.le_total ns.length ms.length with hl | hl
    · rw [List.drop_of_length_le (show ns.length ≤ i by omega)]
      rfl
    · rw [List.drop_of_length_le (show ms.length ≤ i by omega)]
      cases ns.drop i <;> rfl
  | k + 1, i, h => by
    have h1 : i < ns.length := by omega
    have h2 : i < ms.length := by omega
    have g1 : ns.getD i 0 = ns[i] := by simp [h1]
    have g2 : ms.getD i 0 = ms[i] := by simp [h2]
    have ih := lex_told ns ms fin k (i + 1) (by omega)
    rw [Ob.lexAt_succ, ih, List.drop_eq_getElem_cons h1, List.drop_eq_getElem_cons h2, g1, g2]
    show _ = if ns[i] = ms[i] then lexZ fin (ns.drop (i + 1)) (ms.drop (i + 1)) else decide (ns[i] < ms[i])
    by_cases e : ns[i] = ms[i]
    · rw [if_pos e, if_pos (decide_eq_true e)]
    · rw [if_neg e, if_neg (by rw [decide_eq_false e]; exact Bool.false_ne_true)]
def rLtTI (K : PySem.W.Frag) : R2 := fun x y H Q => ∃ (a b : Addr) (ns ms : List Int), x = .ref a ∧ y = .ref b ∧ SqT K H a (ns.map V.int) ∧ SqT K H b (ms.map V.int) ∧ Q (.bl (lexL ns ms)) H
theorem ints_get {ns : List Int} : ∀ {its : List Value}, Vals (ns.map V.int) its → its.length = ns.length ∧ ∀ j (h : j < its.length), ∃ t, its[j] = Value.int (ns.getD j 0) t := by
  intro its r
  have i1 : IntsAre its ns := Vals.ints r
  refine ⟨i1.length, fun j h => ?_⟩
  have := PyProof.Rows.IntsAre.int_at i1 j its[j] (by simp [h])
  exact this
theorem op_ltTI {X : Cx} (hu : X.A.units < cLine) : OpR X (compareOp .Lt) (rLtTI X.K) := by
  intro pins s σ H x y v u Q I rx ry ⟨a, b, ns, ms, ex, ey, ha, hb, q⟩
  subst ex ey
  obtain rfl : v = Value.ref a := rx
  obtain rfl : u = Value.ref b := ry
  obtain ⟨xs, r1, p1, _⟩ := I.tuple ha
  obtain ⟨ys, r2, p2, _⟩ := I.tuple hb
  obtain ⟨l1, g1⟩ := ints_get r1
  obtain ⟨l2, g2⟩ := ints_get r2
  have run := Ob.RcOp.tuples_lt (A := X.A) (s := s) (e := fun j => decide (ns.getD j 0 = ms.getD j 0)) (r := fun j => decide (ns.getD j 0 < ms.getD j 0)) p1 p2 hu
    (fun j h1 h2 => by
      obtain ⟨t, e1⟩ := g1 j (by simpa using h1)
      obtain ⟨t2, e2⟩ := g2 j (by simpa using h2)
      have z : SeqAt.EqAt X.A.in1 s (Value.int (ns.getD j 0) t) (Value.int (ms.getD j 0) t2) (ns.getD j 0 == ms.getD j 0) := SeqAt.EqAt.int_int _ _ _ _
      rw [show (ns.getD j 0 == ms.getD j 0) = decide (ns.getD j 0 = ms.getD j 0) from rfl] at z
      simpa only [List.getElem_toArray, e1, e2] using z)
    (fun j h1 h2 _ => by
      obtain ⟨t, e1⟩ := g1 j (by simpa using h1)
      obtain ⟨t2, e2⟩ := g2 j (by simpa using h2)
      have z := Ob.RcOp.lt_int (A := X.A.in1) (s := s) (ns.getD j 0) (ms.getD j 0) t t2
      simpa only [List.getElem_toArray, e1, e2] using z)
  have ans := lex_told ns ms (decide (ns.length < ms.length)) (min ns.length ms.length) 0 (by omega)
  rw [List.size_toArray, List.size_toArray, l1, l2, ans, List.drop_zero, List.drop_zero, lexZ_eq ns ms _ rfl] at run
  exact run X.prog X.w X.xe (EP X pins σ Q) ⟨.bl (lexL ns ms), H, I, rfl, q⟩
end SrtT
set_option Elab.async false
set_option linter.all false
set_option maxRecDepth 100000
set_option maxHeartbeats 1000000
namespace STP
open PySem PySem.Spec PyProof.Rows L2
variable {σ : L2.St} {H : Hp} {D : Ends}
theorem seq {t u : TS} (h : t { D with nx := u D } σ H) : tSeq t u D σ H := h
theorem nx {f b c : L2.St → Hp → Prop} {r : VK} (h : f σ H) : tNext { nx := f, rt := r, bk := b, ct := c } σ H := h
theorem ret {t : TE} (h : t σ H D.rt) : tRet t D σ H := h
theorem asg {t : TE} {g : TG} (h : t σ H fun x H1 => g x σ H1 D.nx) : tAsg t g D σ H := h
theorem ifS {c : TT} {t u : TS} (h : c σ H fun b H1 => if b = true then t D σ H1 else u D σ H1) : tIfS c t u D σ H := h
theorem or {t u : TT} {Q : Bool → Hp → Prop} (h : t σ H fun c H1 => if c = true then Q true H1 else u σ H1 Q) : tOr t u σ H Q := h
theorem test {t : TE} {Q : Bool → Hp → Prop} (h : t σ H fun x H' => ∃ k, x = .bl k ∧ Q k H') : tTest t σ H Q := h
theorem op {r : R2} {ta tb : TE} {Q : VK} (h : ta σ H fun x H1 => tb σ H1 fun y H2 => r x y H2 Q) : tOp r ta tb σ H Q := h
theorem cb {r : List V → Hp → VK → Prop} {t : TA} {Q : VK} (h : t σ H fun vs H1 => r vs H1 Q) : tCB r t σ H Q := h
theorem call {sp : Sp} {dvs : List V} {E : XK} {t : TA} {Q : VK} (h : t σ H fun vs H1 => sp (vs ++ dvs) H1 Q E) : tCall sp dvs E t σ H Q := h
theorem cons {ta : TE} {tr : TA} {Q : List V → Hp → Prop} (h : ta σ H fun x H1 => tr σ H1 fun xs H2 => Q (x :: xs) H2) : tCons ta tr σ H Q := h
theorem nil {Q : List V → Hp → Prop} (h : Q [] H) : tNil σ H Q := h
theorem var {i : Nat} {v : V} {Q : VK} (e : σ[i]? = some (some v)) (h : Q v H) : tVar i σ H Q := ⟨v, e, h⟩
theorem lc {wi : TI} {g : TG} {tt : TT} {te : TE} {vs : List Nat} {Q : VK} (h : wi σ H fun J H1 => tLc (fun _ H R => R J H) g tt te vs σ H1 Q) : tLc wi g tt te vs σ H Q := h
theorem name {i : Nat} {v : V} {f : L2.St → Hp → Prop} (h : f (σ.set i (some v)) H) : gName i v σ H f := h
theorem lst {t : TA} {Q : VK} (h : t σ H fun xs H1 => xs.length ≤ sizeLine ∧ ∀ l, H1 l = none → Q (.ref l) (L2.upd H1 l (.lst xs))) : tLst t σ H Q := h
end STP
set_option Elab.async false
set_option linter.all false
set_option maxRecDepth 100000
set_option maxHeartbeats 1000000
namespace W13
open PySem L2 PySem.Spec PyProof.Rows WR WB WE WS SrtT RZ
theorem walk_zipT {K : PySem.W.Frag} {a b : Addr} {xs ys : List V} {n : Nat} (hn : n = min xs.length ys.length) : Walk (ItzT K a b) n (fun H => SqT K H a xs ∧ SqT K H b ys) (YPair (fun i => xs[i]?) (fun i => ys[i]?)) := by
  refine ⟨fun i _ lt q => ⟨xs, ys, _, _, q.1, q.2, List.getElem?_eq_getElem (by omega), List.getElem?_eq_getElem (by omega)⟩, fun _ q => ⟨xs, ys, q.1, q.2, by omega⟩, fun i H v H' _ q y => ?_⟩
  obtain ⟨T, x, y', h1, h2, h3, h4, h5⟩ := y
  exact ⟨T, x, y', h1, h2, h3, h4 xs q.1, h5 ys q.2⟩
theorem op_neDK {X : Cx} {K : PySem.W.Frag} (h : X.K = K) (hu : X.A.units + 64 < cLine) : OpR X (compareOp .NotEq) (rNeD K) := h ▸ op_neD hu
theorem op_ltTIK {X : Cx} {K : PySem.W.Frag} (h : X.K = K) (hu : X.A.units < cLine) : OpR X (compareOp .Lt) (rLtTI K) := h ▸ op_ltTI hu
theorem HandAt.lst0 {H : Hp} {a c : Addr} {n : Nat} (h : HandAt H a c n) : ∃ xs, H a = some (.lst xs) := by
  obtain ⟨ns, i, r, h1, _⟩ := h
  exact ⟨_, h1⟩
def spPickT (K : PySem.W.Frag) : Sp := fun vs H Q _ => ∃ (a c p : Addr) (xs : List V) (n : Nat), vs = [.ref a, .ref p] ∧ HandAt H a c n ∧ n ≤ 10000 ∧ SqT K H p xs ∧ 0 < xs.length ∧ xs.length ≤ 1000 ∧ ∀ (i : Nat) (v : V), xs[i]? = some v → ∀ H', Drew a c (n + 1) H H' → Q v H'
theorem cntS_one {x : Int} {L : List Int} (nd : L.Nodup) (h : x ∈ L) : (L.map fun c => if x = c then (1 : Int) else 0).sum = 1 := by
  induction L with
  | nil => cases h
  | cons c r ih =>
    rw [List.nodup_cons] at nd
    rw [List.map_cons, List.sum_cons]
    by_cases e : x = c
    · have z : ∀ {s : List Int}, x ∉ s → (s.map fun c => if x = c then (1 : Int) else 0).sum = 0 := by
        intro s
        induction s with
        | nil => intro _; rfl
        | cons d t ih2 =>
          intro hn
          rw [List.mem_cons, not_or] at hn
          rw [List.map_cons, List.sum_cons, if_neg hn.1, ih2 hn.2]
          rfl
      rw [if_pos e, z (by rw [e]; exact nd.1)]
      rfl
    · rw [if_neg e, ih nd.2 ((List.mem_cons.mp h).resolve_left e)]
      rfl
theorem cntS_sum {L : List Int} (nd : L.Nodup) : ∀ {cs : List Int}, (∀ c ∈ cs, c ∈ L) → (L.map fun c => ((cs.count c : Nat) : Int)).sum = (cs.length : Int)
  | [], _ => by
    have z : ∀ s : List Int, (s.map fun c => ((([] : List Int).count c : Nat) : Int)).sum = 0 := by
      intro s
      induction s with
      | nil => rfl
      | cons d t ih => rw [List.map_cons, List.sum_cons, ih]; rfl
    exact z L
  | x :: r, h => by
    have ih := cntS_sum nd (cs := r) fun c hc => h c (List.mem_cons_of_mem _ hc)
    have s : ∀ s : List Int, (s.map fun c => (((x :: r).count c : Nat) : Int)).sum = (s.map fun c => ((r.count c : Nat) : Int)).sum + (s.map fun c => if x = c then (1 : Int) else 0).sum := by
      intro s
      induction s with
      | nil => rfl
      | cons d t ih =>
        rw [List.map_cons, List.sum_cons, ih, List.map_cons, List.sum_cons, List.map_cons, List.sum_cons, List.count_cons]
        by_cases e : x = d
        · subst e
          rw [if_pos rfl, if_pos (by simp)]
          omega
        · rw [if_neg e, if_neg (by simp [e])]
          omega
    rw [s L, ih, cntS_one nd (h x List.mem_cons_self), List.length_cons]
    omega
theorem ds_nd (cs : List Int) : (dsF cs).Nodup := by
  refine List.Pairwise.filter _ ?_
  rw [List.pairwise_map]
  exact List.Pairwise.imp (fun {a b} h => by omega) List.pairwise_lt_range
theorem cns_sum {cs : List Int} (r : ∀ c ∈ cs, -24 ≤ c ∧ c ≤ 12) : ((cnsF cs).map (·.2)).sum = (cs.length : Int) := by
  unfold cnsF
  rw [List.map_map]
  refine cntS_sum (ds_nd cs) fun c hc => ?_
  unfold dsF
  rw [List.mem_filter, decide_eq_true_eq, List.mem_map]
  have := r c hc
  exact ⟨⟨(c + 32).toNat, List.mem_range.mpr (by omega), by omega⟩, hc⟩
theorem lay_cen : ∀ ps : List (Int × Int), PyData.canLayAll0 (ps.map prD) = true ∧ PyData.depthAll (ps.map prD) ≤ 1
  | [] => ⟨rfl, by simp [PyData.depthAll]⟩
  | p :: r => by
    obtain ⟨h1, h2⟩ := lay_cen r
    simp only [List.map_cons, PyData.canLayAll0, PyData.canLay0, PyData.depthAll, PyData.depth, h1, Bool.and_self, true_and] at h2 ⊢
    omega
theorem shaped_cen (ps : List (Int × Int)) : SeqAt.shaped (cenD ps) = true := by
  obtain ⟨h1, h2⟩ := lay_cen ps
  simp [SeqAt.shaped, PyData.canLay0, PyData.depth, h1]
  omega
theorem eqv_cen (ps : List (Int × Int)) : PyData.eqv (cenD ps) (cenD ps) = true := by
  obtain ⟨h1, _⟩ := lay_cen ps
  exact SeqAt.eqv_refl _ (by simpa only [PyData.canLay0] using h1)
theorem shaped_ltT (ws : List (List Int)) : SeqAt.shaped (.tuple (ltd ws)) = true := by
  obtain ⟨h1, h2⟩ := lay_ltd ws
  simp [SeqAt.shaped, PyData.canLay0, PyData.depth, h1]
  omega
theorem eqv_ltT (ws : List (List Int)) : PyData.eqv (.tuple (ltd ws)) (.tuple (ltd ws)) = true := eqv_ltd ws
theorem dp_corn {K : PySem.W.Frag} {H : Hp} {q : Addr} {cs : List (List Nat)} (h : CornAt K H q cs) : Dp K H (.ref q) (.tuple (ltd (cs.map nats))) := by
  obtain ⟨vs, hB, h2⟩ := h
  exact .tup hB.sq (dp_lts (mapr_all2 (h2.imp fun v c ⟨q, e, r⟩ => (⟨q, e, r.sq⟩ : ∃ q, v = V.ref q ∧ SqT K H q (iv (nats c))))))
section
variable {P : Program} {w : World} {K : PySem.W.Frag} {mg : Str → Option Value} {base : Heap}
theorem ok_pickT {f : Addr} {fd : FuncData} (F : Fun K "_law_pick" "_law_pick" sPick f fd) (GT : Cal P w K mg base "_law_draw" 1 ["_law_pen_here", "_law_many"] spTake) (T : TxL mg) : FnOk P w K mg base CX0 2 f fd ["_law_pen_here", "_law_some"] (spPickT K) := by
  refine F.ok scPick (fun vs H Q E h => ?_) (fun cdv A outer s H vs Q E hr h => ?_)
  · obtain ⟨a, c, p, xs, n, rfl, _⟩ := h
    rfl
  · obtain ⟨a, c, p, xs, n, rfl, hH, hn, hp, h0, h1, k⟩ := h
    refine ⟨_, pss_one (ps_ret (pe_ix ix_tup (pv 1) (pe_cal GT hr (by decide) (by rfl) (pa_cons (pv 0) (pa_cons (pe_callB call_len_seq (by rfl) T.len PySem.boot_len (pa_cons (pv 1) pa_nil)) pa_nil))) (fun _ _ => rfl))), ?_⟩
    refine ⟨_, rfl, _, rfl, _, rfl, p, _, rfl, .inr hp, a, c, _, n, rfl, hH, hn, by omega, ?_, ?_⟩
    · have : (((xs.length : Nat) : Int)).natAbs ≤ 1000 := by omega
      exact Nat.lt_of_le_of_lt this (by decide)
    · intro H' q q0 q1 hH' hK
      obtain ⟨j, rfl⟩ : ∃ j : Nat, q = (j : Int) := ⟨q.toNat, by omega⟩
      have hj : j < xs.length := by omega
      obtain ⟨zs, hz⟩ := HandAt.lst0 hH
      refine ⟨p, xs, _, xs[j], rfl, rfl, SqT.keptL hz hK hp, atI_nat (List.getElem?_eq_getElem hj), ?_⟩
      exact k j _ (List.getElem?_eq_getElem hj) H' ⟨hH', hK⟩
end
abbrev sGR : Stmt := top 78
abbrev nGR : List Str := ["_law_pen_here", "_law_words", "_law_rims_here", "_law_found", "_law_told", "_law_drawn", "_law_cost", "_law_many", "_law_sewing", "_law_turn", "_law_one", "_law_other"]
theorem scGR : FnScope nGR ["_law_pen_here"] (defScope sGR) := ⟨rfl, rfl, rfl, by decide +kernel, rfl, by decide +kernel, by decide +kernel⟩
theorem hu_of0 {A : Around} {k : Nat} (hr : Room k A) : A.units < cLine := by
  have := hr.units
  omega
def CMg : List (List Int) := [[6], [5, 3]]
theorem CMg_ok : ∀ w ∈ CMg, w = nats (w.map Int.toNat) ∧ (w.map Int.toNat).length ≤ 12 ∧ 1 ≤ (w.map Int.toNat).sum ∧ (w.map Int.toNat).sum ≤ 12 ∧ dueN (w.map Int.toNat) = 720 := by decide +kernel
theorem Kept.of {a : Addr} {H H' : Hp} (s : Same H H') : Kept a H H' := fun b o _ e => s b o e
theorem cut_one (xs : List V) : cutV xs (some 1) none = xs.drop 1 := by
  unfold cutV
  cases xs with
  | nil => simp
  | cons x r => simp [HT.sIx]
theorem SewAt.kept0 {K : PySem.W.Frag} {C CR CS : Addr} {H H' : Hp} {D p rp : Addr} {xs : List Addr} {ws : List (List Int)} {mt : List Int} {us : List V} (h : SewAt K C CR CS H p rp xs ws mt) (hD : H D = some (.lst us)) (d : Kept D H H') : SewAt K C CR CS H' p rp xs ws mt := by
  have kB : ∀ {a ys}, SqB K H a ys → SqB K H' a ys := fun h => SqB.keptL hD d h
  have kI : ∀ {a C dx fs}, H a = some (.ins C dx fs) → H' a = some (.ins C dx fs) := fun {a C dx fs} e => d _ _ (fun z => by rw [z, hD] at e; cases e) e
  have kC : ∀ {a cs}, CornAt K H a cs → CornAt K H' a cs := fun ⟨vs, h1, h2⟩ => ⟨vs, kB h1, h2.imp fun _ _ ⟨q, e, r⟩ => ⟨q, e, kB r⟩⟩
  obtain ⟨dx, tm, tc, tp, h1, ⟨d2, tw, tl, th, tn, r1, r2, r3, r4, r5, r6⟩, h3, h4, h5⟩ := h
  refine ⟨dx, tm, tc, tp, kI h1, ⟨d2, tw, tl, th, tn, kI r1, kB r2, r3.imp fun a ns wa => ?_, kB r4, kB r5, kB r6⟩, kB h3, kC h4, kC h5⟩
  obtain ⟨dx, tl, tk, ks, w1, w2, w3, w4⟩ := wa
  exact ⟨dx, tl, tk, ks, kI w1, kB w2, SqT.keptL hD d w3, w4⟩
def spGR : Sp := fun vs H Q _ => ∃ (a c : Addr) (n : Nat), vs = [.ref a] ∧ HandAt H a c n ∧ n ≤ 5000 ∧ ∀ H', Drew a c (n + 300) H H' → Q (.bl true) H'
section
variable {P : Program} {w : World} {K : PySem.W.Frag} {mg : Str → Option Value} {base : Heap} {C CR CS : Addr}
theorem ok_GR {f : Addr} {fd : FuncData} (F : Fun K "_law_great_right" "_law_great_right" sGR f fd) (N : TN mg) (hsum : mg "sum" = none) (TS : TxSC K mg CS)
    (G_pick : Cal P w K mg base "_law_pick" 2 ["_law_pen_here", "_law_some"] spPick) (G_pickT : Cal P w K mg base "_law_pick" 2 ["_law_pen_here", "_law_some"] (spPickT K)) (G_plain : Cal P w K mg base "_law_plain" 4 ["_law_pen_here", "_law_counts"] spPlain) (G_rims : Cal P w K mg base "_law_rims" 6 ["_law_words"] (spLRims K C CR))
    (G_census : Cal P w K mg base "_law_census" 3 ["_law_words", "_law_lists"] (spCns K)) (G_corners : Cal P w K mg base "_law_corners" 2 ["_law_words", "_law_mates"] (spCorL K))
    (GC : Cal P w K mg base "census" 28 ["rims"] (spCens K C CR)) (GA : Cal P w K mg base "all_sewings" 27 ["rims"] (spAllS K C CR CS)) (GM : Cal P w K mg base "many_sewings" 2 ["rims"] (spMany K C CR)) :
    FnOk P w K mg base CX0 29 f fd ["_law_pen_here"] spGR := by
  refine F.ok scGR (fun vs H Q E h => ?_) (fun cdv A outer s H vs Q E hr h => ?_)
  · obtain ⟨a, c, n, rfl, _⟩ := h
    rfl
  · obtain ⟨a, c, n, rfl, hH, hn, k⟩ := h
    refine ⟨_, pss_cons (ps_set (i := 1) scGR.nd rfl (Or.inr rfl) (pe_cal G_plain hr (by decide) (by rfl) (pa_cons (pv 0) (pa_cons (pe_cal G_pick hr (by decide) (by rfl) (pa_cons (pv 0) (pa_cons (pe_lst (pa_cons (pe_lst (pa_cons pe_int pa_nil)) (pa_cons (pe_lst (pa_cons pe_int (pa_cons pe_int pa_nil))) pa_nil))) pa_nil))) pa_nil))))
      (pss_cons (ps_set (i := 2) scGR.nd rfl (Or.inl rfl) (pe_cal G_rims hr (by decide) (by rfl) (pa_cons (pv 1) pa_nil)))
      (pss_cons (ps_asg (pe_tup (pa_cons (pe_cal GC hr (by decide) (by rfl) (pa_cons (pv 2) pa_nil)) (pa_cons (pe_cal GA hr (by decide) (by rfl) (pa_cons (pv 2) pa_nil)) pa_nil))) (pg_tup (n := 2) rfl (pgs_cons (pg_name (i := 3) scGR.nd rfl (Or.inl rfl)) (pgs_cons (pg_name (i := 4) scGR.nd rfl (Or.inr rfl)) pgs_nil))))
      (pss_cons (ps_if (PW.pt (pw_or (pt_cmpR op_ne (pe_callB (cr_sum rfl) (by rfl) hsum (by decide +kernel) (pa_cons (pe_lc (own := [("_law_cost", 6), ("_law_many", 7)]) (g := gTup K 2 (gCons (gName 6) (gCons (gName 7) gNil))) (tt := tYes) rfl scGR.nd (pi_tup (pv 3)) (blkOk_by (N := nGR) (sc := defScope sGR) (by decide +kernel)) (fun _ _ _ _ _ => (pg_tup (n := 2) rfl (pgs_cons (pg_name (i := 6) scGR.nd rfl (Or.inl rfl)) (pgs_cons (pg_name (i := 7) scGR.nd rfl (Or.inl rfl)) pgs_nil)))) (fun _ _ _ _ _ => pts_nil) (fun _ _ _ _ _ => (pv 7))) pa_nil)) pe_int (nomark _)) (pw_or1 (pt_cmpR op_ne (pe_cal GM hr (by decide) (by rfl) (pa_cons (pv 2) pa_nil)) pe_int (nomark _))))) (pss_one (ps_ret pe_bl)) pss_nil)
      (pss_cons (ps_if (pt_cmpR (op_neD hr.units) (pv 3) (pe_cal G_census hr (by decide) (by rfl) (pa_cons (pv 1) (pa_cons (pe_lc (own := [("_law_sewing", 8)]) (g := gName 8) (tt := tYes) rfl scGR.nd (pi_tup (pv 4)) (blkOk_by (N := nGR) (sc := defScope sGR) (by decide +kernel)) (fun _ _ _ _ _ => (pg_name (i := 8) scGR.nd rfl (Or.inl rfl))) (fun _ _ _ _ _ => pts_nil) (fun _ _ _ _ _ => (pe_fldK (K := K) rfl (pv 8) rfl))) pa_nil))) (nomark _)) (pss_one (ps_ret pe_bl)) pss_nil)
      (pss_cons (ps_setLc (i := 5) (own := [("_law_turn", 9)]) (g := gName 9) (tt := tYes) rfl scGR.nd rfl rfl (sw_true rfl rfl rfl (by decide +kernel)) (pi_range1 (by rfl) N.range (pa_cons pe_int pa_nil)) (blkOk_by (N := nGR) (sc := defScope sGR) (by decide +kernel)) (fun _ _ _ _ _ => (pg_name (i := 9) scGR.nd rfl (Or.inl rfl))) (fun _ _ _ _ _ => pts_nil) (fun _ _ _ _ _ => (pe_cal G_pickT hr (by decide) (by rfl) (pa_cons (pv 0) (pa_cons (pv 4) pa_nil)))))
      (pss_cons (ps_if (PW.pt (pw_or (pt_cmpR op_ne (pe_callB call_len_seq (by rfl) N.len PySem.boot_len (pa_cons (pv 4) pa_nil)) pe_int (nomark _)) (pw_or1 (pt_cmpR (op_neD hr.units) (pe_lc (own := [("_law_sewing", 8)]) (g := gName 8) rfl scGR.nd (pi_list (pv 5)) (blkOk_by (N := nGR) (sc := defScope sGR) (by decide +kernel)) (fun _ _ _ _ _ => (pg_name (i := 8) scGR.nd rfl (Or.inl rfl))) (fun _ _ _ _ _ => (pts_one (pt_cmpR (op_neDK (K := K) rfl hr.units) (pe_fldK (K := K) rfl (pv 8) rfl) (pe_cal G_corners hr (by decide) (by rfl) (pa_cons (pv 1) (pa_cons (pe_fldK (K := K) rfl (pv 8) rfl) pa_nil))) (nomark _)))) (fun _ _ _ _ _ => (pv 8))) (pe_lst pa_nil) (nomark _))))) (pss_one (ps_ret pe_bl)) pss_nil)
      (pss_one (ps_ret (pe_cmpR (op_eqD hr.units) (pe_lc (own := [("_law_one", 10), ("_law_other", 11)]) (g := gTup K 2 (gCons (gName 10) (gCons (gName 11) gNil))) rfl scGR.nd (pi_zipA (by rfl) N.zip (pa_cons (pv 4) (pa_cons (pe_slice sl_tupB (pv 4) (po_some pe_int) po_none) pa_nil))) (blkOk_by (N := nGR) (sc := defScope sGR) (by decide +kernel)) (fun _ _ _ _ _ => (pg_tup (n := 2) rfl (pgs_cons (pg_name (i := 10) scGR.nd rfl (Or.inl rfl)) (pgs_cons (pg_name (i := 11) scGR.nd rfl (Or.inl rfl)) pgs_nil)))) (fun _ _ _ _ _ => (pts_one (pt_not (pt_cmpR (op_ltTIK (K := K) rfl (hu_of0 hr)) (pe_fldK (K := K) rfl (pv 10) rfl) (pe_fldK (K := K) rfl (pv 11) rfl) (nomark _))))) (fun _ _ _ _ _ => pe_int)) (pe_lst pa_nil) (nomark _)))))))))), ?_⟩
    refine ⟨_, rfl, _, rfl, ar1 (lst_lits (cs := CMg) (lits_cons (liti_cons liti_nil) (by decide) (lits_cons (liti_cons (liti_cons liti_nil)) (by decide) lits_nil)) fun us H2 s2 hu => ⟨by rw [hu.length]; decide, fun O hO => ?_⟩)⟩
    have lu : us.length = 2 := hu.length
    have s3 := same_upd (o := .lst us) hO
    have gO : L2.upd H2 O (.lst us) O = some (.lst us) := upd_same
    have s03 := s2.trans s3
    have hH3 := hH.same s03
    have Oh := (hH.same s2).ne hO
    have hu3 := hu.same s3
    generalize L2.upd H2 O (.lst us) = H3 at s3 gO s03 hH3 hu3 ⊢
    refine ⟨a, c, O, us, n, rfl, hH3, by omega, Oh, gO, by omega, by omega, fun v hv H5 d5 => ?_⟩
    obtain ⟨cq, cw, hcw, rfl, gq3⟩ := lls_mem hu3 hv
    have gq5 := d5.2 _ _ (hH3.ne_iv gq3) gq3
    have cqh := d5.1.ne_iv gq5
    obtain ⟨k1, k2, k3, k4, k5⟩ := CMg_ok cw hcw
    refine ⟨a, c, cq, cw.map Int.toNat, n + 1, rfl, d5.1, cqh, by rw [← k1]; exact gq5, by omega, k3, by omega, by omega, fun p H6 ws_ wl ks hp6 d6 gp6 L6 pok => ?_⟩
    have rok := pok.ok (by omega)
    have due := many_plain pok (by omega)
    rw [k5] at due
    have d06 : Kept a H H6 := (Kept.of s03).trans (d5.2.trans d6.2)
    refine at_set ?_
    try dsimp only
    refine ⟨_, rfl, p, ws_, wl, rfl, gp6, L6, rok, fun rp H9 xs9 s9 R9 => ?_⟩
    refine at_set ?_
    try dsimp only
    obtain ⟨l1, l4, hne, l24, hl_, hb⟩ := id rok
    have lsew : (sewF wl).length = 720 := by rw [← due]; exact mates_len hl_ l24 (bal_of pok)
    refine ⟨_, rfl, rp, xs9, wl, rfl, R9, rok, by omega, by omega, fun qc HA sA KA => ?_⟩
    refine ⟨_, rfl, rp, xs9, wl, rfl, R9.same sA, rok, by omega, by omega, fun q5 HB sB ⟨ss, B5, A5⟩ => ?_⟩
    refine ⟨by show 2 ≤ sizeLine; decide, fun t ht => ?_⟩
    have sT := same_upd (o := .tup [.ref qc, .ref q5]) ht
    refine ⟨t, _, rfl, SqT.of upd_same, rfl, _, _, rfl, _, _, rfl, rfl, ?_⟩
    have s0C := (s9.trans sA).trans (sB.trans sT)
    have KC := KA.same (sB.trans sT)
    have BC := SqB.same sT B5
    have AC := A5.imp fun v r ⟨p, e, h⟩ => (⟨p, e, h.same sT⟩ : ∃ p, v = V.ref p ∧ SewAt K C CR CS (L2.upd HB t (.tup [.ref qc, .ref q5])) p rp xs9 wl (nats r))
    have RC := R9.same (sA.trans (sB.trans sT))
    have gpC := s0C _ _ gp6
    have LC := L6.same s0C
    have hHC := d6.1.same s0C
    generalize L2.upd HB t (.tup [.ref qc, .ref q5]) = HC at sT s0C KC BC AC RC gpC LC hHC ⊢
    try dsimp only
    -- the counts add up
    obtain ⟨cv, cB, cA⟩ := KC
    have lcv := cA.length
    have rng : ∀ c ∈ costsF wl, -24 ≤ c ∧ c ≤ 12 := fun c hc => by
      obtain ⟨r, _, rfl⟩ := List.mem_map.mp hc
      exact cost_rng l24
    have lcost : (costsF wl).length = 720 := by unfold costsF; rw [List.length_map]; exact lsew
    have lcen : (censusF wl).length ≤ 64 := by
      unfold censusF dsF
      rw [List.length_map]
      refine Nat.le_trans (List.length_filter_le _ _) ?_
      rw [List.length_map, List.length_range]
      exact Nat.le_refl _
    refine STP.seq (STP.ifS (STP.or (STP.test (STP.op (STP.cb (STP.cons (STP.lc ?_)))))))
    refine ⟨_, rfl, qc, rfl, ⟨_, cB.sq⟩, ?_⟩
    refine lcM (walk_tup (K := K) (a := qc) (xs := cv)) (censusF wl) (fun _ _ v b => v = V.int b.2) (fun _ _ _ _ _ h _ => h) (fun _ _ _ _ _ _ _ h => h) (by omega) lcv (fun H s => (SqB.same s cB).sq) ?_ (fun x σ1 H A B k h => gTup_mono k h) ?_
    · intro i x b hx hb D H2 hD _ s2 Qy ky
      obtain ⟨b', hb', z, rfl, Sz⟩ := cA.at hx
      obtain rfl := Option.some.inj (hb'.symm.trans hb)
      refine ⟨z, _, rfl, WR.Same.seqT s2 Sz, rfl, _, _, rfl, _, _, rfl, rfl, ?_⟩
      exact ⟨rfl, _, rfl, ky _ H2 (fun _ _ e => e) rfl⟩
    intro D H2 us2 hD s2 gD rD
    have eD : us2 = iv ((censusF wl).map (·.2)) := all_ints (by
      have : ∀ {us : List V} {cs : List (Int × Int)}, All2 (fun v (b : Int × Int) => v = V.int b.2) us cs → All2 (fun v b => v = V.int b) us (cs.map (·.2)) := fun h => mapr_all2 h
      exact this rD)
    rw [eD] at gD
    refine ⟨D, _, rfl, SqL.of gD, ?_⟩
    rw [show ((censusF wl).map (·.2)).sum = 720 from (cns_sum rng).trans (by rw [lcost]; rfl)]
    refine ⟨rfl, _, rfl, iteF' (by rfl) ?_⟩
    refine ⟨_, rfl, rp, xs9, wl, rfl, RC.same s2, rok, fun H3 s3 => ?_⟩
    rw [due]
    refine ⟨rfl, _, rfl, iteF' (by rfl) ?_⟩
    have s23 := s2.trans s3
    have KC3 : CensAt K H3 qc (censusF wl) := CensAt.same ⟨cv, cB, cA⟩ s23
    have B3 := SqB.same s23 BC
    have A3 := AC.imp fun v r ⟨p, e, h⟩ => (⟨p, e, h.same s23⟩ : ∃ p, v = V.ref p ∧ SewAt K C CR CS H3 p rp xs9 wl (nats r))
    have gp3 := s23 _ _ gpC
    have L3 := LC.same s23
    have hH3' := hHC.same s23
    have lss : ss.length = (sewF wl).length := A3.length
    clear rD gD
    -- the law's own census
    refine STP.nx (STP.seq (STP.ifS (STP.test (STP.op (STP.var rfl (STP.call (STP.cons (STP.var rfl (STP.cons (STP.lc ?_))))))))))
    refine ⟨_, rfl, q5, rfl, ⟨_, B3.sq⟩, ?_⟩
    refine lcM (walk_tup (K := K) (a := q5) (xs := ss)) (sewF wl) (fun _ H v r => ∃ t, v = V.ref t ∧ SqB K H t (iv (nats r))) (fun _ _ _ _ _ ⟨t, e, h⟩ s => ⟨t, e, SqB.same s h⟩) (fun D H us o v b hD ⟨t, e, h⟩ => ⟨t, e, SqB.keptL hD Kept.upd h⟩) (by omega) lss (fun H s => (SqB.same s B3).sq) ?_ (fun _ _ _ _ _ => gName_mono) ?_
    · intro i x r hx hr2 D H6 hD _ s6 Qy ky
      obtain ⟨r', hr', sp, rfl, S5⟩ := A3.at hx
      obtain rfl : r' = r := Option.some.inj (hr'.symm.trans hr2)
      obtain ⟨dx, tm, tc, tp, h1, R1', h3, _⟩ := S5.same s6
      exact ⟨rfl, _, rfl, sp, CS, dx, _, _, rfl, h1, TS.cl, TS.n2, sf_mates, ky _ _ (Same.refl _) ⟨tm, rfl, h3⟩⟩
    intro D4 H4 us4 hD4 s4 g4 r4
    have r4b := all2_mem r4 fun v r hr ⟨t, e, h⟩ => (⟨t, e, .inr h.sq, (mates_ok hl_ hr).1.1⟩ : ∃ t, v = V.ref t ∧ SqE K H4 t (iv (nats r)) ∧ MatesOk wl.flatten.length (nats r))
    refine ⟨p, D4, ws_, us4, wl, (sewF wl).map nats, rfl, s4 _ _ gp3, L3.same s4, hne, l24, g4, by rw [List.length_map]; omega, mapr_all2 r4b, fun qd H5_ s5 K5 => ?_⟩
    rw [List.map_map] at K5
    have s35 := s4.trans s5
    refine ⟨_, _, dp_cen (KC3.same s35), dp_cen K5, shaped_cen _, shaped_cen _, _, rfl, iteF' ?_ ?_⟩
    · rw [show cnsF (List.map ((fun mt => costF wl mt) ∘ nats) (sewF wl)) = censusF wl from rfl, eqv_cen]
      rfl
    have gp5 := s35 _ _ gp3
    have L5 := L3.same s35
    have hH5 := hH3'.same s35
    have B5_ := SqB.same s35 B3
    have A5_ := A3.imp fun v r ⟨p, e, h⟩ => (⟨p, e, h.same s35⟩ : ∃ p, v = V.ref p ∧ SewAt K C CR CS H5_ p rp xs9 wl (nats r))
    have hpa : p ≠ a := d5.1.ne hp6
    clear r4 r4b g4 K5 KC3 A3 B3
    -- twelve of them
    refine STP.nx (STP.seq (STP.asg (STP.lc ?_)))
    refine ⟨12, rfl, by decide, by decide, fun D hD => ?_⟩
    have hDa := hH5.ne hD
    have hDc := hH5.neC hD
    refine lc_range (lo := 0) (n := (12 : Int).toNat) (fun i H' => Drew a c (n + 1 + 200 + i) H5_ H' ∧ ∃ vs, H' D = some (.lst vs) ∧ vs.length = i ∧ ∀ v ∈ vs, v ∈ ss) ⟨(Drew.refl hH5).new hD, [], upd_same, rfl, fun _ h => nomatch h⟩ ?_ ?_
    · rintro i H7 hi ⟨D7, vs, gD, lv, hv⟩
      have hi4 : i < 12 := hi
      obtain ⟨zs, hz⟩ := HandAt.lst0 hH5
      refine ⟨rfl, yes_te ?_⟩
      refine ⟨_, rfl, _, rfl, a, c, q5, ss, n + 1 + 200 + i, rfl, D7.1, by omega, SqT.keptL hz D7.2 B5_.sq, by omega, by omega, fun j v hj H8 D8 => ?_⟩
      have gD8 := D8.2 _ _ hDa gD
      refine ⟨vs, gD8, Evl.sz_lt (by omega), (D7.trans D8).put hD hDa hDc, vs ++ [v], upd_same, by rw [List.length_append, lv]; rfl, fun w hw => ?_⟩
      rcases List.mem_append.mp hw with hw | hw
      · exact hv w hw
      · rw [List.mem_singleton.mp hw]
        exact List.mem_of_getElem? hj
    rintro H6 ⟨D6, vs, gD, lv, hv⟩
    have lv12 : vs.length = 12 := lv
    have gp6_ := D6.2 _ _ hpa gp5
    have L6_ : LLs H6 ws_ wl := L5.imp fun v w ⟨q, e, g⟩ => ⟨q, e, D6.2 _ _ (hH5.ne_iv g) g⟩
    obtain ⟨zs5, hz5⟩ := HandAt.lst0 hH5
    have B6_ := SqB.keptL hz5 D6.2 B5_
    have A6_ := A5_.imp fun v r ⟨p, e, h⟩ => (⟨p, e, h.kept0 hz5 D6.2⟩ : ∃ p, v = V.ref p ∧ SewAt K C CR CS H6 p rp xs9 wl (nats r))
    refine STP.name ?_
    dsimp only
    refine STP.seq (STP.ifS (STP.or (STP.test (STP.op (STP.cb ?_)))))
    refine ⟨_, rfl, q5, ss, rfl, .inr B6_.sq, rfl, _, rfl, iteF' (by rw [lss, lsew]; rfl) ?_⟩
    refine STP.test (STP.op (STP.lc ?_))
    refine ⟨_, rfl, D, rfl, ⟨_, SqL.of gD⟩, ?_⟩
    refine lcp (walk_list (K := K) (a := D) (xs := vs)) (fun _ => false) (fun v => v) (by omega) (fun H s => SqL.of (s _ _ gD)) ?_ ?_
    · intro x hx H7 s7 Qy Qn ky kn
      obtain ⟨r, hr, sp, rfl, S7⟩ := All2.mem A6_ (hv x hx)
      have S8 := S7.same s7
      obtain ⟨dx, tm, tc, tp, h1, R1', h3, hc, _⟩ := id S8
      refine ⟨rfl, _, rfl, sp, CS, dx, _, _, rfl, h1, TS.cl, TS.n3, sf_corners, _, rfl, _, rfl, sp, CS, dx, _, _, rfl, h1, TS.cl, TS.n2, sf_mates, p, tm, ws_, wl, nats r, rfl, s7 _ _ gp6_, L6_.same s7, hne, by omega, .inr h3.sq, (mates_ok hl_ hr).1.1, fun q H8 s8 C8 => ?_⟩
      refine ⟨_, _, dp_corn (hc.same s8), dp_corn C8, shaped_ltT _, shaped_ltT _, _, rfl, iteF' (by rw [eqv_ltT]; rfl) (kn rfl _ s8)⟩
    intro D8 H8 hD8 s8 g8
    rw [show (vs.filter fun _ => false).map (fun v => v) = [] by simp] at g8
    refine ⟨Nat.zero_le _, fun p9 hp9 => ?_⟩
    have s9' := same_upd (o := .lst []) hp9
    refine ⟨.list [], .list [], .lst (SqL.of (s9' _ _ g8)) .nil, .lst (SqL.of upd_same) .nil, rfl, rfl, _, rfl, iteF' (by rfl) ?_⟩
    have s89 := s8.trans s9'
    generalize L2.upd H8 p9 (.lst []) = H9' at s89 ⊢
    clear s9' g8
    have B9 := SqB.same s89 B6_
    have A9 := A6_.imp fun v r ⟨p, e, h⟩ => (⟨p, e, h.same s89⟩ : ∃ p, v = V.ref p ∧ SewAt K C CR CS H9' p rp xs9 wl (nats r))
    -- ascending
    refine STP.nx (STP.ret (STP.op (STP.lc ?_)))
    refine ⟨_, rfl, _, rfl, 1, rfl, q5, ss, rfl, B9, fun pz Hz sz Bz => ?_⟩
    refine ⟨q5, pz, ss, cutV ss (some 1) none, rfl, .inr ⟨(SqB.same sz B9).sq, Bz.sq, ?_⟩⟩
    rw [cut_one] at Bz
    have Az := A9.imp fun v r ⟨p, e, h⟩ => (⟨p, e, h.same sz⟩ : ∃ p, v = V.ref p ∧ SewAt K C CR CS Hz p rp xs9 wl (nats r))
    have Bq := SqB.same sz B9
    refine lcF (walk_zipT (K := K) (a := q5) (b := pz) (xs := ss) (ys := ss.drop 1) rfl) (fun i H x H' ⟨T, x', y', h1, h2, h3, _⟩ => by rw [h3]; exact same_upd h2) (fun _ => (none : Option Unit)) (fun _ _ _ _ => False) (fun _ _ _ _ _ h _ => h) (fun _ _ _ _ _ _ _ h => h) (by rw [List.length_drop]; omega) (fun H s => ⟨(SqB.same s Bq).sq, (SqB.same s Bz).sq⟩) ?_ ?_
    · rintro i x H4 H5 hi s4' ⟨T, x', y', rfl, hT, rfl, hx', hy'⟩ D2 hD2 _ Qy Qn ky kn
      rw [List.length_drop] at hi
      have sT4 := same_upd (o := .tup [x', y']) hT
      have s45 := s4'.trans sT4
      obtain ⟨r1, hr1, sp1, rfl, S1⟩ := Az.at hx'
      replace hy' : ss[i + 1]? = some y' := by rw [Nat.add_comm, ← List.getElem?_drop]; exact hy'
      obtain ⟨r2, hr2, sp2, rfl, S2⟩ := Az.at hy'
      obtain ⟨dx, tm, tc, tp, h1, _, h3, _⟩ := S1.same s45
      obtain ⟨dx2, tm2, tc2, tp2, j1, _, j3, _⟩ := S2.same s45
      refine ⟨T, _, rfl, SqT.of upd_same, rfl, _, _, rfl, _, _, rfl, rfl, ?_⟩
      refine ⟨rfl, _, rfl, sp1, CS, dx, _, _, rfl, h1, TS.cl, TS.n2, sf_mates, _, rfl, sp2, CS, dx2, _, _, rfl, j1, TS.cl, TS.n2, sf_mates, tm, tm2, nats r1, nats r2, rfl, rfl, h3.sq, j3.sq, _, rfl, ?_⟩
      have lx : lexL (nats r1) (nats r2) = true := by
        have i1 := (List.getElem?_eq_some_iff.mp hr1)
        have i2 := (List.getElem?_eq_some_iff.mp hr2)
        obtain ⟨i1, e1⟩ := i1
        obtain ⟨i2, e2⟩ := i2
        have pw := List.pairwise_iff_getElem.mp (mates_asc hl_) i (i + 1) i1 i2 (Nat.lt_succ_self i)
        rw [← e1, ← e2]
        exact pw
      rw [lx]
      exact kn rfl _ (Same.refl _)
    intro D2 H2' us2 hD2 s2' g2' r2'
    rw [show (List.range (min ss.length (ss.drop 1).length)).filterMap (fun _ => (none : Option Unit)) = [] by simp] at r2'
    cases r2'
    refine ⟨Nat.zero_le _, fun p2 hp2 => ?_⟩
    have sE := same_upd (o := .lst []) hp2
    refine ⟨.list [], .list [], .lst (SqL.of (sE _ _ g2')) .nil, .lst (SqL.of upd_same) .nil, rfl, rfl, ?_⟩
    have dAll : Drew a c (n + 300) H6 (L2.upd H2' p2 (.lst [])) := ⟨((D6.1.same (s89.trans (sz.trans (s2'.trans sE)))).mono (by omega)), Kept.of (s89.trans (sz.trans (s2'.trans sE)))⟩
    exact k _ ⟨dAll.1, ((d06.trans (Kept.of (s0C.trans (s23.trans s35)))).trans D6.2).trans dAll.2⟩
end
end W13
set_option Elab.async false
set_option linter.all false
set_option maxRecDepth 100000
set_option maxHeartbeats 1000000
namespace RG
open PySem L2 PySem.Spec PyProof.Rows
section
variable {P : Program} {w : World} {K : PySem.W.Frag} {s : Shared} {a : Addr} {vs : List Value} {ns : List Int} {cs : List (Addr × Addr)}
def tblO : Obj := { cls := .none, data := .fields #[] }
/-- the script and the tables -/
def startT (K : PySem.W.Frag) (cs : List (Addr × Addr)) (a : Addr) (vs : List Value) (ns : List Int) : Hp := fun b => if b ∈ cs.map (·.2) then some (.tbl #[]) else startH K a vs ns b
structure Tbls (K : PySem.W.Frag) (h : Heap) (cs : List (Addr × Addr)) : Prop where
  at_ : ∀ p ∈ cs, h.get? p.2 = some tblO
  out : ∀ p ∈ cs, K.lookup p.2 = none
  hd : ∀ p ∈ cs, PySem.W.CodeHd h p.1 p.2
theorem startT_in {b : Addr} (h : b ∈ cs.map (·.2)) : startT K cs a vs ns b = some (.tbl #[]) := if_pos h
theorem startT_out {b : Addr} (h : b ∉ cs.map (·.2)) : startT K cs a vs ns b = startH K a vs ns b := if_neg h
theorem Tbls.mem {h : Heap} (T : Tbls K h cs) {b : Addr} (hb : b ∈ cs.map (·.2)) : h.get? b = some tblO ∧ K.lookup b = none := by
  obtain ⟨p, hp, rfl⟩ := List.mem_map.mp hb
  exact ⟨T.at_ p hp, T.out p hp⟩
/-- what is neither a list nor a table is not told of -/
theorem startT_no (T : Tbls K s.heap cs) (at_ : s.heap.get? a = some (scriptO vs)) {b : Addr} {o : Obj} (e : s.heap.get? b = some o) (n1 : ∀ xs n, o.data ≠ .seq xs n) (n2 : o.data ≠ .fields #[]) : startT K cs a vs ns b = none := by
  by_cases hb : b ∈ cs.map (·.2)
  · have := (T.mem hb).1
    rw [e] at this
    cases this
    exact absurd rfl n2
  · rw [startT_out hb]
    cases q : startH K a vs ns b with
    | none => rfl
    | some u =>
      obtain ⟨rfl, _⟩ := startH_some q
      rw [at_] at e
      cases e
      exact absurd rfl (n1 _ _)
theorem startT_ns (T : Tbls K s.heap cs) (at_ : s.heap.get? a = some (scriptO vs)) {b : Addr} {m : Str → Option Value} (h : s.heap.Ns b m) : (hidT s.heap (startT K cs a vs ns)).Ns b m := by
  obtain ⟨o, es, ep, get, data, rest⟩ := h
  exact ⟨o, es, ep, hidT_get get (startT_no T at_ get (fun xs n z => by rw [data] at z; cases z) fun z => by rw [data] at z; cases z), data, rest⟩
theorem startT_kin (T : Tbls K s.heap cs) (KX : K.In s.heap) : K.In (hidT s.heap (startT K cs a vs ns)) := fun b o e => by
  refine hidT_get (KX b o e) ?_
  have hb : b ∉ cs.map (·.2) := fun z => by
    rw [(T.mem z).2] at e
    cases e
  rw [startT_out hb]
  cases q : startH K a vs ns b with
  | none => rfl
  | some u =>
    obtain ⟨rfl, none_, _⟩ := startH_some q
    rw [none_] at e
    cases e
theorem startT_ok (T : Tbls K s.heap cs) (at_ : s.heap.get? a = some (scriptO vs)) (whole : IntsAre vs ns) (few : ns.length ≤ sizeLine) : HOk P w (startT K cs a vs ns) s.heap := fun b u h => by
  by_cases hb : b ∈ cs.map (·.2)
  · rw [startT_in hb] at h
    cases h
    exact (T.mem hb).1
  · rw [startT_out hb] at h
    obtain ⟨rfl, _, rfl⟩ := startH_some h
    exact ⟨at_, (by rw [List.length_map]; exact few), vs, _, vals_ints whole, at_⟩
theorem startT_seq (T : Tbls K s.heap cs) (KX : K.In s.heap) (at_ : s.heap.get? a = some (scriptO vs)) (whole : IntsAre vs ns) (few : ns.length ≤ sizeLine) : SqL K (startT K cs a vs ns) a (ns.map V.int) := by
  have ha : a ∉ cs.map (·.2) := fun z => by
    have := (T.mem z).1
    rw [at_] at this
    have z' : Data.seq vs.toArray _ = Data.fields #[] := congrArg Obj.data (Option.some.inj this)
    cases z'
  rcases startH_seq KX at_ whole few with h | h
  · refine .inl ?_
    rcases h with h | ⟨o, h⟩
    · exact .inl ((startT_out ha).trans h)
    · exact .inr ⟨o, (startT_out ha).trans h⟩
  · exact .inr h
theorem startT_tab (T : Tbls K s.heap cs) (at_ : s.heap.get? a = some (scriptO vs)) {mg : Str → Option Value} (top : s.heap.Ns mainGlobals mg)
    (hbm : ∃ (bm : Addr) (ob : Obj), mg "__builtins__" = some (.ref bm) ∧ bm ≠ builtinsNs ∧ s.heap.get? bm = some ob ∧ ob.cls = .type "module" ∧ ob.dict = some builtinsNs ∧ ob.data = .plain) : ∀ p ∈ cs, LamX.TabB (hidT s.heap (startT K cs a vs ns)) mg p.1 p.2 := fun p hp => by
  have tp := T.at_ p hp
  obtain ⟨go, ges, gep, gget, gdata, _⟩ := top
  obtain ⟨bm, ob, b1, b2, b3, b4, b5, b6⟩ := hbm
  constructor
  · obtain ⟨o, us, file, tf, flags, tg, inF, text, tt, e1, r1, r2, r3, rest⟩ := T.hd p hp
    refine ⟨o, us, file, tf, flags, tg, inF, text, tt, hidT_get e1 (startT_no T at_ e1 (fun xs n z => by rw [r2] at z; cases z) fun z => ?_), r1, r2, r3, rest⟩
    rw [r2] at z
    cases z
    simp at r3
  · refine ⟨bm, ob, b1, b2, fun q => ?_, fun q => ?_, hidT_get b3 (startT_no T at_ b3 (fun xs n z => by rw [b6] at z; cases z) fun z => by rw [b6] at z; cases z), b4, b5, b6⟩
    · rw [q, gget] at b3
      cases b3
      rw [gdata] at b6
      cases b6
    · rw [q, tp] at b3
      cases b3
      cases b6
  · intro z
    rw [z, tp] at gget
    cases gget
    cases gdata
theorem law_callGT {mg mb : Str → Option Value} {k : Nat} {fa : Addr} {fd : FuncData} {x : Str} {sp : Sp} (KX : K.In s.heap) (top : s.heap.Ns mainGlobals mg) (bi : s.heap.Ns builtinsNs mb) (bib : ∀ x : Str, x ≠ "__name__" → mb x = bootBuiltins x) (lim : s.heap.NoLimit) (gens : s.gens = #[])
    (T : Tbls K s.heap cs) (hbm : ∃ (bm : Addr) (ob : Obj), mg "__builtins__" = some (.ref bm) ∧ bm ≠ builtinsNs ∧ s.heap.get? bm = some ob ∧ ob.cls = .type "module" ∧ ob.dict = some builtinsNs ∧ ob.data = .plain)
    (at_ : s.heap.get? a = some (scriptO vs)) (whole : IntsAre vs ns) (few : ns.length ≤ sizeLine) (room : Room k callerA) (F : ∀ base : Heap, K.In base → base.Ns mainGlobals mg → (∀ p ∈ cs, LamX.TabB base mg p.1 p.2) → FnG P w K mg base k fa fd [x] sp)
    (bind : ∀ (s : Shared) (u : Value), BindsTo s fd ⟨[u], []⟩ [(x, u)]) (ask : ∀ H : Hp, (∀ p ∈ cs, H p.2 = some (.tbl #[])) → SqL K H a (ns.map V.int) → sp [.ref a] H (fun v _ => v = .bl true) E0) :
    codeAny (model P w) callerA (.call (.ref fa) ⟨[.ref a], []⟩) (fun r s' => r = .ok (.ret (.bool true)) ∧ OldK s.heap s'.heap ∧ s'.os = s.os ∧ AllBare s'.gens) s := by
  have kin := startT_kin (a := a) (vs := vs) (ns := ns) T KX
  have top' := startT_ns (ns := ns) T at_ top
  obtain ⟨mc, l1, l2⟩ := lim
  have env : Env0 P w K mg (hidT s.heap (startT K cs a vs ns)) callerA [] s (startT K cs a vs ns) :=
    { frames := rfl, mod := ⟨kin, top', ⟨mb, startT_ns T at_ bi, bib⟩, ⟨mc, startT_ns T at_ l1, l2⟩⟩, bs := fun _ _ => of_hidT, bsz := Nat.le_of_eq (hidT_size _ _), funs := trivial, frf := (fun b hb => nomatch (show b ∈ ([] : List Addr) from hb)), hok := startT_ok T at_ whole few, bare := AllBare.of_eq gens }
  refine codeAny_mono ((F _ kin top' (startT_tab T at_ top hbm)).does callerA [] s _ ⟨[.ref a], []⟩ [.ref a] [.ref a] _ _ rfl room env (bind s (.ref a)) (.cons rfl .nil) (ask _ (fun p hp => startT_in (List.mem_map.mpr ⟨p, hp, rfl⟩)) (startT_seq T KX at_ whole few))) ?_
  intro r t z
  match r, z with
  | .ok (.ret u), ⟨v, G, os, bare, un, ok', rel, (q : v = .bl true)⟩ =>
    subst q
    obtain rfl : u = Value.bool true := rel
    -- what is told of at the end stands as it is told
    have stay : ∀ b o, b ∉ cs.map (·.2) → s.heap.get? b = some o → t.heap.get? b = some o := fun b o hb get => by
      cases c : startT K cs a vs ns b with
      | none => exact un.keep b o get c (fun m => nomatch (show b ∈ ([] : List Addr) from m)) (fun m => nomatch m)
      | some u =>
        have c2 := (startT_out hb).symm.trans c
        obtain ⟨rfl, _, rfl⟩ := startH_some c2
        have eo : o = scriptO vs := Option.some.inj (get.symm.trans at_)
        rw [eo]
        exact (ok' b _ (un.frzs b _ _ c)).1
    have more : ∀ p ∈ cs, ∃ es : Array Value, t.heap.get? p.2 = some { cls := .none, data := .fields es } := fun p hp => by
      obtain ⟨es, z⟩ := un.tbls p.2 #[] (startT_in (List.mem_map.mpr ⟨p, hp, rfl⟩))
      exact ⟨_, ok' p.2 _ z⟩
    refine ⟨rfl, ⟨fun b o get => ?_, fun b o get => ?_⟩, os, bare⟩
    · by_cases hb : b ∈ cs.map (·.2)
      · obtain ⟨p, hp, rfl⟩ := List.mem_map.mp hb
        obtain ⟨es, he⟩ := more p hp
        have e2 := T.at_ p hp
        rw [get] at e2
        cases e2
        exact .inr (.inl ⟨((T.hd p hp).tab get).isCodeTable, rfl, #[], es, rfl, by rw [Array.empty_append]; exact he⟩)
      · exact .inl (stay b o hb get)
    · by_cases hb : b ∈ cs.map (·.2)
      · obtain ⟨p, hp, rfl⟩ := List.mem_map.mp hb
        obtain ⟨es, he⟩ := more p hp
        exact ⟨_, he⟩
      · exact ⟨o, stay b o hb get⟩
end
/-- what is known of the law at the head's heap h -/
def LawAtG (l : PySem.W.OpenLaw) (w : World) (K : PySem.W.Frag) (k n : Nat) (x : Str) (mg : Str → Option Value) (fa : Addr) (h : Heap) : Prop :=
  ∃ (fd : FuncData) (cs : List (Addr × Addr)) (sp : Sp), Tbls K h cs ∧ (∀ (s : Shared) (u : Value), BindsTo s fd ⟨[u], []⟩ [(x, u)]) ∧
    (∀ (H : Hp) (a : Addr) (ns : List Int), ns.length ≤ n → (∀ p ∈ cs, H p.2 = some (.tbl #[])) → SqL K H a (ns.map V.int) → sp [.ref a] H (fun v _ => v = .bl true) E0) ∧
    ∀ base : Heap, K.In base → base.Ns mainGlobals mg → (∀ p ∈ cs, LamX.TabB base mg p.1 p.2) → FnG l.prog w K mg base k fa fd [x] sp
theorem walkGT {l : PySem.W.OpenLaw} {n k : Nat} {q : Program} {loose : List Str} {XP : (Str → Option Value) → Heap → Prop} {YP : World → Heap → Prop} {d : DefRec} {K : Params → PySem.W.Frag} {x : Str} (hn : l.most = some n) (hz : n ≤ sizeLine) (hdf : d.params.defaults = []) (room : Room k callerA)
    (hY : ∀ (w : World) (h : Heap), YP w h → (K w.params).In h)
    (F : ∀ (w : World) (mg : Str → Option Value) (fa : Addr) (h : Heap), YP w h → (K w.params).In h → h.Ns mainGlobals mg → mg d.name = some (.ref fa) → LawAtG l w (K w.params) k n x mg fa h) : PySem.W.WalkO q loose XP YP l.row.toRowW d [] (fun f vs => PySem.call f vs) := by
  refine Att.attach_callB hn hdf fun w s0 s mg mb fa o pm cd doc a vs ns G Y _ _ _ hm at_ whole few _ gens => ?_
  obtain ⟨fd, cs, sp, T, bind, ask, B⟩ := F w mg fa _ Y (hY w _ Y) G.T.g hm
  exact law_callGT (hY w _ Y) G.T.g G.T.b G.T.builtins G.T.nolimit gens T G.T.bmain at_ whole (Nat.le_trans few hz) room B bind fun H hH hS => ask H a ns few hH hS
end RG
set_option Elab.async false
set_option linter.all false
set_option maxRecDepth 100000
set_option maxHeartbeats 1000000
namespace W13
open PySem L2 PySem.Spec PyProof.Rows WR WB WE WS
theorem plF_le {z : Int} (hz : 1 ≤ z) {m : Nat} : ∀ {zs : List (Int × Nat)}, (zs.map (·.1)).Nodup → (∀ p ∈ zs, 1 ≤ p.1 ∧ p.2 ≤ m) → (plF zs).count z ≤ m
  | [], _, _ => Nat.zero_le _
  | (k, c) :: r, nd, h => by
    rw [List.map_cons, List.nodup_cons] at nd
    obtain ⟨hk, hc⟩ := h (k, c) List.mem_cons_self
    have hr : ∀ p ∈ r, 1 ≤ p.1 ∧ p.2 ≤ m := fun p hp => h p (List.mem_cons_of_mem _ hp)
    have e : (plF ((k, c) :: r)).count z = (if z = k then c else 0) + (plF r).count z := by
      show ((List.replicate c [k, -k]).flatten ++ plF r).count z = _
      rw [List.count_append, rep_cntP hk hz]
    rw [e]
    by_cases q : z = k
    · rw [if_pos q, plF_none hz fun p hp => ⟨(hr p hp).1, fun q2 => nd.1 (List.mem_map.mpr ⟨p, hp, q2.trans q⟩)⟩]
      exact hc
    · rw [if_neg q, Nat.zero_add]
      exact plF_le hz nd.2 hr
theorem cnt_le {cs : List Nat} {ws : List (List Int)} {ks : List Int} (h : PlainOk cs ws ks) (hc : cs.length ≤ 26) (hl : Lts ws.flatten) {m : Nat} (hm : ∀ c ∈ cs, c ≤ m) (l : Int) : ws.flatten.count l ≤ m := by
  have pos : ∀ z : Int, 1 ≤ z → ws.flatten.count z ≤ m := fun z hz => by
    rw [h.pm.count_eq]
    refine plF_le hz (List.Sublist.nodup (zip_sub ks cs) h.nd) fun p hp => ⟨(h.rg _ (List.of_mem_zip hp).1).1, hm _ (List.of_mem_zip hp).2⟩
  by_cases e1 : 1 ≤ l
  · exact pos l e1
  · by_cases e2 : l = 0
    · have n : l ∉ ws.flatten := fun z => by
        have := hl l z
        omega
      rw [List.count_eq_zero.mpr n]
      exact Nat.zero_le _
    · rw [bal_of h l]
      exact pos (-l) (by omega)
def CLs : List (List Int) := [[2, 1], [3], [2, 2], [3, 1], [1], [1, 1, 1], [3, 2], [4], [2, 2, 2], [3, 3], [2, 1, 1, 1], [4, 1]]
theorem CLs_ok : ∀ w ∈ CLs, w = nats (w.map Int.toNat) ∧ (w.map Int.toNat).length ≤ 4 ∧ 1 ≤ (w.map Int.toNat).sum ∧ (w.map Int.toNat).sum ≤ 12 ∧ dueN (w.map Int.toNat) ≤ 36 ∧ ∀ c ∈ w.map Int.toNat, c ≤ 4 := by decide +kernel
abbrev qLaw : Str := ("law" : Str) ++ ".<locals>." ++ "<lambda>"
def spLaw (K : PySem.W.Frag) (T : List (Addr × Str)) : Sp := fun vs H Q _ => ∃ (a : Addr) (ns : List Int), vs = [.ref a] ∧ SqL K H a (ns.map V.int) ∧ ns.length ≤ 63 ∧ LamX.Tabs T H ∧ ∀ H', Q (.bl true) H'
theorem seq_if {t : TT} {A B Cc : TS} {D : Ends} {σ : L2.St} {H : Hp} (h : ∀ N : L2.St → Hp → Prop, N = Cc D → t σ H fun b H1 => if b = true then A { D with nx := N } σ H1 else B { D with nx := N } σ H1) : tSeq (tIfS t A B) Cc D σ H := h _ rfl
structure XO (K : PySem.W.Frag) (CR : Addr) : Prop where
  nN : PySem.W.kitOne K (.type "NoneType") (.ref CR) = some false
  nI : PySem.W.kitOne K (.type "int") (.ref CR) = some false
  nB : PySem.W.kitOne K (.type "bool") (.ref CR) = some false
  nL : PySem.W.kitOne K (.type "list") (.ref CR) = some false
  nT : PySem.W.kitOne K (.type "tuple") (.ref CR) = some false
  nS : PySem.W.kitOne K (.type "str") (.ref CR) = some false
abbrev sLaw : Stmt := top 79
abbrev nLaw : List Str := ["_law_script", "_law_pen_here", "_law_turn", "_law_words", "_law_odd", "_law_heard"]
theorem scLaw : FnScope nLaw ["_law_script"] (defScope sLaw) := ⟨rfl, rfl, rfl, by decide +kernel, rfl, by decide +kernel, by decide +kernel⟩
section
variable {P : Program} {w : World} {K : PySem.W.Frag} {mg : Str → Option Value} {base : Heap} {C CR CS CBR CTM CH : Addr}
theorem ok_Law {f cd P1 g : Addr} {fd : FuncData} {TT : List (Addr × Str)} (F : FunC K "law" sLaw f cd fd) (N : TN mg) (T : TxW K mg C) (MW : MkW P w K mg base C) (XO_ : XO K CR) (BR : ErrC P w K mg base CBR "BadRims" ["self", "part"] (spI1 "part" CBR)) (TM : ErrC P w K mg base CTM "TooMany" ["self", "what", "most"] (spM2 CTM)) (Z : TwoE K mg CBR CTM CH) (G : FaultK K mg g) (TB : LamX.TabB base mg cd P1) (hT : (P1, qLaw) ∈ TT) (hu : ∀ p ∈ TT, p.1 = P1 → p.2 = qLaw)
    (G_pen : Cal P w K mg base "_law_pen" 1 ["_law_script"] (spHand K)) (G_draw : Cal P w K mg base "_law_draw" 1 ["_law_pen_here", "_law_many"] spTake) (G_pick : Cal P w K mg base "_law_pick" 2 ["_law_pen_here", "_law_some"] spPick) (G_plain : Cal P w K mg base "_law_plain" 4 ["_law_pen_here", "_law_counts"] spPlain)
    (G_LR : RG.CalG P w K mg base "_law_listed_right" 29 ["_law_words"] spLR) (G_MR : RG.CalG P w K mg base "_law_many_right" 31 ["_law_pen_here"] (spMR TT)) (G_GR : Cal P w K mg base "_law_great_right" 29 ["_law_pen_here"] spGR)
    (GC : CalX P w K mg base "census" 28 ["rims"] (spOr (spCens K C CR) (spAllSX K C CR CBR CTM))) (GA : CalX P w K mg base "all_sewings" 27 ["rims"] (spOr (spAllS K C CR CS) (spAllSX K C CR CBR CTM))) (GM : CalX P w K mg base "many_sewings" 5 ["rims"] (spOr (spMany K C CR) (spManyX K CR CBR))) :
    RG.FnG P w K mg base 32 f fd ["_law_script"] (spLaw K TT) := by
  refine F.okG scLaw (fun vs H Q E h => ?_) (fun A outer s H vs Q E hg hr h => ?_)
  · obtain ⟨a, ns, rfl, _⟩ := h
    rfl
  · obtain ⟨a, ns, rfl, hS, hlen, tT, k⟩ := h
    obtain ⟨oc, od, kV, doc, pm, cdv, ct, an, osl, lk, hcd⟩ := G.ex
    have bG : L2.Binds K (PySem.W.fnOf "_law_fault" "_law_fault" (defArgs sFault) (defBody sFault) (defScope sFault) .none kV doc pm an cdv ct) ["_law_ask"] [] := (fun_mk (st := sFault) lk hcd G.kp).binds (ps := ["_law_ask"]) fun _ _ _ _ _ _ us hl => match us, hl with | [_], _ => rfl
    refine ⟨_, pss_cons (ps_set (i := 1) scLaw.nd rfl (Or.inl rfl) (pe_cal G_pen hr (by decide) (by rfl) (pa_cons (pv 0) pa_nil)))
      (pss_cons (ps_for PassesOwn.never rfl (pi_range1 (by rfl) N.range (pa_cons pe_int pa_nil)) (pg_name (i := 2) scLaw.nd rfl (Or.inl rfl))
      (pss_cons (ps_set (i := 3) scLaw.nd rfl (Or.inl rfl) (pe_cal G_plain hr (by decide) (by rfl) (pa_cons (pv 1) (pa_cons (pe_cal G_pick hr (by decide) (by rfl) (pa_cons (pv 1) (pa_cons (pe_lst (pa_cons (pe_lst (pa_cons pe_int (pa_cons pe_int pa_nil))) (pa_cons (pe_lst (pa_cons pe_int pa_nil)) (pa_cons (pe_lst (pa_cons pe_int (pa_cons pe_int pa_nil))) (pa_cons (pe_lst (pa_cons pe_int (pa_cons pe_int pa_nil))) (pa_cons (pe_lst (pa_cons pe_int pa_nil)) (pa_cons (pe_lst (pa_cons pe_int (pa_cons pe_int (pa_cons pe_int pa_nil)))) (pa_cons (pe_lst (pa_cons pe_int (pa_cons pe_int pa_nil))) (pa_cons (pe_lst (pa_cons pe_int pa_nil)) (pa_cons (pe_lst (pa_cons pe_int (pa_cons pe_int (pa_cons pe_int pa_nil)))) (pa_cons (pe_lst (pa_cons pe_int (pa_cons pe_int pa_nil))) (pa_cons (pe_lst (pa_cons pe_int (pa_cons pe_int (pa_cons pe_int (pa_cons pe_int pa_nil))))) (pa_cons (pe_lst (pa_cons pe_int (pa_cons pe_int pa_nil))) pa_nil))))))))))))) pa_nil))) pa_nil))))
      (pss_one (ps_if (pt_not (pt_val (RG.pe_calG G_LR hg hr (by decide) (by rfl) (pa_cons (pv 3) pa_nil)))) (pss_one (ps_ret pe_bl)) pss_nil))))
      (pss_cons (ps_if (PW.pt (pw_or (pt_not (pt_val (RG.pe_calG G_MR hg hr (by decide) (by rfl) (pa_cons (pv 1) pa_nil)))) (pw_or1 (PW.pt (pw_and (pt_cmpR op_eq (pe_cal G_draw hr (by decide) (by rfl) (pa_cons (pv 1) (pa_cons pe_int pa_nil))) pe_int (nomark _)) (pw_and1 (pt_not (pt_val (pe_cal G_GR hr (by decide) (by rfl) (pa_cons (pv 1) pa_nil)))))))))) (pss_one (ps_ret pe_bl)) pss_nil)
      (pss_cons (ps_set (i := 4) scLaw.nd rfl (Or.inr rfl) (pe_cal G_pick hr (by decide) (by rfl) (pa_cons (pv 1) (pa_cons (pe_lst (pa_cons pe_non (pa_cons pe_int (pa_cons pe_str (pa_cons (pe_lst (pa_cons (pe_word MW T hr (by decide) (by rfl) (pa_cons (pe_lst (pa_cons pe_int (pa_cons (pe_un un_neg pe_int) pa_nil))) pa_nil)) pa_nil)) (pa_cons (pe_tupB pa_nil) (pa_cons pe_bl pa_nil))))))) pa_nil))))
      (pss_cons (ps_set (i := 5) scLaw.nd rfl (Or.inl rfl) (pe_lst (pa_cons (LamX.pe_lamcall (T := TT) (k := 29) (t := fun E => tCall (spOr (spAllS K C CR CS) (spAllSX K C CR CBR CTM)) [] E (tCons (tVar 4) tNil)) (by rfl) G.mg G.kp lk hcd bG scFault (by rfl) (Or.inl rfl) (fault_gives N BR TM Z (hr.mono (by decide))) TB rfl hT hu hr (LamX.lamS_by (sc := defScope sLaw) (by decide +kernel)) (by rfl) (fun q cl pm cv ctv => by rfl) (fun A outer s H E f c' hr2 => pe_calX GA hr2 (by decide) (passes_call (takes_of rfl rfl rfl rfl) (fun _ _ _ _ h => h)) (by rfl) (pa_cons (pv 4) pa_nil))) (pa_cons (LamD.pe_lamcallD (T := TT) (k := 29) (p1 := "_law_b1") (v0 := .int 0) (t := fun E => tCall (spOr (spCens K C CR) (spAllSX K C CR CBR CTM)) [] E (tCons (tVar 4) tNil)) (by rfl) G.mg G.kp lk hcd bG scFault (by rfl) (Or.inl rfl) (fault_gives N BR TM Z (hr.mono (by decide))) TB rfl hT hu hr (LamD.lamS1_by (sc := defScope sLaw) (by decide +kernel)) (show ("_law_b1" : Str) ∉ nLaw by decide) (by rfl) pe_int (fun q cl pm cv ctv u t => ⟨_, rfl, rfl⟩) (fun A outer s H E f c' hr2 => pe_calX GC hr2 (by decide) (passes_call (takes_of rfl rfl rfl rfl) (fun _ _ _ _ h => h)) (by rfl) (pa_cons (pv 4) pa_nil))) (pa_cons (LamD.pe_lamcallD (T := TT) (k := 29) (p1 := "_law_b2") (v0 := .int 0) (t := fun E => tCall (spOr (spMany K C CR) (spManyX K CR CBR)) [] E (tCons (tVar 4) tNil)) (by rfl) G.mg G.kp lk hcd bG scFault (by rfl) (Or.inl rfl) (fault_gives N BR TM Z (hr.mono (by decide))) TB rfl hT hu hr (LamD.lamS1_by (sc := defScope sLaw) (by decide +kernel)) (show ("_law_b2" : Str) ∉ nLaw by decide) (by rfl) pe_int (fun q cl pm cv ctv u t => ⟨_, rfl, rfl⟩) (fun A outer s H E f c' hr2 => pe_calX GM hr2 (by decide) (passes_call (takes_of rfl rfl rfl rfl) (fun _ _ _ _ h => h)) (by rfl) (pa_cons (pv 4) pa_nil))) pa_nil)))))
      (pss_one (ps_ret (pe_cmpR (op_eqD hr.units) (pv 5) (pe_op op_rep (pe_lst (pa_cons (pe_tup (pa_cons pe_str (pa_cons pe_str pa_nil))) pa_nil)) pe_int) (nomark _)))))))), ?_⟩
    refine ⟨_, rfl, a, ns, rfl, hS, by omega, fun H1 h c s1 hn cn hH1 => ?_⟩
    have t1 := tT.ext s1
    refine ⟨2, rfl, by decide, by decide, for_range (lo := 0) (n := 2) (fun i σ H' => (∃ v2 v3 : Option V, σ = [some (.ref a), some (.ref h), v2, v3, none, none]) ∧ HandAt H' h c (300 * i) ∧ LamX.Tabs TT H') ⟨⟨none, none, rfl⟩, hH1, t1⟩ ?_ ?_⟩
    · rintro i σ H2 hi ⟨⟨v2, v3, rfl⟩, hH2, t2⟩
      refine ⟨_, rfl, _, rfl, ar1 (lst_lits (cs := CLs) (lits_cons (liti_cons (liti_cons liti_nil)) (by decide) (lits_cons (liti_cons liti_nil) (by decide) (lits_cons (liti_cons (liti_cons liti_nil)) (by decide) (lits_cons (liti_cons (liti_cons liti_nil)) (by decide) (lits_cons (liti_cons liti_nil) (by decide) (lits_cons (liti_cons (liti_cons (liti_cons liti_nil))) (by decide) (lits_cons (liti_cons (liti_cons liti_nil)) (by decide) (lits_cons (liti_cons liti_nil) (by decide) (lits_cons (liti_cons (liti_cons (liti_cons liti_nil))) (by decide) (lits_cons (liti_cons (liti_cons liti_nil)) (by decide) (lits_cons (liti_cons (liti_cons (liti_cons (liti_cons liti_nil)))) (by decide) (lits_cons (liti_cons (liti_cons liti_nil)) (by decide) lits_nil)))))))))))) fun us H3 s3 hu => ⟨by rw [hu.length]; decide, fun O hO => ?_⟩)⟩
      have lu : us.length = 12 := hu.length
      have s4 := same_upd (o := .lst us) hO
      have gO : L2.upd H3 O (.lst us) O = some (.lst us) := upd_same
      have s24 := s3.trans s4
      have hH4 := hH2.same s24
      have Oh := (hH2.same s3).ne hO
      have hu4 := hu.same s4
      have t4 := t2.ext s24
      generalize L2.upd H3 O (.lst us) = H4 at s4 gO s24 hH4 hu4 t4 ⊢
      refine ⟨h, c, O, us, 300 * i, rfl, hH4, by omega, Oh, gO, by omega, by omega, fun v hv H5 d5 => ?_⟩
      obtain ⟨cq, cw, hcw, rfl, gq4⟩ := lls_mem hu4 hv
      have gq5 := d5.2 _ _ (hH4.ne_iv gq4) gq4
      have cqh := d5.1.ne_iv gq5
      have t5 := d5.tabs hH4 t4
      obtain ⟨k1, k2, k3, k4, k5, k6⟩ := CLs_ok cw hcw
      refine ⟨h, c, cq, cw.map Int.toNat, 300 * i + 1, rfl, d5.1, cqh, by rw [← k1]; exact gq5, by omega, k3, by omega, by omega, fun p H6 ws_ wl ks hp6 d6 gp6 L6 pok => ?_⟩
      have t6 := d6.tabs d5.1 t5
      have rok := pok.ok k4
      have bal : ∀ z, (wl.flatten.count z : Int) = wl.flatten.count (-z) := fun z => by rw [bal_of pok z]
      have due := many_plain pok (by omega)
      have lts := rok.2.2.2.2.1
      try dsimp only
      refine at_set ?_
      try dsimp only
      refine ⟨_, rfl, p, ws_, wl, rfl, gp6, L6, rok, bal, by omega, cnt_le pok (by omega) lts k6, fun H7 s7 => ⟨_, rfl, iteF ?_⟩⟩
      exact ⟨⟨_, _, rfl⟩, (d6.1.same s7).mono (by omega), t6.ext s7⟩
    rintro σ H2 ⟨⟨v2, v3, rfl⟩, hH2, t2⟩
    try dsimp only
    refine seq_if fun N hN => ?_
    have cont : ∀ H', HandAt H' h c 2000 → LamX.Tabs TT H' → N [some (.ref a), some (.ref h), v2, v3, none, none] H' := by
      intro H3 hH3 t3
      rw [hN]
      clear hN hH2 t2 hH1 t1 tT
      refine STP.seq (STP.asg (STP.call (STP.cons (STP.var rfl ?_))))
      refine ⟨_, rfl, by show 2 ≤ sizeLine; decide, fun l1 hl1 => ?_⟩
      have sa1 := same_upd (o := .lst [.int 1, .int (-1)]) hl1
      intro x1 dx1 nx1 ndx1 _
      refine make_at (ms := [1, -1]) nx1 ndx1 (.inl (SqL.of upd_same)) (by decide) (fun z hz => by simp at hz; rcases hz with rfl | rfl <;> decide) fun Ha sa Wa => ?_
      refine ⟨by show 1 ≤ sizeLine; decide, fun l2 hl2 => ?_⟩
      have sl := same_upd (o := .lst [.ref x1]) hl2
      refine ⟨Nat.zero_le _, fun t Ht st Bt => ?_⟩
      have s03 := (sa1.trans sa).trans (sl.trans st)
      have l2h : l2 ≠ h := (hH3.same (sa1.trans sa)).ne hl2
      have gl := st _ _ (show L2.upd Ha l2 (.lst [.ref x1]) l2 = some (.lst [.ref x1]) from upd_same)
      have hHt := hH3.same s03
      have tt := t3.ext s03
      refine ⟨by show 6 ≤ sizeLine; decide, fun O hO => ?_⟩
      have sO := same_upd (o := .lst [.non, .int 5, .str "a a'", .ref l2, .ref t, .bl true]) hO
      have gO : L2.upd Ht O (.lst [.non, .int 5, .str "a a'", .ref l2, .ref t, .bl true]) O = some (.lst [.non, .int 5, .str "a a'", .ref l2, .ref t, .bl true]) := upd_same
      have hHO := hHt.same sO
      have tO := tt.ext sO
      have glO := sO _ _ gl
      have BO := SqB.same sO Bt
      have Oh := hHt.ne hO
      generalize L2.upd Ht O (.lst [.non, .int 5, .str "a a'", .ref l2, .ref t, .bl true]) = HO_ at sO gO hHO tO glO BO ⊢
      refine ⟨h, c, O, _, 2000, rfl, hHO, by omega, Oh, gO, by show 0 < 6; decide, by show 6 ≤ 1000; decide, fun v hv Hh dh => ?_⟩
      have th := dh.tabs hHO tO
      obtain ⟨zs, hz⟩ := HandAt.lst0 hHO
      have glh := dh.2 _ _ l2h glO
      have Bh := SqB.keptL hz dh.2 BO
      have hNC : ∀ H2, LamX.ExtN Hh H2 → NotC K CR H2 v := by
        intro H2 x2
        simp only [List.mem_cons, List.mem_nil_iff, or_false] at hv
        rcases hv with rfl | rfl | rfl | rfl | rfl | rfl
        · exact ⟨_, .base .non, XO_.nN⟩
        · exact ⟨_, .base (.int _), XO_.nI⟩
        · exact ⟨_, .base (.str _), XO_.nS⟩
        · exact ⟨_, .base (.lst (x2 _ _ glh fun ps q => by cases q)), XO_.nL⟩
        · exact ⟨_, SqT.tyx (SqB.extN x2 Bh).sq, XO_.nT⟩
        · exact ⟨_, .base (.bl _), XO_.nB⟩
      clear hv
      refine at_set ?_
      dsimp only [List.set]
      refine ⟨th, fun H1 x1 t1 R hR => ?_⟩
      refine ⟨_, rfl, .inr ⟨_, rfl, .inl ⟨hNC H1 x1, ef_rims x1 t1 fun H2 q1 x2 t2 g2 => ?_⟩⟩⟩
      refine ⟨t2, fun H3 x3 t3 R2 hR2 => ?_⟩
      refine ⟨_, rfl, .inr ⟨_, rfl, .inl ⟨hNC H3 (x2.trans x3), ef_rims x3 t3 fun H4 q2 x4 t4 g4 => ?_⟩⟩⟩
      refine ⟨t4, fun H5 x5 t5 R3 hR3 => ?_⟩
      refine ⟨_, rfl, .inr ⟨_, rfl, hNC H5 ((x2.trans x4).trans x5), ef_rims x5 t5 fun H6 q3 x6 t6 g6 => ?_⟩⟩
      refine ⟨by show 3 ≤ sizeLine; decide, fun l hl => ?_⟩
      try dsimp only
      refine at_set ?_
      try dsimp only
      have gl3 : L2.upd H6 l (.lst [.ref q1, .ref q2, .ref q3]) l = some (.lst [.ref q1, .ref q2, .ref q3]) := upd_same
      have s5 := same_upd (o := .lst [.ref q1, .ref q2, .ref q3]) hl
      have k1_ := s5 _ _ (x6 _ _ (x4 _ _ g2 fun ps q => by cases q) fun ps q => by cases q)
      have k2_ := s5 _ _ (x6 _ _ g4 fun ps q => by cases q)
      have k3_ := s5 _ _ g6
      generalize L2.upd H6 l (.lst [.ref q1, .ref q2, .ref q3]) = H7 at gl3 s5 k1_ k2_ k3_ ⊢
      refine ⟨_, rfl, by show 2 ≤ sizeLine; decide, fun t ht => ⟨by show 1 ≤ sizeLine; decide, fun l1_ hl1 => ⟨l1_, 3, _, rfl, rfl, upd_same, by decide, by decide, by show 3 ≤ sizeLine; decide, fun pp hp => ?_⟩⟩⟩
      have sT := same_upd (o := .tup [.str "rims", .str "rims"]) ht
      have gT : L2.upd H7 t (.tup [.str "rims", .str "rims"]) t = some (.tup [.str "rims", .str "rims"]) := upd_same
      have sL := same_upd (o := .lst [.ref t]) hl1
      have sP := same_upd (o := .lst (List.replicate (3 : Int).toNat [V.ref t]).flatten) hp
      have sQ := (sT.trans sL).trans sP
      have gT2 := sP _ _ (sL _ _ gT)
      have dq : ∀ {q : Addr} {G : Hp}, G q = some (.tup [.str "rims", .str "rims"]) → Dp K G (.ref q) (.tuple [.str "rims", .str "rims"]) := fun g => .tup (SqT.of g) (.cons (.str _) (.cons (.str _) .nil))
      refine ⟨.list [.tuple [.str "rims", .str "rims"], .tuple [.str "rims", .str "rims"], .tuple [.str "rims", .str "rims"]], .list [.tuple [.str "rims", .str "rims"], .tuple [.str "rims", .str "rims"], .tuple [.str "rims", .str "rims"]], .lst (SqL.of (sQ _ _ gl3)) (.cons (dq (sQ _ _ k1_)) (.cons (dq (sQ _ _ k2_)) (.cons (dq (sQ _ _ k3_)) .nil))), .lst (SqL.of upd_same) (.cons (dq gT2) (.cons (dq gT2) (.cons (dq gT2) .nil))), by decide +kernel, by decide +kernel, ?_⟩
      rw [SeqAt.eqv_refl _ (by decide +kernel)]
      exact k _
    refine ⟨_, rfl, h, c, 300 * 2, rfl, hH2, by omega, t2, fun H3 h3 t3 => ⟨_, rfl, iteF ?_⟩⟩
    refine ⟨_, rfl, h, c, 8, _, rfl, h3, by omega, by decide, by decide, fun H4 q4 q40 q41 hH4 hK4 => ⟨rfl, _, rfl, ?_⟩⟩
    have t4 := tabs_kept h3 hK4 t3
    by_cases e : q4 = 0
    · refine iteT' (decide_eq_true (by rw [e])) ?_
      refine ⟨_, rfl, h, c, _, rfl, hH4, by omega, fun H5 d5 => ⟨_, rfl, iteF ?_⟩⟩
      exact cont _ (d5.1.mono (by omega)) (d5.tabs hH4 t4)
    · refine iteF' (decide_eq_false fun z => e (by injection z)) (iteF ?_)
      exact cont _ (hH4.mono (by omega)) t4
end
end W13
set_option Elab.async false
set_option linter.all false
set_option maxRecDepth 100000
set_option maxHeartbeats 1000000
namespace W13
open PySem L2 PySem.Spec PyProof.Rows WR WB WE WS
structure FF (K : PySem.W.Frag) (mg : Str → Option Value) (x : Str) (st : Stmt) : Prop where
  ex : ∃ (f : Addr) (oc : Value) (od : Option Addr) (kV doc pm cdv ct : Value) (an : Option Addr) (osl : Array (Option Value)),
    K.lookup f = some ⟨oc, od, .func (PySem.W.fnOf x x (defArgs st) (defBody st) (defScope st) .none kV doc pm an cdv ct), osl⟩ ∧ PySem.W.codeIn K cdv x = true ∧ PySem.W.keepIn K (.ref f) = true ∧ mg x = some (.ref f)
theorem ff_mk {K : PySem.W.Frag} {mg : Str → Option Value} {h : Heap} {x : Str} {st : Stmt} {f : Addr} {oc : Value} {od an : Option Addr} {kV doc pm cdv ct : Value} {osl : Array (Option Value)} (X : K.In h) (G : h.Ns mainGlobals mg)
    (a : PySem.W.nsIn K mainGlobals x = some (some (.ref f))) (l : K.lookup f = some ⟨oc, od, .func (PySem.W.fnOf x x (defArgs st) (defBody st) (defScope st) .none kV doc pm an cdv ct), osl⟩) (c : PySem.W.codeIn K cdv x = true) (k : PySem.W.keepIn K (.ref f) = true) : FF K mg x st :=
  ⟨f, oc, od, kV, doc, pm, cdv, ct, an, osl, l, c, k, PySem.W.mg_of X G a⟩
/-- a def in the class's body, held by the class -/
structure FM (K : PySem.W.Frag) (C : Addr) (m q : Str) (st : Stmt) : Prop where
  ex : ∃ (f : Addr) (oc : Value) (od : Option Addr) (kV doc pm cdv ct : Value) (an : Option Addr) (osl : Array (Option Value)),
    PySem.W.findIn K (.ref C) m = some (some (.ref f)) ∧ PySem.W.isFn K (.ref f) = true ∧
    K.lookup f = some ⟨oc, od, .func (PySem.W.fnOf m q (defArgs st) (defBody st) (defScope st) .none kV doc pm an cdv ct), osl⟩ ∧ PySem.W.codeIn K cdv q = true ∧ PySem.W.keepIn K (.ref f) = true
theorem fm_mk {K : PySem.W.Frag} {C : Addr} {m q : Str} {st : Stmt} {f : Addr} {oc : Value} {od an : Option Addr} {kV doc pm cdv ct : Value} {osl : Array (Option Value)}
    (a : PySem.W.findIn K (.ref C) m = some (some (.ref f))) (i : PySem.W.isFn K (.ref f) = true) (l : K.lookup f = some ⟨oc, od, .func (PySem.W.fnOf m q (defArgs st) (defBody st) (defScope st) .none kV doc pm an cdv ct), osl⟩) (c : PySem.W.codeIn K cdv q = true) (k : PySem.W.keepIn K (.ref f) = true) : FM K C m q st :=
  ⟨f, oc, od, kV, doc, pm, cdv, ct, an, osl, a, i, l, c, k⟩
section
variable {P : Program} {w : World} {K : PySem.W.Frag} {mg : Str → Option Value} {base : Heap} {x m q : Str} {C : Addr} {st : Stmt} {k : Nat} {ps ks : List Str} {sp : Sp}
theorem FF.cal (F : FF K mg x st) (ok : ∀ f fd, Fun K x x st f fd → FnOk P w K mg base CX0 k f fd ps sp)
    (hb : ∀ (kV doc pm : Value) (an : Option Addr) (cdv ct : Value) (us : List Value), us.length = ps.length → bindArgs (PySem.W.fnOf x x (defArgs st) (defBody st) (defScope st) .none kV doc pm an cdv ct) ⟨us, []⟩ = pure (ps.zip us)) : Cal P w K mg base x k ps sp := by
  obtain ⟨f, oc, od, kV, doc, pm, cdv, ct, an, osl, l, c, kp, m⟩ := F.ex
  exact ⟨f, _, ok f _ (fun_mk l c kp), m, kp, (fun_mk l c kp).binds hb⟩
/-- a def that calls itself: its promise may use where it stands -/
theorem FF.calR (F : FF K mg x st) (ok : ∀ f fd, Fun K x x st f fd → mg x = some (.ref f) → Binds K fd ps [] → FnOk P w K mg base CX0 k f fd ps sp)
    (hb : ∀ (kV doc pm : Value) (an : Option Addr) (cdv ct : Value) (us : List Value), us.length = ps.length → bindArgs (PySem.W.fnOf x x (defArgs st) (defBody st) (defScope st) .none kV doc pm an cdv ct) ⟨us, []⟩ = pure (ps.zip us)) : Cal P w K mg base x k ps sp := by
  obtain ⟨f, oc, od, kV, doc, pm, cdv, ct, an, osl, l, c, kp, m⟩ := F.ex
  exact ⟨f, _, ok f _ (fun_mk l c kp) m ((fun_mk l c kp).binds hb), m, kp, (fun_mk l c kp).binds hb⟩
/-- a class's __init__ -/
theorem FM.made (F : FM K C m q st) (hm : m = "__init__") (mks : PySem.W.makesIn K C = true) (kc : PySem.W.keepIn K (.ref C) = true) (ok : ∀ f fd, Fun K m q st f fd → FnOk P w K mg base CX0 k f fd ps sp)
    (hb : ∀ (kV doc pm : Value) (an : Option Addr) (cdv ct : Value) (us : List Value), us.length = ps.length → bindArgs (PySem.W.fnOf m q (defArgs st) (defBody st) (defScope st) .none kV doc pm an cdv ct) ⟨us, []⟩ = pure (ps.zip us)) : ∃ (f : Addr) (fd : FuncData), Mk K C f ∧ FnOk P w K mg base CX0 k f fd ps sp ∧ Binds K fd ps [] := by
  subst hm
  obtain ⟨f, oc, od, kV, doc, pm, cdv, ct, an, osl, a, i, l, c, kp⟩ := F.ex
  exact ⟨f, _, ⟨mks, a, i, kc⟩, ok f _ (fun_mk l c kp), (fun_mk l c kp).binds hb⟩
theorem FF.calX (F : FF K mg x st) (ok : ∀ f fd, Fun K x x st f fd → FnOk P w K mg base (L2.CX P w) k f fd ps sp)
    (hb : ∀ (kV doc pm : Value) (an : Option Addr) (cdv ct : Value) (us : List Value), us.length = ps.length → bindArgs (PySem.W.fnOf x x (defArgs st) (defBody st) (defScope st) .none kV doc pm an cdv ct) ⟨us, []⟩ = pure (ps.zip us)) : CalX P w K mg base x k ps sp := by
  obtain ⟨f, oc, od, kV, doc, pm, cdv, ct, an, osl, l, c, kp, m⟩ := F.ex
  exact ⟨f, _, ok f _ (fun_mk l c kp), m, kp, (fun_mk l c kp).binds hb⟩
theorem FF.calKX (F : FF K mg x st) (g : List Value → List Value) (gV : List V → List V) (ok : ∀ f fd, Fun K x x st f fd → FnOk P w K mg base (L2.CX P w) k f fd ps sp)
    (hb : ∀ (kV doc pm : Value) (an : Option Addr) (cdv ct : Value) (ws : List Value), ws.length = ks.length → bindArgs (PySem.W.fnOf x x (defArgs st) (defBody st) (defScope st) .none kV doc pm an cdv ct) ⟨[], ks.zip ws⟩ = pure (ps.zip (g ws)))
    (hr : ∀ {zs : List V} {ws : List Value}, Vals zs ws → Vals (gV zs) (g ws)) : CalKX P w K mg base x k ps ks gV sp := by
  obtain ⟨f, oc, od, kV, doc, pm, cdv, ct, an, osl, l, c, kp, m⟩ := F.ex
  refine ⟨f, _, g, ok f _ (fun_mk l c kp), m, kp, ⟨fun s us ws _ h0 h1 => ?_, fun _ r => hr r⟩⟩
  obtain rfl : us = [] := List.length_eq_zero_iff.mp h0
  exact .of_eq (hb kV doc pm an cdv ct ws h1)
end
/-- what is to be known of an error's class -/
structure ErrW (K : PySem.W.Frag) (mg : Str → Option Value) (C : Addr) (x q : Str) (st : Stmt) : Prop where
  oex : OexC K C
  xf : XfC K C
  ini : FM K C "__init__" q st
  ty : ∀ f : Addr, PySem.W.findIn K (.ref C) "__init__" = some (some (.ref f)) → PySem.W.typeIn K (.ref f) = some (.type "function")
  g : mg x = some (.ref C)
  te : PySem.W.exmOne K (.ref C) (.ref C) = some true
structure Names (mg : Str → Option Value) : Prop where
  isinstance : mg "isinstance" = none
  int : mg "int" = none
  bool : mg "bool" = none
  str : mg "str" = none
  list : mg "list" = none
  tuple : mg "tuple" = none
  all : mg "all" = none
  len : mg "len" = none
  abs : mg "abs" = none
  range : mg "range" = none
  sorted : mg "sorted" = none
  set : mg "set" = none
  enumerate : mg "enumerate" = none
  max : mg "max" = none
  min : mg "min" = none
  zip : mg "zip" = none
  repr : mg "repr" = none
  sum : mg "sum" = none
  kind : ∃ t, mg "MOST_KIND" = some (.int 26 t)
  most : ∃ t, mg "MOST_LETTERS" = some (.int 500 t)
  words : ∃ t, mg "MOST_WORDS" = some (.int 4 t)
  places : ∃ t, mg "MOST_PLACES" = some (.int 24 t)
  sews : ∃ t, mg "MOST_SEWINGS" = some (.int 720 t)
  factorial : mg "factorial" = some (.builtin "math.factorial")
structure Defs (K : PySem.W.Frag) (mg : Str → Option Value) (C CR CS : Addr) : Prop where
  d_sIsInt : FF K mg "is_integer" sIsInt
  d_sWithin : FF K mg "is_within" sWithin
  d_sLetter : FF K mg "is_letter" sLetter
  d_sListed : FF K mg "is_listed" sListed
  d_sAreI : FF K mg "are_integers" sAreI
  d_sShr : FF K mg "shortened_letters" sShr
  d_sRnd : FF K mg "rounded_letters" sRnd
  d_sKinds : FF K mg "kinds_of" sKinds
  d_sBalOf : FF K mg "balance_of" sBalOf
  d_sPaired : FF K mg "are_paired" sPaired
  d_sFill : FF K mg "fill_mates" sFill
  d_sAllM : FF K mg "all_mates" sAllM
  d_sJoined : FF K mg "joined" sJoined
  d_sFilled : FF K mg "is_filled" sFilled
  d_sFew : FF K mg "need_few_letters" sFew
  d_sNeedB : FF K mg "need_balanced" sNeedB
  d_sNeedR : FF K mg "need_rims" sNeedR
  d_sFewP : FF K mg "need_few_places" sFewP
  d_sNexts : FF K mg "nexts_of" sNexts
  d_sAreM : FF K mg "are_mates" sAreM
  d_sCorn : FF K mg "corners_of" sCorn
  d_sPieces : FF K mg "pieces_of" sPieces
  d_sMany : FF K mg "many_sewings" sMany
  d_sAllS : FF K mg "all_sewings" sAllS
  d_sCens : FF K mg "census" sCens
  d_sJar : FF K mg "_law_pen" sJar
  d_sDraw : FF K mg "_law_draw" sDraw
  d_sPick : FF K mg "_law_pick" sPick
  d_sMixed : FF K mg "_law_mixed" sMixed
  d_sCut : FF K mg "_law_cut" sCut
  d_sPlain : FF K mg "_law_plain" sPlain
  d_sLRims : FF K mg "_law_rims" sLRims
  d_sNx : FF K mg "_law_nexts" sNx
  d_sCorL : FF K mg "_law_corners" sCorL
  d_sLets : FF K mg "_law_letters" sLets
  d_sOrders : FF K mg "_law_orders" sOrders
  d_sAll : FF K mg "_law_all" sAll
  d_sFault : FF K mg "_law_fault" sFault
  d_sCns : FF K mg "_law_census" sCns
  d_sLR : FF K mg "_law_listed_right" sLR
  d_sGR : FF K mg "_law_great_right" sGR
  m_sInit : FM K C "__init__" "Word.__init__" sInit
  m_sEq : FM K C "__eq__" "Word.__eq__" sEq
  m_sInitR : FM K CR "__init__" "Rims.__init__" sInitR
  m_sEqR : FM K CR "__eq__" "Rims.__eq__" sEqR
  m_sInitS : FM K CS "__init__" "Sewing.__init__" sInitS
  m_sEqSx : FM K CS "__eq__" "Sewing.__eq__" sEqSx
structure ClsC (K : PySem.W.Frag) (mg : Str → Option Value) (C : Addr) : Prop where
  cl : Cls K C
  n1 : NoAttr K C "letters"
  n2 : NoAttr K C "length"
  n3 : NoAttr K C "kinds"
  n4 : NoAttr K C "is_short"
  n5 : NoAttr K C "is_short_round"
  ca : PySem.W.findIn K (.ref C) "__class__" = some (some (.builtin "object.__class__"))
  cm : PySem.W.mroIn K C (.type "object") = some true
  mks : PySem.W.makesIn K C = true
  kc : PySem.W.keepIn K (.ref C) = true
  mgC : mg "Word" = some (.ref C)
  cn : PySem.W.specialIn K (.builtin "object.__class__") "__get__" = some (some (.builtin "getset_descriptor.__get__"))
  ct : PySem.W.takesIn K (.builtin "object.__class__") = some true
structure ClsCR (K : PySem.W.Frag) (mg : Str → Option Value) (C : Addr) : Prop where
  cl : Cls K C
  n1 : NoAttr K C "words"
  n2 : NoAttr K C "letters"
  n3 : NoAttr K C "many"
  n4 : NoAttr K C "bands"
  n5 : NoAttr K C "is_short"
  n6 : NoAttr K C "homes"
  n7 : NoAttr K C "nexts"
  ca : PySem.W.findIn K (.ref C) "__class__" = some (some (.builtin "object.__class__"))
  cm : PySem.W.mroIn K C (.type "object") = some true
  mks : PySem.W.makesIn K C = true
  kc : PySem.W.keepIn K (.ref C) = true
  mgC : mg "Rims" = some (.ref C)
structure ClsCS (K : PySem.W.Frag) (mg : Str → Option Value) (C : Addr) : Prop where
  cl : Cls K C
  n1 : NoAttr K C "rims"
  n2 : NoAttr K C "mates"
  n3 : NoAttr K C "corners"
  n4 : NoAttr K C "cost"
  n5 : NoAttr K C "pieces"
  n6 : NoAttr K C "handles"
  ca : PySem.W.findIn K (.ref C) "__class__" = some (some (.builtin "object.__class__"))
  cm : PySem.W.mroIn K C (.type "object") = some true
  mks : PySem.W.makesIn K C = true
  kc : PySem.W.keepIn K (.ref C) = true
  mgC : mg "Sewing" = some (.ref C)
/-- the facts of an error's class -/
structure ErrF (K : PySem.W.Frag) (C : Addr) : Prop where
  oex : OexC K C
  xf : XfC K C
  sub : PySem.W.subIn K (.ref C) (.type "BaseException") = some true
  icl : PySem.W.isClsIn K C = true
  tyC : PySem.W.typeIn K (.ref C) = some (.type "type")
/-- and of what is asked of it -/
structure ErrX (K : PySem.W.Frag) (mg : Str → Option Value) (CH C : Addr) (x q : Str) (st : Stmt) (fl : Str) : Prop where
  w : ErrW K mg C x q st
  f : ErrF K C
  fl : PySem.W.findIn K (.ref C) fl = some none
  nt : PySem.W.kitOne K (.type "NoneType") (.ref C) = some false
  cc : PySem.W.findIn K (.ref C) "__class__" = some (some (.builtin "object.__class__"))
  mo : PySem.W.mroIn K C (.type "object") = some true
  sb : PySem.W.subIn K (.ref C) (.ref CH) = some true
theorem exm_two {K : PySem.W.Frag} {S U : Addr} {b : Bool} (g1 : PySem.W.subIn K (.ref U) (.type "BaseException") = some true) (g2 : PySem.W.isClsIn K U = true) (g3 : PySem.W.typeIn K (.ref U) = some (.type "type")) (h4 : PySem.W.subIn K (.ref S) (.ref U) = some b) :
    PySem.W.exmOne K (.ref S) (.ref U) = some b := by
  have e1 : (PySem.W.subIn K (.ref U) (.type "BaseException") == some true) = true := by rw [g1] <;> rfl
  have e2 : ((PySem.W.clsIn K U).isSome && PySem.W.typeIn K (.ref U) == some (.type "type")) = true := by
    have h2' : (PySem.W.clsIn K U).isSome = true := g2
    rw [h2', g3] <;> rfl
  show (if (PySem.W.subIn K (.ref U) (.type "BaseException") == some true) = true then (if ((PySem.W.clsIn K U).isSome && PySem.W.typeIn K (.ref U) == some (.type "type")) = true then PySem.W.subIn K (.ref S) (.ref U) else none) else none) = some b
  rw [if_pos e1, if_pos e2]
  exact h4
theorem ls1 {us : List Value} (h : us.length = 1) : ∃ a, us = [a] := match us, h with | [a], _ => ⟨a, rfl⟩
theorem ls2 {us : List Value} (h : us.length = 2) : ∃ a b, us = [a, b] := match us, h with | [a, b], _ => ⟨a, b, rfl⟩
theorem ls3 {us : List Value} (h : us.length = 3) : ∃ a b c, us = [a, b, c] := match us, h with | [a, b, c], _ => ⟨a, b, c, rfl⟩
theorem law_mk {P : Program} {w : World} {K : PySem.W.Frag} {mg : Str → Option Value} {base : Heap} {C CR CS CBR CTM CH fM cM fL cL P1 P2 : Addr} {fdL fdM : FuncData} (N : Names mg) (D : Defs K mg C CR CS) (WC : ClsC K mg C) (WCR : ClsCR K mg CR) (WCS : ClsCS K mg CS)
    (neR : PySem.W.findIn K (.ref CR) "__ne__" = some (some (.builtin "object.__ne__"))) (neS : PySem.W.findIn K (.ref CS) "__ne__" = some (some (.builtin "object.__ne__"))) (X1 : XO K CR)
    (EBR : ErrX K mg CH CBR "BadRims" "BadRims.__init__" sInitBR "part") (ETM : ErrX K mg CH CTM "TooMany" "TooMany.__init__" sInitTM "what") (mst : PySem.W.findIn K (.ref CTM) "most" = some none) (Z : TwoE K mg CBR CTM CH)
    (FM_ : FunC K "_law_many_right" sMR fM cM fdM) (gM_ : mg "_law_many_right" = some (.ref fM)) (kM_ : PySem.W.keepIn K (.ref fM) = true) (bM_ : Binds K fdM ["_law_pen_here"] []) (TB1 : LamX.TabB base mg cM P1)
    (FL_ : FunC K "law" sLaw fL cL fdL) (TB2 : LamX.TabB base mg cL P2) (d12 : P1 ≠ P2) : RG.FnG P w K mg base 32 fL fdL ["_law_script"] (spLaw K [(P1, qMR), (P2, qLaw)]) := by
  have tA : TxA mg := ⟨N.tuple, N.len⟩
  have tB : TxB mg := ⟨N.sorted, N.abs⟩
  have tC : TxC mg := ⟨N.kind, N.all⟩
  have tI : TxI mg := ⟨N.isinstance, N.int, N.bool, N.str, N.list, N.tuple⟩
  have tL : TxL mg := ⟨N.int, N.len, N.abs⟩
  have tR : TxR mg := ⟨N.words, N.places, N.range, N.enumerate⟩
  have tW : TxW K mg C := ⟨WC.cl, WC.n1, WC.n2, WC.n3, WC.n4, WC.n5, WC.ca, WC.cn, WC.ct, WC.cm, WC.mgC, N.most, N.isinstance, N.all⟩
  have tRC : TxRC K mg CR := ⟨WCR.cl, WCR.n1, WCR.n2, WCR.n3, WCR.n4, WCR.n5, WCR.n6, WCR.n7, WCR.mgC, WCR.ca, WCR.cm⟩
  have tSC : TxSC K mg CS := ⟨WCS.cl, WCS.n1, WCS.n2, WCS.n3, WCS.n4, WCS.n5, WCS.n6, WCS.mgC, WCS.ca, WCS.cm⟩
  have cInt : Cal P w K mg base "is_integer" 1 ["value"] spIsInt := D.d_sIsInt.cal (fun f fd F => ok_isInt F tI) (fun _ _ _ _ _ _ us hl => by obtain ⟨_, rfl⟩ := ls1 hl; rfl)
  have cWithin : Cal P w K mg base "is_within" 2 ["value", "least", "most"] spWithin := D.d_sWithin.cal (fun f fd F => ok_within F cInt) (fun _ _ _ _ _ _ us hl => by obtain ⟨_, _, _, rfl⟩ := ls3 hl; rfl)
  have cLetter : Cal P w K mg base "is_letter" 3 ["value"] spLetter := D.d_sLetter.cal (fun f fd F => ok_letter F cWithin tC) (fun _ _ _ _ _ _ us hl => by obtain ⟨_, rfl⟩ := ls1 hl; rfl)
  have cListE : Cal P w K mg base "is_listed" 1 ["value"] (spListE K) := D.d_sListed.cal (fun f fd F => ok_listE F tI) (fun _ _ _ _ _ _ us hl => by obtain ⟨_, rfl⟩ := ls1 hl; rfl)
  have cFew : Cal P w K mg base "need_few_letters" 1 ["many"] spFew := D.d_sFew.cal (fun f fd F => ok_few F tW) (fun _ _ _ _ _ _ us hl => by obtain ⟨_, rfl⟩ := ls1 hl; rfl)
  have cKinds : Cal P w K mg base "kinds_of" 1 ["letters"] (spKinds K) := D.d_sKinds.cal (fun f fd F => ok_kinds F tA tB) (fun _ _ _ _ _ _ us hl => by obtain ⟨_, rfl⟩ := ls1 hl; rfl)
  have cShr : Cal P w K mg base "shortened_letters" 1 ["letters"] (spShr K) := D.d_sShr.cal (fun f fd F => ok_shr F tA) (fun _ _ _ _ _ _ us hl => by obtain ⟨_, rfl⟩ := ls1 hl; rfl)
  have cRnd : Cal P w K mg base "rounded_letters" 2 ["letters"] (spRnd K) := D.d_sRnd.cal (fun f fd F => ok_rnd F cShr tA) (fun _ _ _ _ _ _ us hl => by obtain ⟨_, rfl⟩ := ls1 hl; rfl)
  have mW : MkW P w K mg base C := ⟨D.m_sInit.made rfl WC.mks WC.kc (fun f fd F => ok_init F tW tA cListE cLetter cFew cKinds cShr cRnd) (fun _ _ _ _ _ _ us hl => by obtain ⟨_, _, rfl⟩ := ls2 hl; rfl)⟩
  have cBal : Cal P w K mg base "balance_of" 2 ["letters"] (spBalOf K) := D.d_sBalOf.cal (fun f fd F => ok_balOf F tA cKinds) (fun _ _ _ _ _ _ us hl => by obtain ⟨_, rfl⟩ := ls1 hl; rfl)
  have cFilled : Cal P w K mg base "is_filled" 1 ["value"] (spFilled K C) := D.d_sFilled.cal (fun f fd F => ok_filled F tW) (fun _ _ _ _ _ _ us hl => by obtain ⟨_, rfl⟩ := ls1 hl; rfl)
  have cFewP : Cal P w K mg base "need_few_places" 1 ["many"] spFewP := D.d_sFewP.cal (fun f fd F => ok_fewP F tR) (fun _ _ _ _ _ _ us hl => by obtain ⟨_, rfl⟩ := ls1 hl; rfl)
  have cNeedB : Cal P w K mg base "need_balanced" 3 ["letters"] (spNeedB K) := D.d_sNeedB.cal (fun f fd F => ok_needB F cBal) (fun _ _ _ _ _ _ us hl => by obtain ⟨_, rfl⟩ := ls1 hl; rfl)
  have cNexts : Cal P w K mg base "nexts_of" 1 ["words"] (spNexts K C) := D.d_sNexts.cal (fun f fd F => ok_nexts F tW tA tR) (fun _ _ _ _ _ _ us hl => by obtain ⟨_, rfl⟩ := ls1 hl; rfl)
  have mR : MkR P w K mg base C CR := ⟨D.m_sInitR.made rfl WCR.mks WCR.kc (fun f fd F => ok_initR F tW tRC tA tR cListE cFilled cFewP cNeedB cNexts) (fun _ _ _ _ _ _ us hl => by obtain ⟨_, _, rfl⟩ := ls2 hl; rfl)⟩
  have cNeedR : Cal P w K mg base "need_rims" 1 ["value", "part"] (spNeedR K C CR) := D.d_sNeedR.cal (fun f fd F => ok_needR F tW tRC) (fun _ _ _ _ _ _ us hl => by obtain ⟨_, _, rfl⟩ := ls2 hl; rfl)
  have cAreI : Cal P w K mg base "are_integers" 2 ["value"] (spAreI K) := D.d_sAreI.cal (fun f fd F => ok_areI F N.all cListE cInt) (fun _ _ _ _ _ _ us hl => by obtain ⟨_, rfl⟩ := ls1 hl; rfl)
  have cPaired : Cal P w K mg base "are_paired" 3 ["value", "many"] (spPaired K) := D.d_sPaired.cal (fun f fd F => ok_paired F tA tR cAreI) (fun _ _ _ _ _ _ us hl => by obtain ⟨_, _, rfl⟩ := ls2 hl; rfl)
  have cAreM : Cal P w K mg base "are_mates" 4 ["letters", "value"] (spAreM K) := D.d_sAreM.cal (fun f fd F => ok_areM F tA tR N.all cPaired) (fun _ _ _ _ _ _ us hl => by obtain ⟨_, _, rfl⟩ := ls2 hl; rfl)
  have cCorn : Cal P w K mg base "corners_of" 1 ["rims", "mates"] (spCorn K C CR) := D.d_sCorn.cal (fun f fd F => ok_corn F tRC tA tR N.set) (fun _ _ _ _ _ _ us hl => by obtain ⟨_, _, rfl⟩ := ls2 hl; rfl)
  have cJoined : Cal P w K mg base "joined" 1 ["many", "pairs"] (spJoined K) := D.d_sJoined.cal (fun f fd F => ok_joined F tA tR N.list N.max N.min) (fun _ _ _ _ _ _ us hl => by obtain ⟨_, _, rfl⟩ := ls2 hl; rfl)
  have cPieces : Cal P w K mg base "pieces_of" 2 ["rims", "mates"] (spPieces K C CR) := D.d_sPieces.cal (fun f fd F => ok_pieces F tRC tA tR cJoined) (fun _ _ _ _ _ _ us hl => by obtain ⟨_, _, rfl⟩ := ls2 hl; rfl)
  have mS : MkS P w K mg base C CR CS := ⟨D.m_sInitS.made rfl WCS.mks WCS.kc (fun f fd F => ok_initS F tRC tSC tA cNeedR cAreM cCorn cPieces) (fun _ _ _ _ _ _ us hl => by obtain ⟨_, _, _, rfl⟩ := ls3 hl; rfl)⟩
  have cMany : Cal P w K mg base "many_sewings" 2 ["rims"] (spMany K C CR) := D.d_sMany.cal (fun f fd F => ok_many F tRC N.factorial cNeedR cKinds) (fun _ _ _ _ _ _ us hl => by obtain ⟨_, rfl⟩ := ls1 hl; rfl)
  have cFill : Cal P w K mg base "fill_mates" 25 ["partners", "mates", "found"] (spFill K 24) := D.d_sFill.calR (fun f fd F hm hb => ok_fill F tA N.list hm hb 24) (fun _ _ _ _ _ _ us hl => by obtain ⟨_, _, _, rfl⟩ := ls3 hl; rfl)
  have cAllM : Cal P w K mg base "all_mates" 26 ["partners"] (spAllM K) := D.d_sAllM.cal (fun f fd F => ok_allM F tA cFill) (fun _ _ _ _ _ _ us hl => by obtain ⟨_, rfl⟩ := ls1 hl; rfl)
  have cAllS : Cal P w K mg base "all_sewings" 27 ["rims"] (spAllS K C CR CS) := D.d_sAllS.cal (fun f fd F => ok_allS F tRC tSC tA tR N.sews mS cMany cAllM) (fun _ _ _ _ _ _ us hl => by obtain ⟨_, rfl⟩ := ls1 hl; rfl)
  have cCens : Cal P w K mg base "census" 28 ["rims"] (spCens K C CR) := D.d_sCens.cal (fun f fd F => ok_cens F tSC tA N.sorted N.set cAllS) (fun _ _ _ _ _ _ us hl => by obtain ⟨_, rfl⟩ := ls1 hl; rfl)
  have N_ : TN mg := ⟨N.len, N.range, N.list, N.tuple, N.int, N.abs, N.min, N.sorted, N.set, N.enumerate, N.zip, N.isinstance, N.repr⟩
  have eW : EqW P w K mg base C := by
    obtain ⟨f, oc, od, kV, doc, pm, cdv, ct, an, osl, a, i, l, c, kp⟩ := D.m_sEq.ex
    exact ⟨f, _, ok_eq (fun_mk l c kp) tW, a, i, (fun_mk l c kp).binds (fun _ _ _ _ _ _ us hl => by obtain ⟨_, _, rfl⟩ := ls2 hl; rfl)⟩
  have eR : EqR P w K mg base C CR := by
    obtain ⟨f, oc, od, kV, doc, pm, cdv, ct, an, osl, a, i, l, c, kp⟩ := D.m_sEqR.ex
    exact ⟨f, _, ok_eqR (fun_mk l c kp) tW tRC eW, a, i, (fun_mk l c kp).binds (fun _ _ _ _ _ _ us hl => by obtain ⟨_, _, rfl⟩ := ls2 hl; rfl)⟩
  have eS : OE.Eq P w K mg base CS 4 (SewEq K C CR CS) := by
    obtain ⟨f, oc, od, kV, doc, pm, cdv, ct, an, osl, a, i, l, c, kp⟩ := D.m_sEqSx.ex
    refine ⟨⟨f, _, ok_EqSx (fun_mk l c kp) N_ tW tRC tSC eR, a, i, (fun_mk l c kp).binds (fun _ _ _ _ _ _ us hl => by obtain ⟨_, _, rfl⟩ := ls2 hl; rfl)⟩, fun H p q b h => ?_, neS, WCS.cm⟩
    obtain ⟨_, _, _, _, _, _, _, _, ⟨dx, _, _, _, h1, _⟩, ⟨dy, _, _, _, h2, _⟩, _⟩ := h
    exact ⟨⟨dx, _, h1⟩, dy, _, h2⟩
  have BR : ErrC P w K mg base CBR "BadRims" ["self", "part"] (spI1 "part" CBR) := by
    obtain ⟨f, oc, od, kV, doc, pm, cdv, ct, an, osl, a, i, l, c, kp⟩ := EBR.w.ini.ex
    exact ⟨EBR.w.oex, ⟨f, _, a, EBR.w.ty f a, (ok_initBW (fun_mk l c kp) EBR.w.oex EBR.fl).mono (by decide), (fun_mk l c kp).binds (fun _ _ _ _ _ _ us hl => by obtain ⟨_, _, rfl⟩ := ls2 hl; rfl)⟩, EBR.w.g, EBR.w.xf, EBR.w.te⟩
  have TM : ErrC P w K mg base CTM "TooMany" ["self", "what", "most"] (spM2 CTM) := by
    obtain ⟨f, oc, od, kV, doc, pm, cdv, ct, an, osl, a, i, l, c, kp⟩ := ETM.w.ini.ex
    exact ⟨ETM.w.oex, ⟨f, _, a, ETM.w.ty f a, (ok_initTM (fun_mk l c kp) ETM.w.oex ETM.fl mst).mono (by decide), (fun_mk l c kp).binds (fun _ _ _ _ _ _ us hl => by obtain ⟨_, _, _, rfl⟩ := ls3 hl; rfl)⟩, ETM.w.g, ETM.w.xf, ETM.w.te⟩
  have cNRX : CalX P w K mg base "need_rims" 4 ["value", "part"] (spNeedRX K C CR CBR) := D.d_sNeedR.calX (fun f fd F => ok_NRX F N_ tW tRC BR) (fun _ _ _ _ _ _ us hl => by obtain ⟨_, _, rfl⟩ := ls2 hl; rfl)
  have okMX : ∀ f fd, Fun K "many_sewings" "many_sewings" sMany f fd → FnOk P w K mg base (L2.CX P w) 5 f fd ["rims"] (spOr (spMany K C CR) (spManyX K CR CBR)) := fun f fd F => fn_or ((ok_many F tRC N.factorial cNeedR cKinds).mono (by decide)) (ok_MyX F N_ N.factorial cNRX cKinds)
  have cMX : CalX P w K mg base "many_sewings" 5 ["rims"] (spOr (spMany K C CR) (spManyX K CR CBR)) := D.d_sMany.calX okMX (fun _ _ _ _ _ _ us hl => by obtain ⟨_, rfl⟩ := ls1 hl; rfl)
  have cMK : CalKX P w K mg base "many_sewings" 5 ["rims"] ["rims"] (fun zs => zs) (spOr (spMany K C CR) (spManyX K CR CBR)) := D.d_sMany.calKX (fun ws => ws) (fun zs => zs) okMX (fun _ _ _ _ _ _ us hl => by obtain ⟨_, rfl⟩ := ls1 hl; rfl) (fun r => r)
  have okAX : ∀ f fd, Fun K "all_sewings" "all_sewings" sAllS f fd → FnOk P w K mg base (L2.CX P w) 27 f fd ["rims"] (spOr (spAllS K C CR CS) (spAllSX K C CR CBR CTM)) := fun f fd F => fn_or (ok_allS F tRC tSC tA tR N.sews mS cMany cAllM) (ok_AllSX F tRC tSC tA tR N.sews mS cMX cAllM TM)
  have cAX : CalX P w K mg base "all_sewings" 27 ["rims"] (spOr (spAllS K C CR CS) (spAllSX K C CR CBR CTM)) := D.d_sAllS.calX okAX (fun _ _ _ _ _ _ us hl => by obtain ⟨_, rfl⟩ := ls1 hl; rfl)
  have cAK : CalKX P w K mg base "all_sewings" 27 ["rims"] ["rims"] (fun zs => zs) (spOr (spAllS K C CR CS) (spAllSX K C CR CBR CTM)) := D.d_sAllS.calKX (fun ws => ws) (fun zs => zs) okAX (fun _ _ _ _ _ _ us hl => by obtain ⟨_, rfl⟩ := ls1 hl; rfl) (fun r => r)
  have okCX : ∀ f fd, Fun K "census" "census" sCens f fd → FnOk P w K mg base (L2.CX P w) 28 f fd ["rims"] (spOr (spCens K C CR) (spAllSX K C CR CBR CTM)) := fun f fd F => fn_or (ok_cens F tSC tA N.sorted N.set cAllS) (ok_CensX F tSC tA N.sorted N.set cAX)
  have cCX : CalX P w K mg base "census" 28 ["rims"] (spOr (spCens K C CR) (spAllSX K C CR CBR CTM)) := D.d_sCens.calX okCX (fun _ _ _ _ _ _ us hl => by obtain ⟨_, rfl⟩ := ls1 hl; rfl)
  have cCK : CalKX P w K mg base "census" 28 ["rims"] ["rims"] (fun zs => zs) (spOr (spCens K C CR) (spAllSX K C CR CBR CTM)) := D.d_sCens.calKX (fun ws => ws) (fun zs => zs) okCX (fun _ _ _ _ _ _ us hl => by obtain ⟨_, rfl⟩ := ls1 hl; rfl) (fun r => r)
  have cPen : Cal P w K mg base "_law_pen" 1 ["_law_script"] (spHand K) := D.d_sJar.cal (fun f fd F => ok_hand F tL) (fun _ _ _ _ _ _ us hl => by obtain ⟨_, rfl⟩ := ls1 hl; rfl)
  have cDraw : Cal P w K mg base "_law_draw" 1 ["_law_pen_here", "_law_many"] spTake := D.d_sDraw.cal (fun f fd F => ok_take F tL) (fun _ _ _ _ _ _ us hl => by obtain ⟨_, _, rfl⟩ := ls2 hl; rfl)
  have cPick : Cal P w K mg base "_law_pick" 2 ["_law_pen_here", "_law_some"] spPick := D.d_sPick.cal (fun f fd F => ok_pick F cDraw tL) (fun _ _ _ _ _ _ us hl => by obtain ⟨_, _, rfl⟩ := ls2 hl; rfl)
  have cPickT : Cal P w K mg base "_law_pick" 2 ["_law_pen_here", "_law_some"] (spPickT K) := D.d_sPick.cal (fun f fd F => ok_pickT F cDraw tL) (fun _ _ _ _ _ _ us hl => by obtain ⟨_, _, rfl⟩ := ls2 hl; rfl)
  have cMixed : Cal P w K mg base "_law_mixed" 2 ["_law_pen_here", "_law_some"] spMixed := D.d_sMixed.cal (fun f fd F => ok_Mixed F N_ cDraw) (fun _ _ _ _ _ _ us hl => by obtain ⟨_, _, rfl⟩ := ls2 hl; rfl)
  have cCut : Cal P w K mg base "_law_cut" 3 ["_law_pen_here", "_law_letters_here"] spCut := D.d_sCut.cal (fun f fd F => ok_Cut F N_ cDraw cMixed) (fun _ _ _ _ _ _ us hl => by obtain ⟨_, _, rfl⟩ := ls2 hl; rfl)
  have cPlain : Cal P w K mg base "_law_plain" 4 ["_law_pen_here", "_law_counts"] spPlain := D.d_sPlain.cal (fun f fd F => ok_Plain F N_ cCut cMixed) (fun _ _ _ _ _ _ us hl => by obtain ⟨_, _, rfl⟩ := ls2 hl; rfl)
  have cLRims : Cal P w K mg base "_law_rims" 6 ["_law_words"] (spLRims K C CR) := D.d_sLRims.cal (fun f fd F => ok_LRims F N_ tW tRC mW mR) (fun _ _ _ _ _ _ us hl => by obtain ⟨_, rfl⟩ := ls1 hl; rfl)
  have cNx : Cal P w K mg base "_law_nexts" 1 ["_law_words"] spNx := D.d_sNx.cal (fun f fd F => ok_Nx F N_) (fun _ _ _ _ _ _ us hl => by obtain ⟨_, rfl⟩ := ls1 hl; rfl)
  have cCorL : Cal P w K mg base "_law_corners" 2 ["_law_words", "_law_mates"] (spCorL K) := D.d_sCorL.cal (fun f fd F => ok_CorL F N_ cNx) (fun _ _ _ _ _ _ us hl => by obtain ⟨_, _, rfl⟩ := ls2 hl; rfl)
  have cLets : Cal P w K mg base "_law_letters" 1 ["_law_words"] spLets := D.d_sLets.cal (fun f fd F => ok_Lets F N_) (fun _ _ _ _ _ _ us hl => by obtain ⟨_, rfl⟩ := ls1 hl; rfl)
  have cOrders : Cal P w K mg base "_law_orders" 1 ["_law_some"] spOrders := D.d_sOrders.cal (fun f fd F => ok_orders F N.len N.range) (fun _ _ _ _ _ _ us hl => by obtain ⟨_, rfl⟩ := ls1 hl; rfl)
  have cAll : Cal P w K mg base "_law_all" 2 ["_law_letters_here"] (spAll K) := D.d_sAll.cal (fun f fd F => ok_All F N_ cOrders) (fun _ _ _ _ _ _ us hl => by obtain ⟨_, rfl⟩ := ls1 hl; rfl)
  have cCns : Cal P w K mg base "_law_census" 3 ["_law_words", "_law_lists"] (spCns K) := D.d_sCns.cal (fun f fd F => ok_Cns F N_ cCorL) (fun _ _ _ _ _ _ us hl => by obtain ⟨_, _, rfl⟩ := ls2 hl; rfl)
  have cLR : RG.CalG P w K mg base "_law_listed_right" 29 ["_law_words"] spLR := by
    obtain ⟨f, oc, od, kV, doc, pm, cdv, ct, an, osl, l, c, kp, m⟩ := D.d_sLR.ex
    exact ⟨f, _, ok_LR (fun_mk l c kp) N_ tW tRC tSC mS eR neR eS cLRims cLets cAll cCns cAllS cMany cAK cMK cCK, m, kp, (fun_mk l c kp).binds (fun _ _ _ _ _ _ us hl => by obtain ⟨_, rfl⟩ := ls1 hl; rfl)⟩
  have cGR : Cal P w K mg base "_law_great_right" 29 ["_law_pen_here"] spGR := D.d_sGR.cal (fun f fd F => ok_GR F N_ N.sum tSC cPick cPickT cPlain cLRims cCns cCorL cCens cAllS cMany) (fun _ _ _ _ _ _ us hl => by obtain ⟨_, rfl⟩ := ls1 hl; rfl)
  obtain ⟨g, oc, od, kV, doc, pm, cdv, ct, an, osl, lg, cg, kg, mg1⟩ := D.d_sFault.ex
  have hG : FaultK K mg g := ⟨mg1, kg, ⟨oc, od, kV, doc, pm, cdv, ct, an, osl, lg, cg⟩⟩
  have u1 : ∀ p ∈ [(P1, qMR), (P2, qLaw)], p.1 = P1 → p.2 = qMR := by
    intro p hp e
    simp only [List.mem_cons, List.mem_nil_iff, or_false] at hp
    rcases hp with rfl | rfl
    · rfl
    · exact absurd e.symm d12
  have u2 : ∀ p ∈ [(P1, qMR), (P2, qLaw)], p.1 = P2 → p.2 = qLaw := by
    intro p hp e
    simp only [List.mem_cons, List.mem_nil_iff, or_false] at hp
    rcases hp with rfl | rfl
    · exact absurd e d12
    · rfl
  have cMR : RG.CalG P w K mg base "_law_many_right" 31 ["_law_pen_here"] (spMR [(P1, qMR), (P2, qLaw)]) := ⟨fM, fdM, ok_MR FM_ N_ BR TM Z hG TB1 List.mem_cons_self u1 cPick cPlain cLRims cMany cCX cAX, gM_, kM_, bM_⟩
  exact ok_Law FL_ N_ tW mW X1 BR TM Z hG TB2 (List.mem_cons_of_mem _ List.mem_cons_self) u2 cPen cDraw cPick cPlain cLR cMR cGR cCX cAX cMX
theorem at_mk {l : PySem.W.OpenLaw} {w : World} {K : PySem.W.Frag} {h : Heap} {mg : Str → Option Value} {fa C CR CS CBR CTM CH P1 P2 : Addr} (X : K.In h) (G : h.Ns mainGlobals mg) (hfa : mg "law" = some (.ref fa)) (N : Names mg) (D : Defs K mg C CR CS) (WC : ClsC K mg C) (WCR : ClsCR K mg CR) (WCS : ClsCS K mg CS)
    (neR : PySem.W.findIn K (.ref CR) "__ne__" = some (some (.builtin "object.__ne__"))) (neS : PySem.W.findIn K (.ref CS) "__ne__" = some (some (.builtin "object.__ne__"))) (X1 : XO K CR)
    (EBR : ErrX K mg CH CBR "BadRims" "BadRims.__init__" sInitBR "part") (ETM : ErrX K mg CH CTM "TooMany" "TooMany.__init__" sInitTM "what") (mst : PySem.W.findIn K (.ref CTM) "most" = some none)
    (aH : PySem.W.nsIn K mainGlobals "HandleError" = some (some (.ref CH))) (h1 : PySem.W.subIn K (.ref CH) (.type "BaseException") = some true) (h2 : PySem.W.isClsIn K CH = true) (h3 : PySem.W.typeIn K (.ref CH) = some (.type "type"))
    (k1 : PySem.W.kitOne K (.ref CTM) (.ref CBR) = some false)
    (t1 : h.get? P1 = some { cls := .none, data := .fields #[] }) (t2 : h.get? P2 = some { cls := .none, data := .fields #[] }) (d12 : P1 ≠ P2)
    {f1 c1 : Addr} {od1 an1 : Option Addr} {sl1 : Array (Option Value)} {oc1 kV1 dc1 pm1 ct1 : Value}
    (aD1 : PySem.W.nsIn K mainGlobals "_law_many_right" = some (some (.ref f1))) (lD1 : K.lookup f1 = some ⟨oc1, od1, .func (PySem.W.fnOf "_law_many_right" "_law_many_right" (defArgs sMR) (defBody sMR) (defScope sMR) .none kV1 dc1 pm1 an1 (.ref c1) ct1), sl1⟩)
    (eD1 : PySem.W.codeIn K (.ref c1) "_law_many_right" = true) (kD1 : PySem.W.keepIn K (.ref f1) = true) (hD1 : PySem.W.codeHdIn K c1 P1 = true) (nD1 : K.lookup P1 = none)
    {f2 c2 : Addr} {od2 an2 : Option Addr} {sl2 : Array (Option Value)} {oc2 kV2 dc2 pm2 ct2 : Value}
    (aD2 : PySem.W.nsIn K mainGlobals "law" = some (some (.ref f2))) (lD2 : K.lookup f2 = some ⟨oc2, od2, .func (PySem.W.fnOf "law" "law" (defArgs sLaw) (defBody sLaw) (defScope sLaw) .none kV2 dc2 pm2 an2 (.ref c2) ct2), sl2⟩)
    (eD2 : PySem.W.codeIn K (.ref c2) "law" = true) (kD2 : PySem.W.keepIn K (.ref f2) = true) (hD2 : PySem.W.codeHdIn K c2 P2 = true) (nD2 : K.lookup P2 = none)
    : RG.LawAtG l w K 32 63 "_law_script" mg fa h := by
  have e := hfa.symm.trans (PySem.W.mg_of X G aD2)
  cases e
  have EX : ∀ {C : Addr} {x q : Str} {st : Stmt} {fl : Str}, ErrX K mg CH C x q st fl → L2.ExcC K C := fun E => ⟨E.f.xf.ga, E.f.xf.gg, E.f.sub, E.f.xf.hdC, E.cc, WC.cn, WC.ct, E.mo⟩
  have Z : TwoE K mg CBR CTM CH := ⟨PySem.W.mg_of X G aH, exm_two h1 h2 h3 EBR.sb, exm_two h1 h2 h3 ETM.sb, EX EBR, EX ETM, EBR.nt, ETM.nt, k1, EBR.fl, ETM.fl, mst⟩
  have F1 : FunC K "_law_many_right" sMR f1 c1 _ := ⟨oc1, od1, kV1, dc1, pm1, an1, ct1, sl1, rfl, lD1, eD1⟩
  have F2 : FunC K "law" sLaw fa c2 _ := ⟨oc2, od2, kV2, dc2, pm2, an2, ct2, sl2, rfl, lD2, eD2⟩
  have b1 : Binds K (PySem.W.fnOf "_law_many_right" "_law_many_right" (defArgs sMR) (defBody sMR) (defScope sMR) .none kV1 dc1 pm1 an1 (.ref c1) ct1) ["_law_pen_here"] [] := (fun_mk (st := sMR) lD1 eD1 kD1).binds (ps := ["_law_pen_here"]) (fun _ _ _ _ _ _ us hl => by obtain ⟨_, rfl⟩ := ls1 hl; rfl)
  have all : ∀ {Z : Addr × Addr → Prop}, Z (c1, P1) → Z (c2, P2) → ∀ p ∈ [(c1, P1), (c2, P2)], Z p := by
    intro Z z1 z2 p hp
    simp only [List.mem_cons, List.mem_nil_iff, or_false] at hp
    rcases hp with rfl | rfl
    · exact z1
    · exact z2
  have i1 : (c1, P1) ∈ [(c1, P1), (c2, P2)] := List.mem_cons_self
  have i2 : (c2, P2) ∈ [(c1, P1), (c2, P2)] := List.mem_cons_of_mem _ List.mem_cons_self
  refine ⟨PySem.W.fnOf "law" "law" (defArgs sLaw) (defBody sLaw) (defScope sLaw) .none kV2 dc2 pm2 an2 (.ref c2) ct2, [(c1, P1), (c2, P2)], spLaw K [(P1, qMR), (P2, qLaw)], ⟨all t1 t2, all nD1 nD2, all (PySem.W.codeHd_of_K X hD1) (PySem.W.codeHd_of_K X hD2)⟩, fun s v => .of_eq rfl, ?_, fun base _ _ T => ?_⟩
  · intro H a ns hl hH hS
    refine ⟨a, ns, rfl, hS, hl, fun p hp => ?_, fun _ => rfl⟩
    simp only [List.mem_cons, List.mem_nil_iff, or_false] at hp
    rcases hp with rfl | rfl
    · exact .nil (hH (c1, P1) i1)
    · exact .nil (hH (c2, P2) i2)
  · exact law_mk N D WC WCR WCS neR neS X1 EBR ETM mst Z F1 (PySem.W.mg_of X G aD1) kD1 b1 (T (c1, P1) i1) F2 (T (c2, P2) i2) d12
end W13
set_option Elab.async false
set_option linter.all false
set_option maxRecDepth 100000
set_option maxHeartbeats 4000000
namespace W13
open PySem L2 PySem.Spec PyProof.Rows WR WB WE WS
theorem err_mk {K : PySem.W.Frag} {h : Heap} {mg : Str → Option Value} {C f : Addr} {x q : Str} {st : Stmt} (X : K.In h) (G : h.Ns mainGlobals mg)
    {nm q2 : Str} {N : Addr} {bs bm : List Value} {sn : List Str} {sub : List Value} {ab : Bool} {col : Option Bool} {dd : Option Addr} {m0 m1 m2 m3 m5 : Option Value} {oc : Value} {od an : Option Addr} {kV doc pm cdv ct : Value} {osl : Array (Option Value)}
    (aC : PySem.W.nsIn K mainGlobals x = some (some (.ref C)))
    (xL : K.lookup C = some (excClassObj nm q2 C N bs bm true sn sub ab col dd m0 m1 m2 m3 m5 "ValueError.__new__")) (rv : PySem.HandSPX.refsVE bm = true)
    (sa : PySem.W.findIn K (.ref C) "__setattr__" = some (some (.builtin "object.__setattr__"))) (ga : PySem.W.findIn K (.ref C) "__getattribute__" = some (some (.builtin "BaseException.__getattribute__"))) (gg : PySem.W.findIn K (.ref C) "__getattr__" = some none)
    (i1 : PySem.W.findIn K (.ref C) "__init__" = some (some (.ref f))) (t1 : PySem.W.typeIn K (.ref f) = some (.type "function")) (fn : PySem.W.isFn K (.ref f) = true)
    (l1 : K.lookup f = some ⟨oc, od, .func (PySem.W.fnOf "__init__" q (defArgs st) (defBody st) (defScope st) .none kV doc pm an cdv ct), osl⟩) (c1 : PySem.W.codeIn K cdv q = true) (k1 : PySem.W.keepIn K (.ref f) = true)
    (kC : PySem.W.keepIn K (.ref C) = true) (eC : PySem.W.subIn K (.ref C) (.type "BaseException") = some true) (tC : PySem.W.typeIn K (.ref C) = some (.type "type")) (hC : PySem.W.hasDictIn K C = true) (iC : PySem.W.isClsIn K C = true) (sC : PySem.W.subIn K (.ref C) (.ref C) = some true) : ErrW K mg C x q st ∧ ErrF K C :=
  have O : OexC K C := ⟨⟨nm, q2, N, bs, bm, sn, sub, ab, col, dd, m0, m1, m2, m3, m5, xL, rv⟩, sa, eC, tC, kC⟩
  have F : XfC K C := ⟨ga, gg, eC, hC⟩
  ⟨⟨O, F, ⟨f, oc, od, kV, doc, pm, cdv, ct, an, osl, i1, fn, l1, c1, k1⟩, fun f' e => by
    rw [i1] at e
    cases e
    exact t1, PySem.W.mg_of X G aC, exm_two eC iC tC sC⟩, ⟨O, F, eC, iC, tC⟩⟩
theorem errx_mk {K : PySem.W.Frag} {h : Heap} {mg : Str → Option Value} {CH C f : Addr} {x q fl : Str} {st : Stmt} (X : K.In h) (G : h.Ns mainGlobals mg)
    {nm q2 : Str} {N : Addr} {bs bm : List Value} {sn : List Str} {sub : List Value} {ab : Bool} {col : Option Bool} {dd : Option Addr} {m0 m1 m2 m3 m5 : Option Value} {oc : Value} {od an : Option Addr} {kV doc pm cdv ct : Value} {osl : Array (Option Value)}
    (aC : PySem.W.nsIn K mainGlobals x = some (some (.ref C)))
    (xL : K.lookup C = some (excClassObj nm q2 C N bs bm true sn sub ab col dd m0 m1 m2 m3 m5 "ValueError.__new__")) (rv : PySem.HandSPX.refsVE bm = true)
    (sa : PySem.W.findIn K (.ref C) "__setattr__" = some (some (.builtin "object.__setattr__"))) (ga : PySem.W.findIn K (.ref C) "__getattribute__" = some (some (.builtin "BaseException.__getattribute__"))) (gg : PySem.W.findIn K (.ref C) "__getattr__" = some none)
    (i1 : PySem.W.findIn K (.ref C) "__init__" = some (some (.ref f))) (t1 : PySem.W.typeIn K (.ref f) = some (.type "function")) (fn : PySem.W.isFn K (.ref f) = true)
    (l1 : K.lookup f = some ⟨oc, od, .func (PySem.W.fnOf "__init__" q (defArgs st) (defBody st) (defScope st) .none kV doc pm an cdv ct), osl⟩) (c1 : PySem.W.codeIn K cdv q = true) (k1 : PySem.W.keepIn K (.ref f) = true)
    (kC : PySem.W.keepIn K (.ref C) = true) (eC : PySem.W.subIn K (.ref C) (.type "BaseException") = some true) (tC : PySem.W.typeIn K (.ref C) = some (.type "type")) (hC : PySem.W.hasDictIn K C = true) (iC : PySem.W.isClsIn K C = true) (sC : PySem.W.subIn K (.ref C) (.ref C) = some true)
    (fl_ : PySem.W.findIn K (.ref C) fl = some none) (nt : PySem.W.kitOne K (.type "NoneType") (.ref C) = some false) (cc : PySem.W.findIn K (.ref C) "__class__" = some (some (.builtin "object.__class__"))) (mo : PySem.W.mroIn K C (.type "object") = some true) (sb : PySem.W.subIn K (.ref C) (.ref CH) = some true) : ErrX K mg CH C x q st fl :=
  have r := err_mk X G aC xL rv sa ga gg i1 t1 fn l1 c1 k1 kC eC tC hC iC sC
  ⟨r.1, r.2, fl_, nt, cc, mo, sb⟩
theorem names_mk {K : PySem.W.Frag} {h : Heap} {mg : Str → Option Value} {u0 : Tok} {u1 : Tok} {u2 : Tok} {u3 : Tok} {u4 : Tok} (X : K.In h) (G : h.Ns mainGlobals mg)
    (n0 : PySem.W.nsIn K mainGlobals "isinstance" = some none) (n1 : PySem.W.nsIn K mainGlobals "int" = some none) (n2 : PySem.W.nsIn K mainGlobals "bool" = some none) (n3 : PySem.W.nsIn K mainGlobals "str" = some none) (n4 : PySem.W.nsIn K mainGlobals "list" = some none) (n5 : PySem.W.nsIn K mainGlobals "tuple" = some none) (n6 : PySem.W.nsIn K mainGlobals "all" = some none) (n7 : PySem.W.nsIn K mainGlobals "len" = some none) (n8 : PySem.W.nsIn K mainGlobals "abs" = some none) (n9 : PySem.W.nsIn K mainGlobals "range" = some none) (n10 : PySem.W.nsIn K mainGlobals "sorted" = some none) (n11 : PySem.W.nsIn K mainGlobals "set" = some none) (n12 : PySem.W.nsIn K mainGlobals "enumerate" = some none) (n13 : PySem.W.nsIn K mainGlobals "max" = some none) (n14 : PySem.W.nsIn K mainGlobals "min" = some none) (n15 : PySem.W.nsIn K mainGlobals "zip" = some none) (n16 : PySem.W.nsIn K mainGlobals "repr" = some none) (n17 : PySem.W.nsIn K mainGlobals "sum" = some none) (g0 : PySem.W.nsIn K mainGlobals "MOST_KIND" = some (some (.int 26 u0))) (g1 : PySem.W.nsIn K mainGlobals "MOST_LETTERS" = some (some (.int 500 u1))) (g2 : PySem.W.nsIn K mainGlobals "MOST_WORDS" = some (some (.int 4 u2))) (g3 : PySem.W.nsIn K mainGlobals "MOST_PLACES" = some (some (.int 24 u3))) (g4 : PySem.W.nsIn K mainGlobals "MOST_SEWINGS" = some (some (.int 720 u4))) (b0 : PySem.W.nsIn K mainGlobals "factorial" = some (some (.builtin "math.factorial"))) : Names mg :=
  ⟨PySem.W.mg_none_of X G n0, PySem.W.mg_none_of X G n1, PySem.W.mg_none_of X G n2, PySem.W.mg_none_of X G n3, PySem.W.mg_none_of X G n4, PySem.W.mg_none_of X G n5, PySem.W.mg_none_of X G n6, PySem.W.mg_none_of X G n7, PySem.W.mg_none_of X G n8, PySem.W.mg_none_of X G n9, PySem.W.mg_none_of X G n10, PySem.W.mg_none_of X G n11, PySem.W.mg_none_of X G n12, PySem.W.mg_none_of X G n13, PySem.W.mg_none_of X G n14, PySem.W.mg_none_of X G n15, PySem.W.mg_none_of X G n16, PySem.W.mg_none_of X G n17, ⟨_, PySem.W.mg_of X G g0⟩, ⟨_, PySem.W.mg_of X G g1⟩, ⟨_, PySem.W.mg_of X G g2⟩, ⟨_, PySem.W.mg_of X G g3⟩, ⟨_, PySem.W.mg_of X G g4⟩, PySem.W.mg_of X G b0⟩
theorem cls_mkC {K : PySem.W.Frag} {h : Heap} {mg : Str → Option Value} {C : Addr} (X : K.In h) (G : h.Ns mainGlobals mg) (aC : PySem.W.nsIn K mainGlobals "Word" = some (some (.ref C)))
    (pg : PySem.W.plainGet K C Str.empty = true) (hd : PySem.W.hasDictIn K C = true) (po : PySem.W.plainOver K C = true) (sa : PySem.W.findIn K (.ref C) "__setattr__" = some (some (.builtin "object.__setattr__")))
    (n1 : PySem.W.findIn K (.ref C) "letters" = some none) (n2 : PySem.W.findIn K (.ref C) "length" = some none) (n3 : PySem.W.findIn K (.ref C) "kinds" = some none) (n4 : PySem.W.findIn K (.ref C) "is_short" = some none) (n5 : PySem.W.findIn K (.ref C) "is_short_round" = some none)
    (ca : PySem.W.findIn K (.ref C) "__class__" = some (some (.builtin "object.__class__"))) (cm : PySem.W.mroIn K C (.type "object") = some true) (mk : PySem.W.makesIn K C = true) (kc : PySem.W.keepIn K (.ref C) = true)
    (cn : PySem.W.specialIn K (.builtin "object.__class__") "__get__" = some (some (.builtin "getset_descriptor.__get__"))) (ct : PySem.W.takesIn K (.builtin "object.__class__") = some true) : ClsC K mg C :=
  ⟨⟨pg, hd, po, sa⟩, n1, n2, n3, n4, n5, ca, cm, mk, kc, PySem.W.mg_of X G aC, cn, ct⟩
theorem cls_mkCR {K : PySem.W.Frag} {h : Heap} {mg : Str → Option Value} {C : Addr} (X : K.In h) (G : h.Ns mainGlobals mg) (aC : PySem.W.nsIn K mainGlobals "Rims" = some (some (.ref C)))
    (pg : PySem.W.plainGet K C Str.empty = true) (hd : PySem.W.hasDictIn K C = true) (po : PySem.W.plainOver K C = true) (sa : PySem.W.findIn K (.ref C) "__setattr__" = some (some (.builtin "object.__setattr__")))
    (n1 : PySem.W.findIn K (.ref C) "words" = some none) (n2 : PySem.W.findIn K (.ref C) "letters" = some none) (n3 : PySem.W.findIn K (.ref C) "many" = some none) (n4 : PySem.W.findIn K (.ref C) "bands" = some none) (n5 : PySem.W.findIn K (.ref C) "is_short" = some none) (n6 : PySem.W.findIn K (.ref C) "homes" = some none) (n7 : PySem.W.findIn K (.ref C) "nexts" = some none)
    (ca : PySem.W.findIn K (.ref C) "__class__" = some (some (.builtin "object.__class__"))) (cm : PySem.W.mroIn K C (.type "object") = some true) (mk : PySem.W.makesIn K C = true) (kc : PySem.W.keepIn K (.ref C) = true) : ClsCR K mg C :=
  ⟨⟨pg, hd, po, sa⟩, n1, n2, n3, n4, n5, n6, n7, ca, cm, mk, kc, PySem.W.mg_of X G aC⟩
theorem cls_mkCS {K : PySem.W.Frag} {h : Heap} {mg : Str → Option Value} {C : Addr} (X : K.In h) (G : h.Ns mainGlobals mg) (aC : PySem.W.nsIn K mainGlobals "Sewing" = some (some (.ref C)))
    (pg : PySem.W.plainGet K C Str.empty = true) (hd : PySem.W.hasDictIn K C = true) (po : PySem.W.plainOver K C = true) (sa : PySem.W.findIn K (.ref C) "__setattr__" = some (some (.builtin "object.__setattr__")))
    (n1 : PySem.W.findIn K (.ref C) "rims" = some none) (n2 : PySem.W.findIn K (.ref C) "mates" = some none) (n3 : PySem.W.findIn K (.ref C) "corners" = some none) (n4 : PySem.W.findIn K (.ref C) "cost" = some none) (n5 : PySem.W.findIn K (.ref C) "pieces" = some none) (n6 : PySem.W.findIn K (.ref C) "handles" = some none)
    (ca : PySem.W.findIn K (.ref C) "__class__" = some (some (.builtin "object.__class__"))) (cm : PySem.W.mroIn K C (.type "object") = some true) (mk : PySem.W.makesIn K C = true) (kc : PySem.W.keepIn K (.ref C) = true) : ClsCS K mg C :=
  ⟨⟨pg, hd, po, sa⟩, n1, n2, n3, n4, n5, n6, ca, cm, mk, kc, PySem.W.mg_of X G aC⟩
end W13
open PySem PySem.W PyProof.Rows in
set_option maxRecDepth 100000 in
set_option maxHeartbeats 0 in
theorem PySem.Challenge.cw_handlerims_k13_all_sewings_and_their_cen_holds : PySem.Challenge.rw_handlerims_k13_all_sewings_and_their_cen.Holds := by
  w_on; o_law; k_head; (case hw => w_witness2)
  k_fill
  refine RG.walkGT (l := PySem.Challenge.rw_handlerims_k13_all_sewings_and_their_cen) (n := 63) (k := 32) (x := "_law_script") rfl (by decide) rfl ⟨rfl, by decide, by decide⟩ (fun w h Y => PySem.W.km_in_of Y) ?F
  case F =>
    intro w mg fa h Y KX G hmg
    have tabs := PySem.W.km_tabs_of Y
    have hlaw : mg "law" = some (.ref fa) := hmg
    clear hmg
    have hN : W13.Names mg := by
      refine' W13.names_mk KX G ?q_n0 ?q_n1 ?q_n2 ?q_n3 ?q_n4 ?q_n5 ?q_n6 ?q_n7 ?q_n8 ?q_n9 ?q_n10 ?q_n11 ?q_n12 ?q_n13 ?q_n14 ?q_n15 ?q_n16 ?q_n17 ?q_g0 ?q_g1 ?q_g2 ?q_g3 ?q_g4 ?q_b0
      (case q_n0 => k_is)
      (case q_n1 => k_is)
      (case q_n2 => k_is)
      (case q_n3 => k_is)
      (case q_n4 => k_is)
      (case q_n5 => k_is)
      (case q_n6 => k_is)
      (case q_n7 => k_is)
      (case q_n8 => k_is)
      (case q_n9 => k_is)
      (case q_n10 => k_is)
      (case q_n11 => k_is)
      (case q_n12 => k_is)
      (case q_n13 => k_is)
      (case q_n14 => k_is)
      (case q_n15 => k_is)
      (case q_n16 => k_is)
      (case q_n17 => k_is)
      (case q_g0 => k_is)
      (case q_g1 => k_is)
      (case q_g2 => k_is)
      (case q_g3 => k_is)
      (case q_g4 => k_is)
      (case q_b0 => k_is)
    refine' W13.at_mk (P1 := 701) (P2 := 713) KX G hlaw hN ?q_D ?q_WC ?q_WCR ?q_WCS ?q_neR ?q_neS ?q_XO ?q_EB ?q_EM ?q_mst ?q_aH ?q_h1 ?q_h2 ?q_h3 ?q_kit1 (tabs 701 (by decide)) (tabs 713 (by decide)) (by decide) ?q_aD1 ?q_lD1 ?q_eD1 ?q_kD1 ?q_hD1 ?q_nD1 ?q_aD2 ?q_lD2 ?q_eD2 ?q_kD2 ?q_hD2 ?q_nD2
    case q_WC =>
      refine' W13.cls_mkC KX G ?q_CaC ?q_Cpg ?q_Chd ?q_Cpo ?q_Csa ?q_Cn1 ?q_Cn2 ?q_Cn3 ?q_Cn4 ?q_Cn5 ?q_Cca ?q_Ccm ?q_Cmk ?q_Ckc ?q_Ccn ?q_Cct
      (case q_CaC => first | k_is | kernel_rfl)
      (case q_Cpg => first | k_is | kernel_rfl)
      (case q_Chd => first | k_is | kernel_rfl)
      (case q_Cpo => first | k_is | kernel_rfl)
      (case q_Csa => first | k_is | kernel_rfl)
      (case q_Cn1 => first | k_is | kernel_rfl)
      (case q_Cn2 => first | k_is | kernel_rfl)
      (case q_Cn3 => first | k_is | kernel_rfl)
      (case q_Cn4 => first | k_is | kernel_rfl)
      (case q_Cn5 => first | k_is | kernel_rfl)
      (case q_Cca => first | k_is | kernel_rfl)
      (case q_Ccm => first | k_is | kernel_rfl)
      (case q_Cmk => first | k_is | kernel_rfl)
      (case q_Ckc => first | k_is | kernel_rfl)
      (case q_Ccn => first | k_is | kernel_rfl)
      (case q_Cct => first | k_is | kernel_rfl)
    case q_WCR =>
      refine' W13.cls_mkCR KX G ?q_CRaC ?q_CRpg ?q_CRhd ?q_CRpo ?q_CRsa ?q_CRn1 ?q_CRn2 ?q_CRn3 ?q_CRn4 ?q_CRn5 ?q_CRn6 ?q_CRn7 ?q_CRca ?q_CRcm ?q_CRmk ?q_CRkc
      (case q_CRaC => first | k_is | kernel_rfl)
      (case q_CRpg => first | k_is | kernel_rfl)
      (case q_CRhd => first | k_is | kernel_rfl)
      (case q_CRpo => first | k_is | kernel_rfl)
      (case q_CRsa => first | k_is | kernel_rfl)
      (case q_CRn1 => first | k_is | kernel_rfl)
      (case q_CRn2 => first | k_is | kernel_rfl)
      (case q_CRn3 => first | k_is | kernel_rfl)
      (case q_CRn4 => first | k_is | kernel_rfl)
      (case q_CRn5 => first | k_is | kernel_rfl)
      (case q_CRn6 => first | k_is | kernel_rfl)
      (case q_CRn7 => first | k_is | kernel_rfl)
      (case q_CRca => first | k_is | kernel_rfl)
      (case q_CRcm => first | k_is | kernel_rfl)
      (case q_CRmk => first | k_is | kernel_rfl)
      (case q_CRkc => first | k_is | kernel_rfl)
    case q_WCS =>
      refine' W13.cls_mkCS KX G ?q_CSaC ?q_CSpg ?q_CShd ?q_CSpo ?q_CSsa ?q_CSn1 ?q_CSn2 ?q_CSn3 ?q_CSn4 ?q_CSn5 ?q_CSn6 ?q_CSca ?q_CScm ?q_CSmk ?q_CSkc
      (case q_CSaC => first | k_is | kernel_rfl)
      (case q_CSpg => first | k_is | kernel_rfl)
      (case q_CShd => first | k_is | kernel_rfl)
      (case q_CSpo => first | k_is | kernel_rfl)
      (case q_CSsa => first | k_is | kernel_rfl)
      (case q_CSn1 => first | k_is | kernel_rfl)
      (case q_CSn2 => first | k_is | kernel_rfl)
      (case q_CSn3 => first | k_is | kernel_rfl)
      (case q_CSn4 => first | k_is | kernel_rfl)
      (case q_CSn5 => first | k_is | kernel_rfl)
      (case q_CSn6 => first | k_is | kernel_rfl)
      (case q_CSca => first | k_is | kernel_rfl)
      (case q_CScm => first | k_is | kernel_rfl)
      (case q_CSmk => first | k_is | kernel_rfl)
      (case q_CSkc => first | k_is | kernel_rfl)
    case q_D =>
      refine' { d_sIsInt := W13.ff_mk KX G ?q_a0 ?q_l0 ?q_c0 ?q_k0, d_sWithin := W13.ff_mk KX G ?q_a1 ?q_l1 ?q_c1 ?q_k1, d_sLetter := W13.ff_mk KX G ?q_a2 ?q_l2 ?q_c2 ?q_k2, d_sListed := W13.ff_mk KX G ?q_a3 ?q_l3 ?q_c3 ?q_k3, d_sAreI := W13.ff_mk KX G ?q_a4 ?q_l4 ?q_c4 ?q_k4, d_sShr := W13.ff_mk KX G ?q_a5 ?q_l5 ?q_c5 ?q_k5, d_sRnd := W13.ff_mk KX G ?q_a6 ?q_l6 ?q_c6 ?q_k6, d_sKinds := W13.ff_mk KX G ?q_a7 ?q_l7 ?q_c7 ?q_k7, d_sBalOf := W13.ff_mk KX G ?q_a8 ?q_l8 ?q_c8 ?q_k8, d_sPaired := W13.ff_mk KX G ?q_a9 ?q_l9 ?q_c9 ?q_k9, d_sFill := W13.ff_mk KX G ?q_a10 ?q_l10 ?q_c10 ?q_k10, d_sAllM := W13.ff_mk KX G ?q_a11 ?q_l11 ?q_c11 ?q_k11, d_sJoined := W13.ff_mk KX G ?q_a12 ?q_l12 ?q_c12 ?q_k12, d_sFilled := W13.ff_mk KX G ?q_a13 ?q_l13 ?q_c13 ?q_k13, d_sFew := W13.ff_mk KX G ?q_a14 ?q_l14 ?q_c14 ?q_k14, d_sNeedB := W13.ff_mk KX G ?q_a15 ?q_l15 ?q_c15 ?q_k15, d_sNeedR := W13.ff_mk KX G ?q_a16 ?q_l16 ?q_c16 ?q_k16, d_sFewP := W13.ff_mk KX G ?q_a17 ?q_l17 ?q_c17 ?q_k17, d_sNexts := W13.ff_mk KX G ?q_a18 ?q_l18 ?q_c18 ?q_k18, d_sAreM := W13.ff_mk KX G ?q_a19 ?q_l19 ?q_c19 ?q_k19, d_sCorn := W13.ff_mk KX G ?q_a20 ?q_l20 ?q_c20 ?q_k20, d_sPieces := W13.ff_mk KX G ?q_a21 ?q_l21 ?q_c21 ?q_k21, d_sMany := W13.ff_mk KX G ?q_a22 ?q_l22 ?q_c22 ?q_k22, d_sAllS := W13.ff_mk KX G ?q_a23 ?q_l23 ?q_c23 ?q_k23, d_sCens := W13.ff_mk KX G ?q_a24 ?q_l24 ?q_c24 ?q_k24, d_sJar := W13.ff_mk KX G ?q_a25 ?q_l25 ?q_c25 ?q_k25, d_sDraw := W13.ff_mk KX G ?q_a26 ?q_l26 ?q_c26 ?q_k26, d_sPick := W13.ff_mk KX G ?q_a27 ?q_l27 ?q_c27 ?q_k27, d_sMixed := W13.ff_mk KX G ?q_a28 ?q_l28 ?q_c28 ?q_k28, d_sCut := W13.ff_mk KX G ?q_a29 ?q_l29 ?q_c29 ?q_k29, d_sPlain := W13.ff_mk KX G ?q_a30 ?q_l30 ?q_c30 ?q_k30, d_sLRims := W13.ff_mk KX G ?q_a31 ?q_l31 ?q_c31 ?q_k31, d_sNx := W13.ff_mk KX G ?q_a32 ?q_l32 ?q_c32 ?q_k32, d_sCorL := W13.ff_mk KX G ?q_a33 ?q_l33 ?q_c33 ?q_k33, d_sLets := W13.ff_mk KX G ?q_a34 ?q_l34 ?q_c34 ?q_k34, d_sOrders := W13.ff_mk KX G ?q_a35 ?q_l35 ?q_c35 ?q_k35, d_sAll := W13.ff_mk KX G ?q_a36 ?q_l36 ?q_c36 ?q_k36, d_sFault := W13.ff_mk KX G ?q_a37 ?q_l37 ?q_c37 ?q_k37, d_sCns := W13.ff_mk KX G ?q_a38 ?q_l38 ?q_c38 ?q_k38, d_sLR := W13.ff_mk KX G ?q_a39 ?q_l39 ?q_c39 ?q_k39, d_sGR := W13.ff_mk KX G ?q_a40 ?q_l40 ?q_c40 ?q_k40, m_sInit := W13.fm_mk ?q_ma0 ?q_mi0 ?q_ml0 ?q_mc0 ?q_mk0, m_sEq := W13.fm_mk ?q_ma1 ?q_mi1 ?q_ml1 ?q_mc1 ?q_mk1, m_sInitR := W13.fm_mk ?q_ma2 ?q_mi2 ?q_ml2 ?q_mc2 ?q_mk2, m_sEqR := W13.fm_mk ?q_ma3 ?q_mi3 ?q_ml3 ?q_mc3 ?q_mk3, m_sInitS := W13.fm_mk ?q_ma4 ?q_mi4 ?q_ml4 ?q_mc4 ?q_mk4, m_sEqSx := W13.fm_mk ?q_ma5 ?q_mi5 ?q_ml5 ?q_mc5 ?q_mk5 }
      (case q_a0 => k_is); (case q_l0 => k_is); (case q_c0 => k_is); (case q_k0 => k_is)
      (case q_a1 => k_is); (case q_l1 => k_is); (case q_c1 => k_is); (case q_k1 => k_is)
      (case q_a2 => k_is); (case q_l2 => k_is); (case q_c2 => k_is); (case q_k2 => k_is)
      (case q_a3 => k_is); (case q_l3 => k_is); (case q_c3 => k_is); (case q_k3 => k_is)
      (case q_a4 => k_is); (case q_l4 => k_is); (case q_c4 => k_is); (case q_k4 => k_is)
      (case q_a5 => k_is); (case q_l5 => k_is); (case q_c5 => k_is); (case q_k5 => k_is)
      (case q_a6 => k_is); (case q_l6 => k_is); (case q_c6 => k_is); (case q_k6 => k_is)
      (case q_a7 => k_is); (case q_l7 => k_is); (case q_c7 => k_is); (case q_k7 => k_is)
      (case q_a8 => k_is); (case q_l8 => k_is); (case q_c8 => k_is); (case q_k8 => k_is)
      (case q_a9 => k_is); (case q_l9 => k_is); (case q_c9 => k_is); (case q_k9 => k_is)
      (case q_a10 => k_is); (case q_l10 => k_is); (case q_c10 => k_is); (case q_k10 => k_is)
      (case q_a11 => k_is); (case q_l11 => k_is); (case q_c11 => k_is); (case q_k11 => k_is)
      (case q_a12 => k_is); (case q_l12 => k_is); (case q_c12 => k_is); (case q_k12 => k_is)
      (case q_a13 => k_is); (case q_l13 => k_is); (case q_c13 => k_is); (case q_k13 => k_is)
      (case q_a14 => k_is); (case q_l14 => k_is); (case q_c14 => k_is); (case q_k14 => k_is)
      (case q_a15 => k_is); (case q_l15 => k_is); (case q_c15 => k_is); (case q_k15 => k_is)
      (case q_a16 => k_is); (case q_l16 => k_is); (case q_c16 => k_is); (case q_k16 => k_is)
      (case q_a17 => k_is); (case q_l17 => k_is); (case q_c17 => k_is); (case q_k17 => k_is)
      (case q_a18 => k_is); (case q_l18 => k_is); (case q_c18 => k_is); (case q_k18 => k_is)
      (case q_a19 => k_is); (case q_l19 => k_is); (case q_c19 => k_is); (case q_k19 => k_is)
      (case q_a20 => k_is); (case q_l20 => k_is); (case q_c20 => k_is); (case q_k20 => k_is)
      (case q_a21 => k_is); (case q_l21 => k_is); (case q_c21 => k_is); (case q_k21 => k_is)
      (case q_a22 => k_is); (case q_l22 => k_is); (case q_c22 => k_is); (case q_k22 => k_is)
      (case q_a23 => k_is); (case q_l23 => k_is); (case q_c23 => k_is); (case q_k23 => k_is)
      (case q_a24 => k_is); (case q_l24 => k_is); (case q_c24 => k_is); (case q_k24 => k_is)
      (case q_a25 => k_is); (case q_l25 => k_is); (case q_c25 => k_is); (case q_k25 => k_is)
      (case q_a26 => k_is); (case q_l26 => k_is); (case q_c26 => k_is); (case q_k26 => k_is)
      (case q_a27 => k_is); (case q_l27 => k_is); (case q_c27 => k_is); (case q_k27 => k_is)
      (case q_a28 => k_is); (case q_l28 => k_is); (case q_c28 => k_is); (case q_k28 => k_is)
      (case q_a29 => k_is); (case q_l29 => k_is); (case q_c29 => k_is); (case q_k29 => k_is)
      (case q_a30 => k_is); (case q_l30 => k_is); (case q_c30 => k_is); (case q_k30 => k_is)
      (case q_a31 => k_is); (case q_l31 => k_is); (case q_c31 => k_is); (case q_k31 => k_is)
      (case q_a32 => k_is); (case q_l32 => k_is); (case q_c32 => k_is); (case q_k32 => k_is)
      (case q_a33 => k_is); (case q_l33 => k_is); (case q_c33 => k_is); (case q_k33 => k_is)
      (case q_a34 => k_is); (case q_l34 => k_is); (case q_c34 => k_is); (case q_k34 => k_is)
      (case q_a35 => k_is); (case q_l35 => k_is); (case q_c35 => k_is); (case q_k35 => k_is)
      (case q_a36 => k_is); (case q_l36 => k_is); (case q_c36 => k_is); (case q_k36 => k_is)
      (case q_a37 => k_is); (case q_l37 => k_is); (case q_c37 => k_is); (case q_k37 => k_is)
      (case q_a38 => k_is); (case q_l38 => k_is); (case q_c38 => k_is); (case q_k38 => k_is)
      (case q_a39 => k_is); (case q_l39 => k_is); (case q_c39 => k_is); (case q_k39 => k_is)
      (case q_a40 => k_is); (case q_l40 => k_is); (case q_c40 => k_is); (case q_k40 => k_is)
      (case q_ma0 => k_is); (case q_mi0 => k_is); (case q_ml0 => k_is); (case q_mc0 => k_is); (case q_mk0 => k_is)
      (case q_ma1 => k_is); (case q_mi1 => k_is); (case q_ml1 => k_is); (case q_mc1 => k_is); (case q_mk1 => k_is)
      (case q_ma2 => k_is); (case q_mi2 => k_is); (case q_ml2 => k_is); (case q_mc2 => k_is); (case q_mk2 => k_is)
      (case q_ma3 => k_is); (case q_mi3 => k_is); (case q_ml3 => k_is); (case q_mc3 => k_is); (case q_mk3 => k_is)
      (case q_ma4 => k_is); (case q_mi4 => k_is); (case q_ml4 => k_is); (case q_mc4 => k_is); (case q_mk4 => k_is)
      (case q_ma5 => k_is); (case q_mi5 => k_is); (case q_ml5 => k_is); (case q_mc5 => k_is); (case q_mk5 => k_is)
    (case q_neR => first | k_is | kernel_rfl | rfl)
    (case q_neS => first | k_is | kernel_rfl | rfl)
    (case q_mst => first | k_is | kernel_rfl | rfl)
    case q_XO =>
      refine' ⟨?q_x0, ?q_x1, ?q_x2, ?q_x3, ?q_x4, ?q_x5⟩
      (case q_x0 => first | k_is | kernel_rfl | rfl)
      (case q_x1 => first | k_is | kernel_rfl | rfl)
      (case q_x2 => first | k_is | kernel_rfl | rfl)
      (case q_x3 => first | k_is | kernel_rfl | rfl)
      (case q_x4 => first | k_is | kernel_rfl | rfl)
      (case q_x5 => first | k_is | kernel_rfl | rfl)
    (case q_aH => k_is); (case q_h1 => k_is); (case q_h2 => k_is); (case q_h3 => k_is)
    case q_EB =>
      refine' W13.errx_mk KX G ?q_BaC ?q_BxL ?q_Brv ?q_Bsa ?q_Bga ?q_Bgg ?q_Bi1 ?q_Bt1 ?q_Bfn ?q_Bl1 ?q_Bc1 ?q_Bk1 ?q_BkC ?q_BeC ?q_BtC ?q_BhC ?q_BiC ?q_BsC ?q_Bfl ?q_Bnt ?q_Bcc ?q_Bmo ?q_Bsb
      (case q_BaC => first | k_is | decide +kernel | kernel_rfl | rfl)
      (case q_BxL => first | k_is | decide +kernel | kernel_rfl | rfl)
      (case q_Brv => first | k_is | decide +kernel | kernel_rfl | rfl)
      (case q_Bsa => first | k_is | decide +kernel | kernel_rfl | rfl)
      (case q_Bga => first | k_is | decide +kernel | kernel_rfl | rfl)
      (case q_Bgg => first | k_is | decide +kernel | kernel_rfl | rfl)
      (case q_Bi1 => first | k_is | decide +kernel | kernel_rfl | rfl)
      (case q_Bt1 => first | k_is | decide +kernel | kernel_rfl | rfl)
      (case q_Bfn => first | k_is | decide +kernel | kernel_rfl | rfl)
      (case q_Bl1 => first | k_is | decide +kernel | kernel_rfl | rfl)
      (case q_Bc1 => first | k_is | decide +kernel | kernel_rfl | rfl)
      (case q_Bk1 => first | k_is | decide +kernel | kernel_rfl | rfl)
      (case q_BkC => first | k_is | decide +kernel | kernel_rfl | rfl)
      (case q_BeC => first | k_is | decide +kernel | kernel_rfl | rfl)
      (case q_BtC => first | k_is | decide +kernel | kernel_rfl | rfl)
      (case q_BhC => first | k_is | decide +kernel | kernel_rfl | rfl)
      (case q_BiC => first | k_is | decide +kernel | kernel_rfl | rfl)
      (case q_BsC => first | k_is | decide +kernel | kernel_rfl | rfl)
      (case q_Bfl => first | k_is | decide +kernel | kernel_rfl | rfl)
      (case q_Bnt => first | k_is | decide +kernel | kernel_rfl | rfl)
      (case q_Bcc => first | k_is | decide +kernel | kernel_rfl | rfl)
      (case q_Bmo => first | k_is | decide +kernel | kernel_rfl | rfl)
      (case q_Bsb => first | k_is | decide +kernel | kernel_rfl | rfl)
    case q_EM =>
      refine' W13.errx_mk KX G ?q_MaC ?q_MxL ?q_Mrv ?q_Msa ?q_Mga ?q_Mgg ?q_Mi1 ?q_Mt1 ?q_Mfn ?q_Ml1 ?q_Mc1 ?q_Mk1 ?q_MkC ?q_MeC ?q_MtC ?q_MhC ?q_MiC ?q_MsC ?q_Mfl ?q_Mnt ?q_Mcc ?q_Mmo ?q_Msb
      (case q_MaC => first | k_is | decide +kernel | kernel_rfl | rfl)
      (case q_MxL => first | k_is | decide +kernel | kernel_rfl | rfl)
      (case q_Mrv => first | k_is | decide +kernel | kernel_rfl | rfl)
      (case q_Msa => first | k_is | decide +kernel | kernel_rfl | rfl)
      (case q_Mga => first | k_is | decide +kernel | kernel_rfl | rfl)
      (case q_Mgg => first | k_is | decide +kernel | kernel_rfl | rfl)
      (case q_Mi1 => first | k_is | decide +kernel | kernel_rfl | rfl)
      (case q_Mt1 => first | k_is | decide +kernel | kernel_rfl | rfl)
      (case q_Mfn => first | k_is | decide +kernel | kernel_rfl | rfl)
      (case q_Ml1 => first | k_is | decide +kernel | kernel_rfl | rfl)
      (case q_Mc1 => first | k_is | decide +kernel | kernel_rfl | rfl)
      (case q_Mk1 => first | k_is | decide +kernel | kernel_rfl | rfl)
      (case q_MkC => first | k_is | decide +kernel | kernel_rfl | rfl)
      (case q_MeC => first | k_is | decide +kernel | kernel_rfl | rfl)
      (case q_MtC => first | k_is | decide +kernel | kernel_rfl | rfl)
      (case q_MhC => first | k_is | decide +kernel | kernel_rfl | rfl)
      (case q_MiC => first | k_is | decide +kernel | kernel_rfl | rfl)
      (case q_MsC => first | k_is | decide +kernel | kernel_rfl | rfl)
      (case q_Mfl => first | k_is | decide +kernel | kernel_rfl | rfl)
      (case q_Mnt => first | k_is | decide +kernel | kernel_rfl | rfl)
      (case q_Mcc => first | k_is | decide +kernel | kernel_rfl | rfl)
      (case q_Mmo => first | k_is | decide +kernel | kernel_rfl | rfl)
      (case q_Msb => first | k_is | decide +kernel | kernel_rfl | rfl)
    (case q_kit1 => first | k_is | kernel_rfl | rfl)
    (case q_aD1 => k_is); (case q_lD1 => k_is); (case q_eD1 => k_is); (case q_kD1 => k_is); (case q_hD1 => first | kernel_rfl | with_unfolding_all rfl); (case q_nD1 => first | rfl | k_is)
    (case q_aD2 => k_is); (case q_lD2 => k_is); (case q_eD2 => k_is); (case q_kD2 => k_is); (case q_hD2 => first | kernel_rfl | with_unfolding_all rfl); (case q_nD2 => first | rfl | k_is)
