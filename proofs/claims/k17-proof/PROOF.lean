import PyProof.Rows.All
import Wide.All
import OpenK.AllK
import Wide.FinOn
import HandS.ForMost
import HandS.Strs
import HandS.SetBool
import HandS.TupAny
import HandS.TupMul
import KE.KRevSl
import HandS.Exc
import HandS.TryOnly
import HandS.ExcOwn
import HandS.WordsExc
import HandS.Wide
import HandS.IsInst
import HandS.Style
import HandS.Flow
import HandS.Evl
import HandS.MakeKwOnly
import HandS.Walk
import KE.KEqSeq
import HandS.OwnEq
import HandS.More
import PyProof.InstNe
import HandS.ClsMeth
import OpenK.KDescr
import KE.KCallOwn
import PyProof.StrLawsChain
import HandS.Codes
import PyProof.ReprRoads
import HandS.SetFor
import HandS.TupSets
import HandS.SetKeys
import HandS.Dict
import HandS.Iter
import HandS.Deep
import HandS.ReCall
import HandS.Conv
import KE.GoesMore
import HandS.Gcd
import HandS.Base
import HandS.Call
import HandS.Zip
import HandS.ExcInit
import HandS.ExcField
import HandS.ExcIs
import HandS.ExcValue
import HandS.RaiseMore
import PyProof.CallFns
import HandS.Lambda
import HandS.EndTab
import KE.KNestM
import HandS.DictComp
import PyProof.MakeMany
import PySem.Challenge.RW_handlerims_k17_a_letter_and_its_contrary
set_option Elab.async false
set_option linter.all false
/-! Rows of letters, shortened: neighbours that are contraries taken out. -/
namespace Fr
/-- a letter laid on what is left, its last one in front -/
def push : List Int → Int → List Int
  | [], a => [a]
  | b :: t, a => if b = -a then t else a :: b :: t
def act (s : List Int) (xs : List Int) : List Int := xs.foldl push s
/-- no neighbours are contraries -/
def Rd : List Int → Prop
  | [] => True
  | [_] => True
  | a :: b :: t => a ≠ -b ∧ Rd (b :: t)
/-- what is left of a row of letters -/
def shr (xs : List Int) : List Int := (act [] xs).reverse
/-- the contraries, the last one first -/
def con (xs : List Int) : List Int := xs.reverse.map (fun a => -a)
theorem Rd.tail {a : Int} {t : List Int} (h : Rd (a :: t)) : Rd t := by
  cases t with
  | nil => trivial
  | cons b u => exact h.2
theorem push_rd {s : List Int} (a : Int) (h : Rd s) : Rd (push s a) := by
  cases s with
  | nil => trivial
  | cons b t =>
    show Rd (if b = -a then t else a :: b :: t)
    by_cases e : b = -a
    · rw [if_pos e]; exact h.tail
    · rw [if_neg e]
      refine ⟨?_, h⟩
      omega
theorem push_push {s : List Int} (a : Int) (h : Rd s) : push (push s a) (-a) = s := by
  cases s with
  | nil => simp [push]
  | cons b t =>
    by_cases e : b = -a
    · have h1 : push (b :: t) a = t := by simp [push, e]
      rw [h1]
      cases t with
      | nil => simp [push, e]
      | cons c u =>
        have hc : c ≠ - -a := by
          intro hc
          exact h.1 (by omega)
        simp [push, e]
        omega
    · have h1 : push (b :: t) a = a :: b :: t := by simp [push, e]
      rw [h1]
      simp [push]
theorem act_cons (s : List Int) (a : Int) (t : List Int) : act s (a :: t) = act (push s a) t := rfl
theorem act_append (s xs ys : List Int) : act s (xs ++ ys) = act (act s xs) ys := List.foldl_append
theorem act_snoc (s xs : List Int) (a : Int) : act s (xs ++ [a]) = push (act s xs) a := act_append s xs [a]
theorem act_rd : ∀ {xs s : List Int}, Rd s → Rd (act s xs)
  | [], _, h => h
  | a :: t, _, h => act_rd (xs := t) (push_rd a h)
/-- two rows are one and the same when they act alike -/
def Sm (xs ys : List Int) : Prop := ∀ s, Rd s → act s xs = act s ys
theorem Sm.refl (xs : List Int) : Sm xs xs := fun _ _ => rfl
theorem Sm.symm {xs ys : List Int} (h : Sm xs ys) : Sm ys xs := fun s r => (h s r).symm
theorem Sm.trans {xs ys zs : List Int} (h : Sm xs ys) (k : Sm ys zs) : Sm xs zs := fun s r => (h s r).trans (k s r)
theorem Sm.out (a : Int) : Sm [a, -a] [] := fun s r => push_push a r
/-! ### short ones -/
theorem rd_cons {a : Int} {t : List Int} : Rd (a :: t) ↔ (∀ b, t.head? = some b → a ≠ -b) ∧ Rd t := by
  cases t with
  | nil => simp [Rd]
  | cons b u => simp [Rd]
theorem rd_append {xs ys : List Int} : Rd (xs ++ ys) ↔ Rd xs ∧ Rd ys ∧ ∀ a b, xs.getLast? = some a → ys.head? = some b → a ≠ -b := by
  induction xs with
  | nil => simp [Rd]
  | cons x t ih =>
    rw [List.cons_append, rd_cons, rd_cons, ih]
    cases t with
    | nil =>
      simp [Rd]
      constructor
      · rintro ⟨h1, h2⟩
        exact ⟨h2, fun a b ha hb => ha ▸ h1 b hb⟩
      · rintro ⟨h1, h2⟩
        exact ⟨fun b hb => h2 x b rfl hb, h1⟩
    | cons y u =>
      simp [List.getLast?_cons_cons]
      constructor
      · rintro ⟨h1, h2, h3, h4⟩
        exact ⟨⟨h1, h2⟩, h3, h4⟩
      · rintro ⟨⟨h1, h2⟩, h3, h4⟩
        exact ⟨h1, h2, h3, h4⟩
theorem rd_reverse {xs : List Int} : Rd xs.reverse ↔ Rd xs := by
  induction xs with
  | nil => simp [Rd]
  | cons x t ih =>
    rw [List.reverse_cons, rd_append, ih, rd_cons (a := x) (t := t)]
    have one : Rd [x] := trivial
    simp [one]
    constructor
    · rintro ⟨h1, h2⟩
      refine ⟨fun b hb => ?_, h1⟩
      have := h2 b hb
      omega
    · rintro ⟨h1, h2⟩
      refine ⟨h2, fun b hb => ?_⟩
      have := h1 b hb
      omega
theorem rd_shr (xs : List Int) : Rd (shr xs) := rd_reverse.2 (act_rd trivial)
/-! ### contraries -/
theorem con_cons (a : Int) (t : List Int) : con (a :: t) = con t ++ [-a] := by simp [con]
theorem con_length (xs : List Int) : (con xs).length = xs.length := by simp [con]
/-! ### so many times -/
/-! ### the ends -/
/-- short, and its ends are no contraries -/
def Cy (w : List Int) : Prop := Rd w ∧ ∀ a b, w.head? = some a → w.getLast? = some b → a ≠ -b
/-- no letter is 0 -/
def NZ (xs : List Int) : Prop := ∀ a ∈ xs, a ≠ 0
theorem cy_nil : Cy [] := ⟨trivial, fun a b h => by simp at h⟩
theorem push_mem {s : List Int} {a x : Int} (h : x ∈ push s a) : x = a ∨ x ∈ s := by
  cases s with
  | nil => left; simpa [push] using h
  | cons b t =>
    have h2 : x ∈ (if b = -a then t else a :: b :: t) := h
    by_cases e : b = -a
    · rw [if_pos e] at h2; exact .inr (List.mem_cons_of_mem _ h2)
    · rw [if_neg e] at h2
      rcases List.mem_cons.1 h2 with h3 | h3
      · exact .inl h3
      · exact .inr h3
theorem act_mem : ∀ {xs s : List Int} {x : Int}, x ∈ act s xs → x ∈ xs ∨ x ∈ s
  | [], _, _, h => .inr h
  | a :: t, s, x, h => by
    rw [act_cons] at h
    rcases act_mem h with h1 | h1
    · exact .inl (List.mem_cons_of_mem _ h1)
    · rcases push_mem h1 with h2 | h2
      · exact .inl (h2 ▸ List.mem_cons_self)
      · exact .inr h2
theorem shr_mem {xs : List Int} {x : Int} (h : x ∈ shr xs) : x ∈ xs := by
  unfold shr at h
  rcases act_mem (List.mem_reverse.1 h) with h1 | h1
  · exact h1
  · simp at h1
theorem NZ.shr {xs : List Int} (h : NZ xs) : NZ (shr xs) := fun a ha => h a (shr_mem ha)
/-- a row between a letter and its contrary, or one that has no such ends -/
theorem ends_or (xs : List Int) (nz : NZ xs) : (∃ a m, xs = a :: (m ++ [-a])) ∨ ∀ a b, xs.head? = some a → xs.getLast? = some b → a ≠ -b := by
  cases xs with
  | nil => right; intro a b h; simp at h
  | cons a t =>
    by_cases ht : t = []
    · subst ht
      right
      intro x y hx hy
      simp at hx hy
      have := nz a (by simp)
      omega
    · have e := List.dropLast_concat_getLast ht
      by_cases hb : t.getLast ht = -a
      · left
        refine ⟨a, t.dropLast, ?_⟩
        rw [← hb, e]
      · right
        intro x y hx hy
        rw [← e] at hy
        rw [show a :: (t.dropLast ++ [t.getLast ht]) = (a :: t.dropLast) ++ [t.getLast ht] from rfl] at hy
        rw [List.getLast?_append] at hy
        simp at hx hy
        omega
/-- every short row is a row, one that is short round, and the contrary of the first -/
theorem parted (xs : List Int) (nz : NZ xs) (r : Rd xs) : ∃ u w, xs = u ++ w ++ con u ∧ Cy w ∧ (w = [] → u = []) := by
  have gen : ∀ (n : Nat) (xs : List Int), xs.length ≤ n → NZ xs → Rd xs → ∃ u w, xs = u ++ w ++ con u ∧ Cy w ∧ (w = [] → u = []) := by
    intro n
    induction n with
    | zero =>
      intro xs h _ _
      have : xs = [] := List.length_eq_zero_iff.1 (by omega)
      subst this
      exact ⟨[], [], rfl, cy_nil, fun _ => rfl⟩
    | succ n ih =>
      intro xs h nz r
      rcases ends_or xs nz with ⟨a, m, rfl⟩ | k
      · have hr : Rd (m ++ [-a]) := r.tail
        have hm : Rd m := (rd_append.1 hr).1
        obtain ⟨u, w, e, c, z⟩ := ih m (by simp at h; omega) (fun x hx => nz x (by simp [hx])) hm
        have hne : m ≠ [] := by
          intro e0
          subst e0
          have := r.1
          simp at this
        refine ⟨a :: u, w, ?_, c, fun hw => ?_⟩
        · rw [con_cons, e]; simp
        · exfalso
          have hu := z hw
          subst hw hu
          exact hne (by simpa [con] using e)
      · exact ⟨[], xs, by simp [con], ⟨r, k⟩, fun _ => rfl⟩
  exact gen xs.length xs (Nat.le_refl _) nz r
/-- the ends off, as long as they are contraries -/
def endsN : Nat → List Int → List Int
  | 0, xs => xs
  | n + 1, xs => if 1 < xs.length ∧ xs.head? = xs.getLast?.map (fun a => -a) then endsN n xs.tail.dropLast else xs
def ends (xs : List Int) : List Int := endsN xs.length xs
theorem endsN_cy : ∀ (n : Nat) {w : List Int}, Cy w → endsN n w = w
  | 0, _, _ => rfl
  | n + 1, w, h => by
    unfold endsN
    rw [if_neg]
    rintro ⟨h1, h2⟩
    cases e : w.getLast? with
    | none =>
      rw [List.getLast?_eq_none_iff] at e
      subst e
      simp at h1
    | some b =>
      rw [e] at h2
      exact h.2 (-b) b h2 e rfl
theorem endsN_eq : ∀ (n : Nat) (u w : List Int), Cy w → u.length ≤ n → (w = [] → u = []) → endsN n (u ++ w ++ con u) = w
  | n, [], w, c, _, _ => by
    simp [con]
    exact endsN_cy n c
  | 0, a :: u, w, c, h, _ => by simp at h
  | n + 1, a :: u, w, c, h, z => by
    have e : (a :: u) ++ w ++ con (a :: u) = a :: ((u ++ w ++ con u) ++ [-a]) := by
      rw [con_cons]; simp
    rw [e]
    unfold endsN
    rw [if_pos]
    · rw [List.tail_cons, List.dropLast_concat]
      refine endsN_eq n u w c (by simp at h; exact h) fun hw => ?_
      have := z hw
      simp at this
    · constructor
      · simp only [List.length_cons, List.length_append, List.length_nil]; omega
      · rw [show a :: ((u ++ w ++ con u) ++ [-a]) = (a :: (u ++ w ++ con u)) ++ [-a] from rfl, List.getLast?_append]
        simp
theorem ends_eq {u w : List Int} (c : Cy w) (z : w = [] → u = []) : ends (u ++ w ++ con u) = w :=
  endsN_eq _ u w c (by simp) z
/-- what is left of a ring -/
def rnd (xs : List Int) : List Int := ends (shr xs)
/-! ### turned -/
def Trn (xs ys : List Int) : Prop := ∃ p q, xs = p ++ q ∧ ys = q ++ p
/-! ### so many times one that is short round -/
end Fr
set_option Elab.async false
set_option linter.all false
set_option maxRecDepth 100000
set_option maxHeartbeats 2000000
/-! {e for x in xs}, e an int. -/
namespace WS
open PySem PySem.Spec PyProof.Rows L2 PpSet
/-- a set as it is when it is made -/
abbrev bareSet (w : World) : Obj := { cls := .type "set", dict := none, data := .set #[] 0 (.fresh 0 0 (!w.params.followText "set-order")) }
theorem bare_ok (w : World) (h : Heap) : SetR w (h.push (bareSet w)) h.objs.size (fun _ => false) 0 := by
  have led : w.params.followText "set-order" = true ∨ (!w.params.followText "set-order") = true := by
    cases w.params.followText "set-order"
    · right; rfl
    · left; rfl
  refine ⟨bareSet w, #[], 0, _, Heap.get?_push_size _ rfl, ⟨rfl, rfl, rfl⟩, rfl, ?_, ?_, ?_, by decide, rfl, rfl, List.Pairwise.nil, led⟩
  · intro e he; simp at he
  · simp
  · intro k; simp
/-- the new set at D, filled turn by turn -/
def Fills (w : World) (J : It) (g : TG) (tt : TT) (te : TE) (vs : List Nat) (σ : L2.St) (D : Addr) (Q : VK) (W : Nat → Nat → Hp → Prop) : Prop :=
  ∀ i m H, W i m H → (J.stop i H ∧ Q (.ref D) H) ∨ (J.go i H ∧ ∃ N : Hp → Prop, (∀ H', N H' → ∃ m', m' < m ∧ W (i + 1) m' H') ∧
    ∀ x H', J.yld i H x H' → g x (wipe σ vs) H' fun σ2 H2 => wipe σ2 vs = wipe σ vs ∧ tt σ2 H2 fun b H3 => if b = true then te σ2 H3 fun y H4 => rSAdd w (.ref D) [y] H4 fun _ H5 => N H5 else N H3)
def tSetI (w : World) (wi : TI) (g : TG) (tt : TT) (te : TE) (vs : List Nat) : TE := fun σ H Q => wi σ H fun J H1 => ∀ D, H1 D = none →
  ∃ W : Nat → Nat → Hp → Prop, (∃ m, W 0 m (upd H1 D (SetO w D (fun _ => false) 0))) ∧ Fills w J g tt te vs σ D Q W
section
variable {X : Cx}
/-- what a turn leaves known -/
def Known (X : Cx) (Z : Cx) (σw : L2.St) (fp : List Addr) (tn : Nat → Heap → Prop) (W : Nat → Nat → Hp → Prop) (m : Nat) (s : Shared) : Prop :=
  ∃ (i : Nat) (H : Hp), Inv Z [] σw H s ∧ tn i s.heap ∧ (∀ b ∈ fp, H b = none) ∧ W i m H
theorem fill_set {elt tg iter : Expr} {ifs : List Expr} {scope : Scope} {own : List (PySem.Str × Nat)} {pos : Pos} {g : TG} {tt : TT} {te : TE} {pins : List (Addr × Obj)} {σ : L2.St} {H3 : Hp} {s3 : Shared} {it D : Addr} {fp : List Addr} {tn : Nat → Heap → Prop} {J : It} {m0 : Nat} {W : Nat → Nat → Hp → Prop} {Q : VK}
    (calm : X.calm = true) (nod : X.N.Nodup) (blk : BlkOk X.N X.env.scope scope own)
    (target : ∀ (s : Shared) (H : Hp) (C : Addr) (cl : List (PySem.Str × Addr)) (fp : List Addr), PG (X.blk s H scope (compEnvC scope cl C X.env) fp) tg g)
    (tests : ∀ (s : Shared) (H : Hp) (C : Addr) (cl : List (PySem.Str × Addr)) (fp : List Addr), PTs (X.blk s H scope (compEnvC scope cl C X.env) fp) ifs tt)
    (item : ∀ (s : Shared) (H : Hp) (C : Addr) (cl : List (PySem.Str × Addr)) (fp : List Addr), PE (X.blk s H scope (compEnvC scope cl C X.env) fp) elt te)
    (T : Turn X.prog X.w X.K tg J fp it tn) (I3 : Inv X pins σ H3 s3) (off : ∀ b ∈ fp, FpOk X pins H3 b ∧ b < s3.heap.objs.size) (st3 : tn 0 s3.heap) (w0 : W 0 m0 H3) (turn : Fills X.w J g tt te (own.map (·.2)) σ D Q W) :
    codeAny (model X.prog X.w) X.A (.compStart (.SetComp elt [⟨tg, iter, ifs, 0⟩] scope pos) 0 (.ref it) (.ref D) (compEnvC scope (cellsFrom (s3.heap.objs.size + 1) scope.names (cloFrom X.env.cells scope.names [])) s3.heap.objs.size X.env))
      (compPost (model X.prog X.w) X.A X.xe none (EP X pins σ Q) (.ref D) s3.heap.objs.size) { s3 with heap := pushCells (s3.heap.push { cls := .type "dict", data := .dict #[] }) scope.names } := by
  have I4 := block_start I3 blk nod off
  have pg := target s3 H3 s3.heap.objs.size (cellsFrom (s3.heap.objs.size + 1) scope.names (cloFrom X.env.cells scope.names [])) fp
  have pt := tests s3 H3 s3.heap.objs.size (cellsFrom (s3.heap.objs.size + 1) scope.names (cloFrom X.env.cells scope.names [])) fp
  have pe := item s3 H3 s3.heap.objs.size (cellsFrom (s3.heap.objs.size + 1) scope.names (cloFrom X.env.cells scope.names [])) fp
  have st4 : tn 0 (pushCells (s3.heap.push { cls := .type "dict", data := .dict #[] }) scope.names) := T.keep _ _ _ st3 fun _ _ _ e => pushCells_keeps _ _ _ _ (Heap.get?_push_of_some _ e)
  obtain ⟨ce, ece⟩ : ∃ ce : Env, ce = compEnvC scope (cellsFrom (s3.heap.objs.size + 1) scope.names (cloFrom X.env.cells scope.names [])) s3.heap.objs.size X.env := ⟨_, rfl⟩
  have loc : ce.locals = s3.heap.objs.size := by rw [ece]; rfl
  rw [← ece] at I4 pg pt pe ⊢
  -- the places that the walk keeps
  have held : ∀ {σ' : L2.St} {H' : Hp} {s' : Shared}, Inv (X.blk s3 H3 scope ce fp) [] σ' H' s' → (∀ b ∈ fp, H' b = none) → ∀ b ∈ fp, FpOk (X.blk s3 H3 scope ce fp) [] H' b := by
    intro σ' H' s' I' none' b hb
    refine ⟨none' b hb, (I'.ok.exf b hb).1, I'.ok.exfs b hb, .inl hb, (I'.ok.exf b hb).2, fun p hp => ?_⟩
    simp at hp
  have all : codeAny (model X.prog X.w) X.A (.compLoop (.SetComp elt [⟨tg, iter, ifs, 0⟩] scope pos) 0 (.ref it) (.ref D) ce) (compPost (model X.prog X.w) X.A X.xe none (EP X pins σ Q) (.ref D) s3.heap.objs.size) { s3 with heap := pushCells (s3.heap.push { cls := .type "dict", data := .dict #[] }) scope.names } := by
    refine compLoopS_any (Known X (X.blk s3 H3 scope ce fp) (wipe σ (own.map (·.2))) fp tn W) (fun m s5 known => ?_) m0 ⟨0, H3, I4, st4, fun b hb => (off b hb).1.1, w0⟩
    obtain ⟨i, H5, I5, st5, none5, w5⟩ := known
    cases turn i m H5 w5 with
    | inl ended =>
      refine thnF (T.done (X.blk s3 H3 scope ce fp) rfl rfl rfl calm i [] s5 _ H5 (fun _ _ => False) I5 (held I5 none5) st5 ended.1) fun r s6 hr => ?_
      obtain ⟨rfl, I6⟩ := hr
      have back : Inv X pins σ H5 s6 := I3.call' (ch := fp) I6.os I6.base I6.hok I6.bare fun b hb => by
        obtain ⟨⟨_, f1, f2, f3, f4, f5⟩, _⟩ := off b hb
        exact ⟨f3, f1, f4, f5⟩
      have noL : H5 s3.heap.objs.size = none := by rw [← loc]; exact I6.free
      obtain ⟨mm, names, _⟩ := I6.loc
      have names' : s6.heap.Ns s3.heap.objs.size mm := by rw [← loc]; exact names
      obtain ⟨f0, f1, f2, f3, f4, f5⟩ := I3.fpOk (Nat.le_refl _) noL
      exact ⟨mm, names', fun h' same => ⟨.ref D, H5, back.turned (t' := s6.toks) (fun b o hb e => (same.2 b hb).trans e) f0 f1 f3 f4 f5, rfl, ended.2⟩⟩
    | inr goes =>
      obtain ⟨go, N, hN, step⟩ := goes
      refine thnF (T.item (X.blk s3 H3 scope ce fp) rfl rfl rfl calm i [] s5 _ H5 (fun _ _ => False) I5 (held I5 none5) st5 go) fun r s6 hr => ?_
      obtain ⟨u, rfl, h6⟩ := hr
      refine thnF h6 fun _ s7 h7 => ?_
      obtain ⟨x, H7, I7, r7, y7, st7, none7⟩ := h7
      refine thnF (pg.run _ s7 _ H7 x u _ (I7.pinned (held I7 none7) (T.obj _ _ st7)) r7 (step x H7 y7)) fun _ s8 h8 => ?_
      obtain ⟨σ8, H8, I8, wiped, q8⟩ := h8
      refine thnF (pt.run _ s8 σ8 H8 _ I8 q8) fun b s9 h9 => ?_
      obtain ⟨H9, I9, q9⟩ := h9
      have next : ∀ {s' : Shared} {H' : Hp}, Inv (X.blk s3 H3 scope ce fp) ([] ++ pinsAt fp s7.heap) σ8 H' s' → N H' → ∃ m', m' < m ∧ Known X (X.blk s3 H3 scope ce fp) (wipe σ (own.map (·.2))) fp tn W m' s' := by
        intro s' H' I' nx
        obtain ⟨m', lt, w'⟩ := hN H' nx
        have kept : ∀ b ∈ fp, ∀ o, s7.heap.get? b = some o → s'.heap.get? b = some o ∧ H' b = none := by
          intro b hb o e
          obtain ⟨z1, z2, _⟩ := I'.pin (b, o) (List.mem_append_right _ (List.mem_append_right _ (mem_pinsAt hb e)))
          exact ⟨z1, z2⟩
        have len : (wipe σ (own.map (·.2))).length = σ8.length := by rw [← wiped, wipe_length]
        refine ⟨m', lt, i + 1, H', (I'.unpinned (pins := [])).weak len (fun j v e => ?_), T.keep _ _ _ st7 fun b hb o e => (kept b hb o e).1, fun b hb => ?_, w'⟩
        · rw [← wiped] at e
          exact (wipe_some e).1
        · obtain ⟨o, e, _⟩ := T.obj _ _ st7 b hb
          exact (kept b hb o e).2
      cases b with
      | false =>
        rw [if_neg Bool.false_ne_true] at q9 ⊢
        exact next I9 q9
      | true =>
        rw [if_pos rfl] at q9 ⊢
        refine thnF (pe.run _ s9 σ8 H9 _ I9 q9) fun z s10 h10 => ?_
        obtain ⟨yv, H10, I10, r10, adds⟩ := h10
        refine thnF (mt_sadd (X := X.blk s3 H3 scope ce fp) _ s10 σ8 H10 (.ref D) [yv] (.ref D) [z] _ I10 rfl (.cons r10 .nil) adds) fun _ s11 h11 => ?_
        obtain ⟨_, H11, I11, _, nx⟩ := h11
        exact next I11 nx
  exact codeAny_compStart_set all (T.self X.A 0 _ _ _ st4 all)
theorem pe_setI {elt tg iter : Expr} {ifs : List Expr} {scope : Scope} {own : List (PySem.Str × Nat)} {pos : Pos} {wi : TI} {g : TG} {tt : TT} {te : TE} (calm : X.calm = true) (nod : X.N.Nodup) (walked : PI X tg iter wi) (blk : BlkOk X.N X.env.scope scope own)
    (target : ∀ (s : Shared) (H : Hp) (C : Addr) (cl : List (PySem.Str × Addr)) (fp : List Addr), PG (X.blk s H scope (compEnvC scope cl C X.env) fp) tg g)
    (tests : ∀ (s : Shared) (H : Hp) (C : Addr) (cl : List (PySem.Str × Addr)) (fp : List Addr), PTs (X.blk s H scope (compEnvC scope cl C X.env) fp) ifs tt)
    (item : ∀ (s : Shared) (H : Hp) (C : Addr) (cl : List (PySem.Str × Addr)) (fp : List Addr), PE (X.blk s H scope (compEnvC scope cl C X.env) fp) elt te) (plain : ∀ x, foldedSetIterable iter X.env x = pure x := by intro _; rfl) :
    PE X (.SetComp elt [⟨tg, iter, ifs, 0⟩] scope pos) (tSetI X.w wi g tt te (own.map (·.2))) := by
  refine ⟨fun pins s σ H Q I asked => ?_⟩
  rw [eval_SetComp]
  have caught : ∀ y ∈ scope.names, y.2 = .free → ∃ c, X.env.cells.lookup y.1 = some c := by
    intro y hy e
    cases blk.free y hy e with
    | inl k => exact I.ok.has _ (.inl k)
    | inr k => exact I.ok.has _ (.inr k)
  refine wpAny_comprehension_free (use := none) rfl plain (closure_ok caught) blk.kind (fun y hy e => by rw [blk.uniq y hy, e]) ?_
  refine thn (walked.run pins s σ H _ I asked) fun _ _ h1 => thn h1 fun _ s2 h2 => ?_
  obtain ⟨it, fp, tn, J, H2, rfl, I2, T, st2, off2, fill⟩ := h2
  refine newSet_ok (newEnv_comp ?_)
  have free0 : H2 s2.heap.objs.size = none := I2.hok.fresh (Nat.le_refl _)
  obtain ⟨W, ⟨m0, w0⟩, turn⟩ := fill s2.heap.objs.size free0
  have I3 : Inv X pins σ (upd H2 s2.heap.objs.size (SetO X.w s2.heap.objs.size (fun _ => false) 0)) { s2 with heap := s2.heap.push (bareSet X.w) } :=
    I2.laid (t' := s2.toks) (fun _ _ e => Heap.get?_push_of_some _ e) (Nat.le_refl _) (setO_new (bare_ok X.w s2.heap))
  have below : ∀ b ∈ fp, b < s2.heap.objs.size := by
    intro b hb
    obtain ⟨o, e, _⟩ := T.obj _ _ st2 b hb
    exact Heap.lt_size e
  have off3 : ∀ b ∈ fp, FpOk X pins (upd H2 s2.heap.objs.size (SetO X.w s2.heap.objs.size (fun _ => false) 0)) b ∧ b < (s2.heap.push (bareSet X.w)).objs.size := by
    intro b hb
    refine ⟨⟨?_, (off2 b hb).2⟩, by rw [Heap.size_push]; exact Nat.lt_succ_of_lt (below b hb)⟩
    rw [upd_ne (Nat.ne_of_lt (below b hb))]
    exact (off2 b hb).1
  exact fill_set calm nod blk target tests item T I3 off3 (T.keep _ _ _ st2 fun _ _ _ e => Heap.get?_push_of_some _ e) w0 turn
end
end WS
set_option Elab.async false
set_option linter.all false
set_option maxRecDepth 100000
set_option maxHeartbeats 2000000
/-! t[::-1]; tuple * int for 0 and 1. -/
namespace WR
open PySem PySem.Spec PyProof.Rows L2
/-- some tuple of these values, all else as it stood -/
def NewT (K : PySem.W.Frag) (H : Hp) (Q : VK) (xs : List V) : Prop := ∀ p H', Same H H' → SqT K H' p xs → Q (.ref p) H'
theorem same_upd {H : Hp} {p : Addr} {o : HO} (hp : H p = none) : Same H (upd H p o) := fun b u e => by
  rw [upd_ne (ne_of_none e hp)]
  exact e
theorem Same.seqT {K : PySem.W.Frag} {H H' : Hp} {a : Addr} {xs : List V} (e : Same H H') (h : SqT K H a xs) : SqT K H' a xs := by
  rcases h with h | h
  · left
    rcases h with h | ⟨o, h⟩
    · exact .inl (e _ _ h)
    · exact .inr ⟨o, e _ _ h⟩
  · exact .inr h
theorem NewT.self {K : PySem.W.Frag} {H : Hp} {Q : VK} {xs : List V} {a : Addr} (k : NewT K H Q xs) (h : SqT K H a xs) : Q (.ref a) H := k a H (Same.refl H) h
end WR
set_option Elab.async false
set_option linter.all false
set_option maxRecDepth 100000
set_option maxHeartbeats 1000000
/-! Tuples that have no dict of their own: a method of theirs can be called (t.count(x)). tuple(..), slices, + and * make such. -/
namespace WB
open PySem PySem.Spec PyProof PyProof.Rows L2 WR
/-- no dict of its own -/
def Bare (H : Hp) (a : Addr) : Prop := ∃ (o : Obj) (u : HO), H a = some (.frz o u) ∧ o.dict = none
structure SqB (K : PySem.W.Frag) (H : Hp) (a : Addr) (xs : List V) : Prop where
  sq : SqT K H a xs
  bare : Bare H a
instance {K : PySem.W.Frag} {H : Hp} {a : Addr} {xs : List V} : Coe (SqB K H a xs) (SqT K H a xs) := ⟨SqB.sq⟩
theorem SqB.same {K : PySem.W.Frag} {H H' : Hp} {a : Addr} {xs : List V} (s : Same H H') (h : SqB K H a xs) : SqB K H' a xs := by
  obtain ⟨h1, h2⟩ := h
  refine ⟨WR.Same.seqT s h1, ?_⟩
  obtain ⟨o, u, e, d⟩ := h2
  exact ⟨o, u, s _ _ e, d⟩
/-- some such tuple of these values, all else as it stood -/
def NewB (K : PySem.W.Frag) (H : Hp) (Q : VK) (xs : List V) : Prop := ∀ p H', Same H H' → SqB K H' p xs → Q (.ref p) H'
theorem NewB.self {K : PySem.W.Frag} {H : Hp} {Q : VK} {xs : List V} {a : Addr} (k : NewB K H Q xs) (h : SqB K H a xs) : Q (.ref a) H := k a H (Same.refl H) h
theorem NewB.new {K : PySem.W.Frag} {H : Hp} {Q : VK} {xs : List V} (k : NewB K H Q xs) {p : Addr} (hp : H p = none) {o : Obj} (d : o.dict = none) : Q (.ref p) (upd H p (.frz o (.tup xs))) :=
  k p _ (same_upd hp) ⟨.inl (.inr ⟨o, upd_same⟩), ⟨o, _, upd_same, d⟩⟩
section
variable {X : Cx} {pins : List (Addr × Obj)} {σ : L2.St} {H : Hp} {s : Shared} {Q : VK} {xs : List V} {its : List Value}
/-- a new tuple of these -/
theorem born (I : Inv X pins σ H s) {h1 : Heap} (kp : ∀ b o, s.heap.get? b = some o → h1.get? b = some o) (r : Vals xs its) (hz : xs.length ≤ sizeLine) (k : NewB X.K H Q xs) :
    ∃ (v : V) (H2 : Hp), Inv X pins σ H2 { s with heap := h1.push { cls := .type "tuple", data := .seq its.toArray } } ∧ RelV v (.ref h1.objs.size) ∧ Q v H2 := by
  have J : Inv X pins σ H { s with heap := h1 } := I.kept (t' := s.toks) kp
  have hn := J.hok.fresh (Nat.le_refl h1.objs.size)
  have new : (h1.push { cls := .type "tuple", data := .seq its.toArray }).get? h1.objs.size = some { cls := .type "tuple", data := .seq its.toArray } := Heap.get?_push_size _ rfl
  exact ⟨.ref _, _, J.laid (t' := s.toks) (o := .frz { cls := .type "tuple", data := .seq its.toArray } (.tup xs)) (fun _ _ e => Heap.get?_push_of_some _ e) (Nat.le_refl _) ⟨new, hz, its, r, IsTup.new _ _⟩, rfl, k.new hn rfl⟩
theorem call_tupB : CallR X (.type "tuple") (fun xs H Q => ∃ p ys, xs = [.ref p] ∧ ((SqL X.K H p ys ∧ NewB X.K H Q ys) ∨ (SqB X.K H p ys ∧ Q (.ref p) H))) := by
  intro pins s σ H vs us Q I r h
  obtain ⟨p, ys, rfl, h⟩ := h
  obtain ⟨u, rfl, rx⟩ := vals1 r
  cases rx
  rcases h with ⟨hq, q⟩ | ⟨hq, q⟩
  · obtain ⟨its, rv, pl, hz⟩ := I.list hq
    exact call_tuple_list pl.isList (fun h1 kp => born I kp rv hz q) (by rw [List.size_toArray, ← rv.length]; exact hz)
  · obtain ⟨its, rv, pl, _⟩ := I.tuple hq.sq
    exact call_tuple_same pl ⟨.ref p, H, I, rfl, q⟩
/-- a display -/
theorem pe_tupB {es : List Expr} {t : TA} {pos : Pos} {x1} (h : PA X es t) : PE X (.Tuple es x1 pos) (fun σ H Q => t σ H fun xs H1 => xs.length ≤ sizeLine ∧ NewB X.K H1 Q xs) := by
  constructor
  intro pins s σ H Q I hq
  refine wpAny_Tuple_spliced (thn (h.run pos pins s σ H _ I hq) fun us s1 z => ?_)
  obtain ⟨xs, H1, I1, r, z, q⟩ := z
  exact ⟨by rw [← r.length]; exact z, born I1 (fun _ _ e => e) r z q⟩
def rSlB (K : PySem.W.Frag) : V → Option Int → Option Int → Hp → VK → Prop := fun x lo hi H Q => ∃ a xs, x = .ref a ∧ SqB K H a xs ∧ NewB K H Q (cutV xs lo hi)
theorem sl_tupB : SlR X (rSlB X.K) := by
  intro pins s σ H x v vl vu lo hi sl Q I rx hs pl pu h
  obtain ⟨a, xs, rfl, hx, k⟩ := h
  cases rx
  obtain ⟨its, r, ht, hz⟩ := I.tuple hx.sq
  have hlen : its.toArray.size = xs.length := List.size_toArray.trans r.length.symm
  refine ⟨"tuple", _, PyProof.Rows.slot_tuple_getitem.lookup, ht.typeIs, ?_⟩
  by_cases hw : HT.sIx xs.length 0 lo = 0 ∧ HT.sIx xs.length xs.length hi = xs.length
  · have e : cutV xs lo hi = xs := by
      unfold cutV
      rw [hw.1, hw.2, List.drop_zero, Nat.sub_zero, List.take_of_length_le (Nat.le_refl _)]
    rw [e] at k
    exact getItem_tuple_whole ht hs pl pu (hlen.symm ▸ hw) ⟨.ref a, H, I, rfl, k.self hx⟩
  · refine HT.getItem_tuple_cut ht hs pl pu (hlen.symm ▸ hw) ?_ (hlen.symm ▸ hz)
    rw [hlen]
    exact born I (fun _ _ e => e) ((r.drop _).take _) (Nat.le_trans (cutV_length xs lo hi) hz) k
def rCatB (K : PySem.W.Frag) : R2 := fun x y H Q => ∃ a b xs ys, x = .ref a ∧ y = .ref b ∧ SqB K H a xs ∧ SqB K H b ys ∧ xs.length + ys.length ≤ sizeLine ∧ NewB K H Q (xs ++ ys)
theorem op_catB : OpR X (binaryOp .Add) (rCatB X.K) := by
  intro pins s σ H x y v u Q I rx ry h
  obtain ⟨a, b, xs, ys, rfl, rfl, ha, hb, hz, k⟩ := h
  by_cases hx : xs = []
  · subst hx
    exact op_catA pins s σ H _ _ v u Q I rx ry ⟨a, b, [], ys, rfl, rfl, ha.sq, hb.sq, hz, fun _ => k.self hb, fun z => absurd rfl z, fun z => absurd rfl z⟩
  cases rx
  cases ry
  obtain ⟨its, r1, p1, _⟩ := I.tuple ha.sq
  obtain ⟨its2, r2, p2, _⟩ := I.tuple hb.sq
  refine HT.cat_tup p1 p2 (fun z => hx (r1.nil_iff.mp z)) (fun z => ?_) (fun z => ?_) (r1.length ▸ r2.length ▸ hz)
  · have e := r2.nil_iff.mp z
    subst e
    rw [List.append_nil] at k
    exact ⟨.ref a, H, I, rfl, k.self ha⟩
  · exact born I (fun _ _ e => e) (r1.append r2) (by rw [List.length_append]; exact hz) k
end
end WB
set_option Elab.async false
set_option linter.all false
set_option maxRecDepth 100000
set_option maxHeartbeats 2000000
/-! Words: rows of letters. -/
namespace W17
open PySem L2 PySem.Spec PyProof.Rows WR WB
def top (i : Nat) : Stmt := PySem.Challenge.pw_handlerims_k17_a_letter_and_its_contrary.main.body.getD i (.Pass ⟨0, 0, 0, 0⟩)
abbrev sShr : Stmt := top 29
abbrev sRnd : Stmt := top 30
theorem gen_heap {P : Hp → Prop} {H : Hp} (h : ∀ H3, H3 = H → P H3) : P H := h H rfl
theorem yes_te {σ : L2.St} {H : Hp} {A B : Hp → Prop} (h : A H) : tYes σ H (fun b H3 => if b = true then A H3 else B H3) := by
  show (if (true : Bool) = true then A H else B H)
  exact iteT h
/-! ### a def that the module's name x holds, with its promise -/
structure Cal (P : Program) (w : World) (K : PySem.W.Frag) (mg : Str → Option Value) (base : Heap) (x : Str) (k : Nat) (ps : List Str) (sp : Sp) : Prop where
  ex : ∃ (f : Addr) (fd : FuncData), FnOk P w K mg base CX0 k f fd ps sp ∧ mg x = some (.ref f) ∧ PySem.W.keepIn K (.ref f) = true ∧ Binds K fd ps []
section
variable {X : Cx} {x : Str} {k j : Nat} {ps : List Str} {sp : Sp} {p pos : Pos} {e : Expr} {es : List Expr} {t : TA}
theorem pe_cal (C : Cal X.prog X.w X.K X.mg X.base x k ps sp) (hr : Room j X.A) (hkj : k ≤ j) (hg : Gl X x) (ha : PA X (e :: es) t) (hdb : (x == ("__debug__" : Str)) = false := by decide)
    (he : starEach (e :: es) X.env = (false, eval e X.env) :: starEach es X.env := by rfl) (hpl : (backTo pos (starEach es X.env)).any (·.1) = false := by rfl) :
    PE X (.Call (.Name x p) (e :: es) [] pos) (tCall sp [] E0 t) := by
  obtain ⟨f, fd, F, hm, hk, hb⟩ := C.ex
  exact pe_call F (hr.mono hkj) hg hm hk hb .nil pass0 ha hdb he hpl
end
/-! ### comprehensions that change nothing -/
theorem lc_in {wi : TI} {g : TG} {tt : TT} {te : TE} {vs : List Nat} {σ : L2.St} {H : Hp} {Q : VK} (h : wi σ H fun J H1 => tLc (fun _ H R => R J H) g tt te vs σ H1 Q) : tLc wi g tt te vs σ H Q := h
theorem lcp {J : It} {xs : List V} {G : Hp → Prop} (w : Walk J xs.length G (YAt xs)) {g : TG} {tt : TT} {te : TE} {vs : List Nat} {σ : L2.St} {H1 : Hp} {Q : VK} (f : V → Bool) (v : V → V) (hz : xs.length < 40000) (hG : ∀ H, Same H1 H → G H)
    (hs : ∀ x, x ∈ xs → ∀ H, Same H1 H → ∀ (Qy : V → Hp → Prop) (Qn : Hp → Prop), (f x = true → ∀ H', Same H H' → Qy (v x) H') → (f x = false → ∀ H', Same H H' → Qn H') →
      g x (wipe σ vs) H fun σ2 H2 => wipe σ2 vs = wipe σ vs ∧ tt σ2 H2 fun b H3 => if b = true then te σ2 H3 Qy else Qn H3)
    (hd : ∀ (D : Addr) H', H1 D = none → Same H1 H' → H' D = some (.lst ((xs.filter f).map v)) → Q (.ref D) H') : tLc (fun _ H R => R J H) g tt te vs σ H1 Q := by
  intro D hD
  refine lc_it w (fun i H => Same H1 H ∧ H D = some (.lst (((xs.take i).filter f).map v))) ⟨fun b o e => by rw [upd_ne (ne_of_none e hD)]; exact e, upd_same⟩ (fun i H _ q => hG H q.1) ?_ ?_
  · rintro i x H H' hi q ⟨rfl, hx⟩
    have hm : x ∈ xs := List.mem_of_getElem? hx
    have et : xs.take (i + 1) = xs.take i ++ [x] := by
      have hx2 : xs[i] = x := (List.getElem?_eq_some_iff.mp hx).2
      rw [List.take_succ_eq_append_getElem hi, hx2]
    refine hs x hm H' q.1 _ _ (fun hf H2 s2 => ⟨_, s2 _ _ q.2, ?_, ?_, ?_⟩) (fun hf H2 s2 => ⟨fun b o e => s2 b o (q.1 b o e), ?_⟩)
    · refine Evl.sz_lt ?_
      rw [List.length_map]
      have := List.length_filter_le f (xs.take i)
      rw [List.length_take] at this
      omega
    · intro b o e
      rw [upd_ne (ne_of_none e hD)]
      exact s2 b o (q.1 b o e)
    · rw [upd_same, et, List.filter_append, List.map_append, List.filter_cons, if_pos hf]
      rfl
    · rw [et, List.filter_append, List.filter_cons, if_neg (by rw [hf]; decide)]
      show H2 D = some (.lst (((xs.take i).filter f ++ []).map v))
      rw [List.append_nil]
      exact s2 _ _ q.2
  · intro H q
    have q2 := q.2
    rw [List.take_length] at q2
    exact hd D H hD q.1 q2
theorem iteT' {c : Bool} {A B : Prop} (hc : c = true) (h : A) : if c = true then A else B := by rw [if_pos hc]; exact h
abbrev iv (ns : List Int) : List V := ns.map V.int
def SqE (K : PySem.W.Frag) (H : Hp) (a : Addr) (xs : List V) : Prop := SqL K H a xs ∨ SqT K H a xs
theorem SqE.same {K : PySem.W.Frag} {H H' : Hp} {a : Addr} {xs : List V} (h : SqE K H a xs) (s : Same H H') : SqE K H' a xs := by
  rcases h with h | h
  · exact .inl (s.seq h)
  · exact .inr (WR.Same.seqT s h)
def SqW (K : PySem.W.Frag) (H : Hp) (a : Addr) (xs : List V) : Prop := SqL K H a xs ∨ SqB K H a xs
theorem SqW.same {K : PySem.W.Frag} {H H' : Hp} {a : Addr} {xs : List V} (h : SqW K H a xs) (s : Same H H') : SqW K H' a xs := by
  rcases h with h | h
  · exact .inl (s.seq h)
  · exact .inr (SqB.same s h)
theorem SqW.e {K : PySem.W.Frag} {H : Hp} {a : Addr} {xs : List V} (h : SqW K H a xs) : SqE K H a xs := h.imp id SqB.sq
def spShr (K : PySem.W.Frag) : Sp := fun vs H Q _ => ∃ (a : Addr) (ns : List Int), vs = [.ref a] ∧ SqE K H a (iv ns) ∧ ns.length ≤ 1000 ∧ NewB K H Q (iv (Fr.shr ns))
def spRnd (K : PySem.W.Frag) : Sp := fun vs H Q _ => ∃ (a : Addr) (ns : List Int), vs = [.ref a] ∧ SqE K H a (iv ns) ∧ ns.length ≤ 1000 ∧ Fr.NZ ns ∧ NewB K H Q (iv (Fr.rnd ns))
structure TxA (mg : Str → Option Value) : Prop where
  tuple : mg "tuple" = none
  len : mg "len" = none
section
variable {P : Program} {w : World} {K : PySem.W.Frag} {mg : Str → Option Value} {base : Heap}
theorem scShr : FnScope ["letters", "left", "letter"] ["letters"] (defScope sShr) := ⟨rfl, rfl, rfl, by decide +kernel, rfl, by decide +kernel, by decide +kernel⟩
theorem act_take {ns : List Int} {i : Nat} {x : Int} (h : ns[i]? = some x) : Fr.act [] (ns.take (i + 1)) = Fr.push (Fr.act [] (ns.take i)) x := by
  have hi : i < ns.length := (List.getElem?_eq_some_iff.mp h).1
  have hx : ns[i] = x := (List.getElem?_eq_some_iff.mp h).2
  rw [List.take_succ_eq_append_getElem hi, hx, Fr.act_snoc]
theorem act_len : ∀ (ns s : List Int), (Fr.act s ns).length ≤ s.length + ns.length
  | [], s => by simp [Fr.act]
  | a :: t, s => by
    rw [Fr.act_cons]
    have h1 := act_len t (Fr.push s a)
    have h2 : (Fr.push s a).length ≤ s.length + 1 := by
      cases s with
      | nil => simp [Fr.push]
      | cons b u =>
        show (if b = -a then u else a :: b :: u).length ≤ _
        split <;> simp <;> omega
    simp only [List.length_cons]
    omega
theorem shr_len (ns : List Int) : (Fr.shr ns).length ≤ ns.length := by
  unfold Fr.shr
  rw [List.length_reverse]
  simpa using act_len ns []
theorem ok_shr {f : Addr} {fd : FuncData} (F : Fun K "shortened_letters" "shortened_letters" sShr f fd) (T : TxA mg) : FnOk P w K mg base CX0 1 f fd ["letters"] (spShr K) := by
  refine F.ok scShr (fun vs H Q E h => ?_) (fun cdv A outer s H vs Q E hr h => ?_)
  · obtain ⟨a, ns, rfl, _⟩ := h
    rfl
  · obtain ⟨a, ns, rfl, hS, hlen, k⟩ := h
    rcases hS with hS | hS
    · refine ⟨_, pss_cons (ps_set (i := 1) scShr.nd rfl (Or.inl rfl) (pe_lst pa_nil))
        (pss_cons (ps_for PassesOwn.never rfl (pi_list (pv 0)) (pg_name (i := 2) scShr.nd rfl (Or.inl rfl))
          (pss_one (ps_if (PW.pt (pw_and (pt_truth (pv 1) (by intro _; rfl)) (pw_and1 (pt_cmpR op_eq (pe_ix ix_list (pv 1) (pe_un un_neg pe_int) (fun _ _ => rfl)) (pe_un un_neg (pv 2)) (nomark _)))))
            (pss_one (ps_expr (pe_bm0 PySem.F.plainAttrs_list PySem.F.slot_list_pop PySem.F.type_list_pop mt_pop (pv 1))))
            (pss_one (ps_expr (pe_bm PySem.F.plainAttrs_list PySem.F.slot_list_append PySem.F.type_list_append mt_append (pv 1) (pa_cons (pv 2) pa_nil)))))))
        (pss_one (ps_ret (pe_callTy call_tupB (by rfl) T.tuple (by decide +kernel) (pa_cons (pv 1) pa_nil))))), ?_⟩
      refine ⟨Nat.zero_le _, fun l hl => ?_⟩
      refine ⟨_, rfl, a, rfl, ⟨_, (by have s := same_upd (o := HO.lst []) hl; exact (s.seq hS))⟩, for_list (K := K) (a := a) (xs := iv ns) (fun i σ H1 => ∃ v, σ = [some (.ref a), some (.ref l), v] ∧ Same H H1 ∧ H1 l = some (.lst (iv (Fr.act [] (ns.take i)).reverse)))
        ⟨none, rfl, same_upd hl, by rw [upd_same]; rfl⟩ (fun i σ H1 _ ⟨_, _, s, _⟩ => (s.seq hS)) ?_ ?_⟩
      · rintro i y σ H1 hi ⟨v, rfl, sm, hL⟩
        obtain ⟨x, hx, rfl⟩ : ∃ x, ns[i]? = some x ∧ y = V.int x := by
          rw [List.getElem?_map] at hi
          cases e : ns[i]? with
          | none => rw [e] at hi; cases hi
          | some x => rw [e] at hi; exact ⟨x, rfl, (Option.some.inj hi).symm⟩
        have hi2 : i < ns.length := (List.getElem?_eq_some_iff.mp hx).1
        have nx := act_take hx
        have hsz : (Fr.act [] (ns.take i)).length ≤ 1000 := by
          have := act_len (ns.take i) []
          rw [List.length_take] at this
          simp at this
          omega
        have put : ∀ xs, Same H (L2.upd H1 l (.lst xs)) := fun xs b o e => by
          rw [upd_ne (ne_of_none e hl)]
          exact sm b o e
        refine ⟨_, rfl, _, .inl ⟨_, SqL.of hL, rfl⟩, ?_⟩
        cases est : Fr.act [] (ns.take i) with
        | nil =>
          rw [est] at hL nx
          refine iteF ?_
          refine iteF ?_
          refine ⟨_, rfl, .inl ⟨rfl, _, SqL.of hL⟩, _, rfl, l, _, _, rfl, rfl, hL, Evl.sz_lt (by simp), ?_⟩
          refine ⟨_, rfl, put _, ?_⟩
          rw [upd_same, nx]
          rfl
        | cons b t =>
          rw [est] at hL nx hsz
          have eL : iv (b :: t).reverse = iv t.reverse ++ [V.int b] := by simp [iv]
          refine iteT' (by simp [iv]) ?_
          refine ⟨_, rfl, _, rfl, l, _, _, _, rfl, rfl, SqL.of hL, (by rw [eL]; exact atI_last _ _), _, rfl, x, rfl, rfl, _, rfl, ?_⟩
          refine ite2 (fun hb => ?_) (fun hb => ?_)
          · have eb : b = -x := by
              have := of_decide_eq_true hb
              injection this
            refine ⟨_, rfl, .inl ⟨rfl, _, SqL.of hL⟩, l, _, V.int b, rfl, rfl, hL, (by rw [eL]; simp), ?_⟩
            refine ⟨_, rfl, put _, ?_⟩
            rw [upd_same, nx]
            have : Fr.push (b :: t) x = t := by simp [Fr.push, eb]
            rw [this, eL, List.dropLast_concat]
          · have eb : ¬ b = -x := fun e => hb (decide_eq_true (by rw [e]))
            refine ⟨_, rfl, .inl ⟨rfl, _, SqL.of hL⟩, _, rfl, l, _, _, rfl, rfl, hL, Evl.sz_lt (by simp [iv] at hsz ⊢; omega), ?_⟩
            refine ⟨_, rfl, put _, ?_⟩
            rw [upd_same, nx]
            have : Fr.push (b :: t) x = x :: b :: t := by simp [Fr.push, eb]
            rw [this]
            simp [iv]
      · rintro σ H1 ⟨v, rfl, sm, hL⟩
        rw [List.take_of_length_le (by simp)] at hL
        exact ⟨_, rfl, l, _, rfl, .inl ⟨SqL.of hL, fun p H3 s3 b3 => k p H3 (sm.trans s3) b3⟩⟩
    · refine ⟨_, pss_cons (ps_set (i := 1) scShr.nd rfl (Or.inl rfl) (pe_lst pa_nil))
        (pss_cons (ps_for PassesOwn.never rfl (pi_tup (pv 0)) (pg_name (i := 2) scShr.nd rfl (Or.inl rfl))
          (pss_one (ps_if (PW.pt (pw_and (pt_truth (pv 1) (by intro _; rfl)) (pw_and1 (pt_cmpR op_eq (pe_ix ix_list (pv 1) (pe_un un_neg pe_int) (fun _ _ => rfl)) (pe_un un_neg (pv 2)) (nomark _)))))
            (pss_one (ps_expr (pe_bm0 PySem.F.plainAttrs_list PySem.F.slot_list_pop PySem.F.type_list_pop mt_pop (pv 1))))
            (pss_one (ps_expr (pe_bm PySem.F.plainAttrs_list PySem.F.slot_list_append PySem.F.type_list_append mt_append (pv 1) (pa_cons (pv 2) pa_nil)))))))
        (pss_one (ps_ret (pe_callTy call_tupB (by rfl) T.tuple (by decide +kernel) (pa_cons (pv 1) pa_nil))))), ?_⟩
      refine ⟨Nat.zero_le _, fun l hl => ?_⟩
      refine ⟨_, rfl, a, rfl, ⟨_, (by have s := same_upd (o := HO.lst []) hl; exact (WR.Same.seqT s hS))⟩, for_tup (K := K) (a := a) (xs := iv ns) (fun i σ H1 => ∃ v, σ = [some (.ref a), some (.ref l), v] ∧ Same H H1 ∧ H1 l = some (.lst (iv (Fr.act [] (ns.take i)).reverse)))
        ⟨none, rfl, same_upd hl, by rw [upd_same]; rfl⟩ (fun i σ H1 _ ⟨_, _, s, _⟩ => (WR.Same.seqT s hS)) ?_ ?_⟩
      · rintro i y σ H1 hi ⟨v, rfl, sm, hL⟩
        obtain ⟨x, hx, rfl⟩ : ∃ x, ns[i]? = some x ∧ y = V.int x := by
          rw [List.getElem?_map] at hi
          cases e : ns[i]? with
          | none => rw [e] at hi; cases hi
          | some x => rw [e] at hi; exact ⟨x, rfl, (Option.some.inj hi).symm⟩
        have hi2 : i < ns.length := (List.getElem?_eq_some_iff.mp hx).1
        have nx := act_take hx
        have hsz : (Fr.act [] (ns.take i)).length ≤ 1000 := by
          have := act_len (ns.take i) []
          rw [List.length_take] at this
          simp at this
          omega
        have put : ∀ xs, Same H (L2.upd H1 l (.lst xs)) := fun xs b o e => by
          rw [upd_ne (ne_of_none e hl)]
          exact sm b o e
        refine ⟨_, rfl, _, .inl ⟨_, SqL.of hL, rfl⟩, ?_⟩
        cases est : Fr.act [] (ns.take i) with
        | nil =>
          rw [est] at hL nx
          refine iteF ?_
          refine iteF ?_
          refine ⟨_, rfl, .inl ⟨rfl, _, SqL.of hL⟩, _, rfl, l, _, _, rfl, rfl, hL, Evl.sz_lt (by simp), ?_⟩
          refine ⟨_, rfl, put _, ?_⟩
          rw [upd_same, nx]
          rfl
        | cons b t =>
          rw [est] at hL nx hsz
          have eL : iv (b :: t).reverse = iv t.reverse ++ [V.int b] := by simp [iv]
          refine iteT' (by simp [iv]) ?_
          refine ⟨_, rfl, _, rfl, l, _, _, _, rfl, rfl, SqL.of hL, (by rw [eL]; exact atI_last _ _), _, rfl, x, rfl, rfl, _, rfl, ?_⟩
          refine ite2 (fun hb => ?_) (fun hb => ?_)
          · have eb : b = -x := by
              have := of_decide_eq_true hb
              injection this
            refine ⟨_, rfl, .inl ⟨rfl, _, SqL.of hL⟩, l, _, V.int b, rfl, rfl, hL, (by rw [eL]; simp), ?_⟩
            refine ⟨_, rfl, put _, ?_⟩
            rw [upd_same, nx]
            have : Fr.push (b :: t) x = t := by simp [Fr.push, eb]
            rw [this, eL, List.dropLast_concat]
          · have eb : ¬ b = -x := fun e => hb (decide_eq_true (by rw [e]))
            refine ⟨_, rfl, .inl ⟨rfl, _, SqL.of hL⟩, _, rfl, l, _, _, rfl, rfl, hL, Evl.sz_lt (by simp [iv] at hsz ⊢; omega), ?_⟩
            refine ⟨_, rfl, put _, ?_⟩
            rw [upd_same, nx]
            have : Fr.push (b :: t) x = x :: b :: t := by simp [Fr.push, eb]
            rw [this]
            simp [iv]
      · rintro σ H1 ⟨v, rfl, sm, hL⟩
        rw [List.take_of_length_le (by simp)] at hL
        exact ⟨_, rfl, l, _, rfl, .inl ⟨SqL.of hL, fun p H3 s3 b3 => k p H3 (sm.trans s3) b3⟩⟩
end
end W17
set_option Elab.async false
set_option linter.all false
set_option maxRecDepth 100000
set_option maxHeartbeats 2000000
namespace W17
open PySem L2 PySem.Spec PyProof.Rows WR WB
section
variable {P : Program} {w : World} {K : PySem.W.Frag} {mg : Str → Option Value} {base : Heap}
theorem iteF' {c : Bool} {A B : Prop} (hc : c = false) (h : B) : if c = true then A else B := by rw [if_neg (by rw [hc]; exact Bool.false_ne_true)]; exact h
theorem iv_get {ns : List Int} {i : Nat} {x : Int} (h : ns[i]? = some x) : (iv ns)[i]? = some (V.int x) := by
  rw [List.getElem?_map, h]
  rfl
theorem con_get {u : List Int} {j : Nat} (h : j < u.length) : (Fr.con u)[u.length - 1 - j]? = some (-u[j]) := by
  unfold Fr.con
  rw [List.getElem?_map, List.getElem?_reverse (by omega)]
  have e : u.length - 1 - (u.length - 1 - j) = j := by omega
  rw [e, List.getElem?_eq_getElem h]
  rfl
theorem whole_len (u w : List Int) : (u ++ w ++ Fr.con u).length = 2 * u.length + w.length := by
  rw [List.length_append, List.length_append, Fr.con_length]
  omega
theorem whole_lo {u w : List Int} {j : Nat} (h : j < u.length) : (u ++ w ++ Fr.con u)[j]? = some u[j] := by
  rw [List.append_assoc, List.getElem?_append_left h, List.getElem?_eq_getElem h]
theorem whole_hi {u w : List Int} {j : Nat} (h : j < u.length) : (u ++ w ++ Fr.con u)[2 * u.length + w.length - 1 - j]? = some (-u[j]) := by
  rw [List.getElem?_append_right (by rw [List.length_append]; omega), List.length_append]
  have e : 2 * u.length + w.length - 1 - j - (u.length + w.length) = u.length - 1 - j := by omega
  rw [e, con_get h]
theorem mid_lo {u w : List Int} (hw : w ≠ []) : (u ++ w ++ Fr.con u)[u.length]? = w.head? := by
  have : 0 < w.length := List.length_pos_iff.mpr hw
  rw [List.append_assoc, List.getElem?_append_right (Nat.le_refl _), Nat.sub_self, List.getElem?_append_left this, List.head?_eq_getElem?]
theorem mid_hi {u w : List Int} (hw : w ≠ []) : (u ++ w ++ Fr.con u)[2 * u.length + w.length - 1 - u.length]? = w.getLast? := by
  have : 0 < w.length := List.length_pos_iff.mpr hw
  rw [List.append_assoc, List.getElem?_append_right (by omega)]
  have e : 2 * u.length + w.length - 1 - u.length - u.length = w.length - 1 := by omega
  rw [e, List.getElem?_append_left (by omega), List.getLast?_eq_getElem?]
theorem whole_cut (u w : List Int) : ((u ++ w ++ Fr.con u).drop u.length).take w.length = w := by
  rw [List.append_assoc, List.drop_left, List.take_left]
theorem scRnd : FnScope ["letters", "left", "skipped"] ["letters"] (defScope sRnd) := ⟨rfl, rfl, rfl, by decide +kernel, rfl, by decide +kernel, by decide +kernel⟩
theorem cut_nat {xs : List V} {i j : Nat} (hi : i ≤ xs.length) (hj : j ≤ xs.length) : cutV xs (some (i : Int)) (some (j : Int)) = (xs.drop i).take (j - i) := by
  unfold cutV
  rw [HT.sIx_nat, HT.sIx_nat, Nat.min_eq_left hi, Nat.min_eq_left hj]
theorem ok_rnd {f : Addr} {fd : FuncData} (F : Fun K "rounded_letters" "rounded_letters" sRnd f fd) (GS : Cal P w K mg base "shortened_letters" 1 ["letters"] (spShr K)) (T : TxA mg) : FnOk P w K mg base CX0 2 f fd ["letters"] (spRnd K) := by
  refine F.ok scRnd (fun vs H Q E h => ?_) (fun cdv A outer s H vs Q E hr h => ?_)
  · obtain ⟨a, ns, rfl, _⟩ := h
    rfl
  · obtain ⟨a, ns, rfl, hS, hlen, nz, k⟩ := h
    refine ⟨_, pss_cons (ps_set (i := 1) scRnd.nd rfl (Or.inl rfl) (pe_cal GS hr (by decide) (by rfl) (pa_cons (pv 0) pa_nil)))
      (pss_cons (ps_set (i := 2) scRnd.nd rfl (Or.inl rfl) pe_int)
      (pss_cons (ps_while PassesOwn.never (PW.pt (pw_and (pt_cmpR op_lt (pe_op op_mul pe_int (pv 2)) (pe_callB call_len_seq (by rfl) T.len PySem.boot_len (pa_cons (pv 1) pa_nil)) (nomark _))
          (pw_and1 (pt_cmpR op_eq (pe_ix ix_tup (pv 1) (pv 2) (fun _ _ => rfl)) (pe_un un_neg (pe_ix ix_tup (pv 1) (pe_op op_sub (pe_op op_sub (pe_callB call_len_seq (by rfl) T.len PySem.boot_len (pa_cons (pv 1) pa_nil)) pe_int) (pv 2)) (fun _ _ => rfl))) (nomark _)))))
        (pss_one (ps_aug (i := 2) scRnd.nd rfl (Or.inl rfl) pe_int ip_add)))
      (pss_one (ps_ret (pe_slice sl_tupB (pv 1) (po_some (pv 2)) (po_some (pe_op op_sub (pe_callB call_len_seq (by rfl) T.len PySem.boot_len (pa_cons (pv 1) pa_nil)) (pv 2)))))))), ?_⟩
    refine ⟨_, rfl, a, ns, rfl, hS, hlen, fun p H1 sm hPB => ?_⟩
    obtain ⟨u, m, e, c, z⟩ := Fr.parted (Fr.shr ns) nz.shr (Fr.rd_shr ns)
    have er : Fr.rnd ns = m := by
      unfold Fr.rnd
      rw [e, Fr.ends_eq c z]
    rw [er] at k
    have hl := shr_len ns
    rw [e] at hPB hl
    have hP := hPB.sq
    rw [whole_len] at hl
    have L : (iv (u ++ m ++ Fr.con u)).length = 2 * u.length + m.length := by rw [List.length_map, whole_len]
    refine ⟨fun n σ H' => ∃ j, n = u.length - j ∧ j ≤ u.length ∧ σ = [some (.ref a), some (.ref p), some (.int ((j : Nat) : Int))] ∧ H' = H1, ⟨_, 0, rfl, Nat.zero_le _, rfl, rfl⟩, ?_⟩
    rintro n σ H' ⟨j, rfl, hj, rfl, rfl⟩
    refine ⟨_, rfl, _, _, rfl, rfl, .inl ⟨by decide, by decide⟩, _, rfl, p, _, rfl, .inr hP, _, _, rfl, rfl, _, rfl, ?_⟩
    have hback : ((iv (u ++ m ++ Fr.con u)).length : Int) - 1 - (j : Int) = ((2 * u.length + m.length - 1 - j : Nat) : Int) ∨ 2 * u.length + m.length = 0 := by
      rw [L]
      by_cases h0 : 2 * u.length + m.length = 0
      · exact .inr h0
      · left; omega
    by_cases hlt : j < u.length
    · refine iteT' (decide_eq_true (by rw [L]; omega)) ?_
      have hb := hback.resolve_right (by omega)
      refine ⟨_, rfl, _, rfl, p, _, _, _, rfl, rfl, hP, atI_nat (iv_get (whole_lo hlt)), ?_⟩
      refine ⟨_, rfl, _, rfl, p, _, rfl, .inr hP, _, _, rfl, rfl, _, rfl, _, _, rfl, rfl, p, _, _, _, rfl, rfl, hP, (by rw [hb]; exact atI_nat (iv_get (whole_hi hlt))), _, rfl, rfl, _, rfl, ?_⟩
      refine iteT' (decide_eq_true (by show V.int _ = V.int (- -_); rw [Int.neg_neg])) ?_
      refine ⟨fun σ' H'' => ∃ j', u.length - (j + 1) = u.length - j' ∧ j' ≤ u.length ∧ σ' = [some (.ref a), some (.ref p), some (.int ((j' : Nat) : Int))] ∧ H'' = H', fun σ' H'' ⟨j', q1, q2, q3, q4⟩ => ⟨_, by omega, j', q1, q2, q3, q4⟩, ?_⟩
      refine ⟨_, rfl, _, _, rfl, rfl, ?_⟩
      exact ⟨j + 1, rfl, hlt, by rfl, rfl⟩
    · have hj2 : j = u.length := by omega
      subst hj2
      have fin : NewB K H' Q (cutV (iv (u ++ m ++ Fr.con u)) (some ((u.length : Nat) : Int)) (some (((iv (u ++ m ++ Fr.con u)).length : Int) - ((u.length : Nat) : Int)))) := by
        have e1 : ((iv (u ++ m ++ Fr.con u)).length : Int) - ((u.length : Nat) : Int) = ((u.length + m.length : Nat) : Int) := by rw [L]; omega
        rw [e1, cut_nat (by rw [L]; omega) (by rw [L]; omega)]
        have e2 : u.length + m.length - u.length = m.length := by omega
        rw [e2]
        have e3 : ((iv (u ++ m ++ Fr.con u)).drop u.length).take m.length = iv m := by
          rw [← List.map_drop, ← List.map_take, whole_cut]
        rw [e3]
        exact fun q H2 s2 h2 => k q H2 (sm.trans s2) h2
      by_cases hm : m = []
      · have hu := z hm
        refine iteF' (decide_eq_false (by rw [L, hm, hu]; simp)) ?_
        refine iteF ?_
        exact ⟨_, rfl, _, rfl, _, rfl, _, rfl, p, _, rfl, .inr hP, _, rfl, _, _, rfl, rfl, _, rfl, p, _, rfl, hPB, fin⟩
      · refine iteT' (decide_eq_true (by have := List.length_pos_iff.mpr hm; rw [L]; omega)) ?_
        have hb := hback.resolve_right (by have := List.length_pos_iff.mpr hm; omega)
        obtain ⟨x, hx⟩ : ∃ x, m.head? = some x := by
          cases m with
          | nil => exact absurd rfl hm
          | cons x t => exact ⟨x, rfl⟩
        obtain ⟨y, hy⟩ : ∃ y, m.getLast? = some y := ⟨_, List.getLast?_eq_some_getLast hm⟩
        have lo := (mid_lo (u := u) hm).trans hx
        have hi := (mid_hi (u := u) hm).trans hy
        refine ⟨_, rfl, _, rfl, p, _, _, _, rfl, rfl, hP, atI_nat (iv_get lo), ?_⟩
        refine ⟨_, rfl, _, rfl, p, _, rfl, .inr hP, _, _, rfl, rfl, _, rfl, _, _, rfl, rfl, p, _, _, _, rfl, rfl, hP, (by rw [hb]; exact atI_nat (iv_get hi)), _, rfl, rfl, _, rfl, ?_⟩
        refine iteF' (decide_eq_false fun q => ?_) ?_
        · have q2 : V.int x = V.int (-y) := q
          injection q2 with q3
          exact c.2 x y hx hy q3
        exact ⟨_, rfl, _, rfl, _, rfl, _, rfl, p, _, rfl, .inr hP, _, rfl, _, _, rfl, rfl, _, rfl, p, _, rfl, hPB, fin⟩
end
end W17
set_option Elab.async false
set_option linter.all false
set_option maxRecDepth 100000
set_option maxHeartbeats 2000000
namespace W17
open PySem L2 PySem.Spec PyProof.Rows WR WS WR WB
abbrev sKinds : Stmt := top 31
theorem pigeon : ∀ (m : Nat) (L : List Int), L.Nodup → (∀ k ∈ L, 1 ≤ k ∧ k ≤ (m : Int)) → L.length ≤ m
  | 0, L, _, h => by
    cases L with
    | nil => simp
    | cons a t =>
      have := h a (by simp)
      omega
  | m + 1, L, nd, h => by
    by_cases hm : ((m + 1 : Nat) : Int) ∈ L
    · have ih := pigeon m (L.erase ((m + 1 : Nat) : Int)) (nd.erase _) fun k hk => by
        have h1 := (nd.mem_erase_iff).mp hk
        have h2 := h k h1.2
        have h3 := h1.1
        omega
      rw [List.length_erase_of_mem hm] at ih
      omega
    · have ih := pigeon m L nd fun k hk => by
        have h2 := h k hk
        have : k ≠ ((m + 1 : Nat) : Int) := fun e => hm (e ▸ hk)
        omega
      omega
theorem sci {w : World} {J : It} {xs : List V} {G : Hp → Prop} (wk : Walk J xs.length G (YAt xs)) {g : TG} {tt : TT} {te : TE} {vs : List Nat} {σ : L2.St} {H1 : Hp} {Q : VK} (v : V → Int)
    (hv : ∀ x ∈ xs, 1 ≤ v x ∧ v x ≤ 26) (hG : ∀ H, Same H1 H → G H)
    (hs : ∀ x, x ∈ xs → ∀ H, Same H1 H → ∀ (Qy : V → Hp → Prop) (Qn : Hp → Prop), Qy (.int (v x)) H →
      g x (wipe σ vs) H fun σ2 H2 => wipe σ2 vs = wipe σ vs ∧ tt σ2 H2 fun b H3 => if b = true then te σ2 H3 Qy else Qn H3)
    (hd : ∀ (D : Addr) (S : Int → Bool) (n : Nat) H', H1 D = none → Same H1 H' → H' D = some (SetO w D S n) → n ≤ 26 → (∀ k, S k = true ↔ ∃ x ∈ xs, k = v x) → Q (.ref D) H') : tSetI w (fun _ H R => R J H) g tt te vs σ H1 Q := by
  intro D hD
  refine ⟨fun i m H => m = xs.length - i ∧ i ≤ xs.length ∧ Same H1 H ∧ ∃ (S : Int → Bool) (L : List Int), H D = some (SetO w D S L.length) ∧ L.Nodup ∧ (∀ k, S k = true ↔ k ∈ L) ∧ ∀ k, k ∈ L ↔ ∃ x ∈ xs.take i, k = v x, ?_, ?_⟩
  · refine ⟨_, rfl, Nat.zero_le _, same_upd hD, fun _ => false, [], by rw [upd_same]; rfl, List.nodup_nil, fun k => by simp, fun k => by simp⟩
  · rintro i m H ⟨rfl, hi, sm, S, L, hS, nd, hL, hm⟩
    have bound : L.length ≤ 26 := pigeon 26 L nd fun k hk => by
      obtain ⟨x, hx, e⟩ := (hm k).mp hk
      have := hv x (List.mem_of_mem_take hx)
      omega
    by_cases hlt : i < xs.length
    · right
      refine ⟨wk.goes i H hlt (hG H sm), fun H' => Same H1 H' ∧ ∃ (S : Int → Bool) (L : List Int), H' D = some (SetO w D S L.length) ∧ L.Nodup ∧ (∀ k, S k = true ↔ k ∈ L) ∧ ∀ k, k ∈ L ↔ ∃ x ∈ xs.take (i + 1), k = v x, ?_, ?_⟩
      · rintro H' ⟨s2, q⟩
        exact ⟨xs.length - (i + 1), by omega, rfl, hlt, s2, q⟩
      · intro x H' hy
        obtain ⟨rfl, hx⟩ := wk.yields i H x H' hlt (hG H sm) hy
        have hmem : x ∈ xs := List.mem_of_getElem? hx
        have et : xs.take (i + 1) = xs.take i ++ [x] := by
          have hx2 : xs[i] = x := (List.getElem?_eq_some_iff.mp hx).2
          rw [List.take_succ_eq_append_getElem hlt, hx2]
        refine hs x hmem H' sm _ _ ?_
        refine ⟨D, v x, S, L.length, rfl, rfl, hS, ?_, ?_⟩
        · have : scanBound = 40000 ∨ 64 < scanBound := by right; decide
          have h64 : 64 < scanBound := by decide
          omega
        refine ⟨fun b o e => by rw [upd_ne (ne_of_none e hD)]; exact sm b o e, fun j => S j || decide (j = v x), if S (v x) = true then L else v x :: L, ?_, ?_, ?_, ?_⟩
        · rw [upd_same]
          by_cases c : S (v x) = true
          · rw [if_pos c, if_pos c]
          · rw [if_neg c, if_neg c]; rfl
        · by_cases c : S (v x) = true
          · rw [if_pos c]; exact nd
          · rw [if_neg c]
            exact List.nodup_cons.mpr ⟨fun h => c ((hL _).mpr h), nd⟩
        · intro k
          rw [Bool.or_eq_true, decide_eq_true_eq]
          by_cases c : S (v x) = true
          · rw [if_pos c, ← hL]
            constructor
            · rintro (h | rfl)
              · exact h
              · exact c
            · exact .inl
          · rw [if_neg c, List.mem_cons, ← hL]
            exact or_comm
        · intro k
          have e : (k ∈ if S (v x) = true then L else v x :: L) ↔ (k = v x ∨ k ∈ L) := by
            by_cases c : S (v x) = true
            · rw [if_pos c]
              constructor
              · exact .inr
              · rintro (rfl | h)
                · exact (hL _).mp c
                · exact h
            · rw [if_neg c, List.mem_cons]
          rw [e, hm, et]
          constructor
          · rintro (rfl | ⟨y, hy, rfl⟩)
            · exact ⟨x, by simp, rfl⟩
            · exact ⟨y, by simp [hy], rfl⟩
          · rintro ⟨y, hy, rfl⟩
            rw [List.mem_append, List.mem_singleton] at hy
            rcases hy with hy | rfl
            · exact .inr ⟨y, hy, rfl⟩
            · exact .inl rfl
    · left
      have hi2 : i = xs.length := by omega
      subst hi2
      rw [List.take_length] at hm
      exact ⟨wk.stops H (hG H sm), hd D S L.length H hD sm hS bound fun k => (hL k).trans (hm k)⟩
def kindsOk (ns ks : List Int) : Prop := ks.Pairwise (· < ·) ∧ ∀ k : Int, k ∈ ks ↔ ∃ x ∈ ns, k = (x.natAbs : Int)
/-- every letter of a kind from 1 to 26 -/
def Lts (ns : List Int) : Prop := ∀ x ∈ ns, 1 ≤ x.natAbs ∧ x.natAbs ≤ 26
def spKinds (K : PySem.W.Frag) : Sp := fun vs H Q _ => ∃ (a : Addr) (ns : List Int), vs = [.ref a] ∧ SqE K H a (iv ns) ∧ ns.length ≤ 1000 ∧ Lts ns ∧ ∀ ks, kindsOk ns ks → NewT K H Q (iv ks)
structure TxB (mg : Str → Option Value) : Prop where
  sorted : mg "sorted" = none
  abs : mg "abs" = none
section
variable {P : Program} {w : World} {K : PySem.W.Frag} {mg : Str → Option Value} {base : Heap}
theorem scKinds : FnScope ["letters", "letter"] ["letters"] (defScope sKinds) := ⟨rfl, rfl, rfl, by decide +kernel, rfl, by decide +kernel, by decide +kernel⟩
theorem ok_kinds {f : Addr} {fd : FuncData} (F : Fun K "kinds_of" "kinds_of" sKinds f fd) (T : TxA mg) (T2 : TxB mg) : FnOk P w K mg base CX0 1 f fd ["letters"] (spKinds K) := by
  refine F.ok scKinds (fun vs H Q E h => ?_) (fun cdv A outer s H vs Q E hr h => ?_)
  · obtain ⟨a, ns, rfl, _⟩ := h
    rfl
  · obtain ⟨a, ns, rfl, hS, hlen, hk, k⟩ := h
    have fin : ∀ (D : Addr) (S : Int → Bool) (n : Nat) H', H D = none → Same H H' → H' D = some (SetO w D S n) → n ≤ 26 → (∀ k, S k = true ↔ ∃ x ∈ iv ns, k = (match x with | .int i => (i.natAbs : Int) | _ => 0)) →
        rSortedSet w [.ref D] H' fun x H2 => ∃ p ys, [x] = [V.ref p] ∧ ((SqL K H2 p ys ∧ ∀ l, H2 l = none → Q (.ref l) (L2.upd H2 l (.tup ys))) ∨ (SqT K H2 p ys ∧ Q (.ref p) H2)) := by
      intro D S n H' hD sm hS hn hm
      refine ⟨D, S, n, rfl, hS, by omega, fun ks p up mem _ hp => ?_⟩
      refine ⟨p, _, rfl, .inl ⟨SqL.of upd_same, fun l hl => ?_⟩⟩
      refine k ks ⟨up, fun j => ?_⟩ l _ ((sm.trans (same_upd hp)).trans (same_upd hl)) (SqT.of upd_same)
      rw [mem, hm]
      constructor
      · rintro ⟨x, hx, e⟩
        obtain ⟨i, hi, rfl⟩ := List.mem_map.mp hx
        exact ⟨i, hi, e⟩
      · rintro ⟨i, hi, e⟩
        exact ⟨_, List.mem_map_of_mem hi, e⟩
    have turn : ∀ x, x ∈ iv ns → ∀ H2, Same H H2 → ∀ (Qy : V → Hp → Prop) (Qn : Hp → Prop), Qy (.int (match x with | .int i => (i.natAbs : Int) | _ => 0)) H2 →
        gName 1 x (wipe [some (.ref a), none] [1]) H2 fun σ2 H2 => wipe σ2 [1] = wipe [some (.ref a), none] [1] ∧ tYes σ2 H2 fun b H3 => if b = true then tCB (fun xs H Q => ∃ i, xs = [.int i] ∧ Q (.int (if i < 0 then -i else i)) H) (tCons (tVar 1) tNil) σ2 H3 Qy else Qn H3 := by
      intro x hx H2 s2 Qy Qn ky
      obtain ⟨i, hi, rfl⟩ := List.mem_map.mp hx
      refine ⟨rfl, yes_te ⟨_, rfl, i, rfl, ?_⟩⟩
      have e : (if i < 0 then -i else i) = (i.natAbs : Int) := by split <;> omega
      rw [e]
      exact ky
    have bd : ∀ x ∈ iv ns, 1 ≤ (match x with | .int i => (i.natAbs : Int) | _ => 0) ∧ (match x with | .int i => (i.natAbs : Int) | _ => 0) ≤ 26 := by
      intro x hx
      obtain ⟨i, hi, rfl⟩ := List.mem_map.mp hx
      have := hk i hi
      show 1 ≤ (i.natAbs : Int) ∧ (i.natAbs : Int) ≤ 26
      omega
    rcases hS with hS | hS
    · refine ⟨_, pss_one (ps_ret (pe_callTy call_tuple_of (by rfl) T.tuple (by decide +kernel) (pa_cons (pe_callB (cr_sortedSet rfl) (by rfl) T2.sorted (by decide +kernel) (pa_cons (pe_setI (own := [("letter", 1)]) (g := gName 1) (tt := tYes) rfl scKinds.nd (pi_list (pv 0))
        (blkOk_by (N := ["letters", "letter"]) (sc := defScope sKinds) (by decide +kernel)) (fun _ _ _ _ _ => pg_name (i := 1) scKinds.nd rfl (Or.inl rfl)) (fun _ _ _ _ _ => pts_nil)
        (fun _ _ _ _ _ => pe_callB call_abs (by rfl) T2.abs (by decide +kernel) (pa_cons (pv 1) pa_nil))) pa_nil)) pa_nil))), ?_⟩
      refine ⟨_, rfl, a, rfl, ⟨_, hS⟩, ?_⟩
      exact sci (walk_list (xs := iv ns)) _ bd (fun H2 s2 => s2.seq hS) turn fin
    · refine ⟨_, pss_one (ps_ret (pe_callTy call_tuple_of (by rfl) T.tuple (by decide +kernel) (pa_cons (pe_callB (cr_sortedSet rfl) (by rfl) T2.sorted (by decide +kernel) (pa_cons (pe_setI (own := [("letter", 1)]) (g := gName 1) (tt := tYes) rfl scKinds.nd (pi_tup (pv 0))
        (blkOk_by (N := ["letters", "letter"]) (sc := defScope sKinds) (by decide +kernel)) (fun _ _ _ _ _ => pg_name (i := 1) scKinds.nd rfl (Or.inl rfl)) (fun _ _ _ _ _ => pts_nil)
        (fun _ _ _ _ _ => pe_callB call_abs (by rfl) T2.abs (by decide +kernel) (pa_cons (pv 1) pa_nil))) pa_nil)) pa_nil))), ?_⟩
      refine ⟨_, rfl, a, rfl, ⟨_, hS⟩, ?_⟩
      exact sci (walk_tup (xs := iv ns)) _ bd (fun H2 s2 => WR.Same.seqT s2 hS) turn fin
end
end W17
set_option Elab.async false
set_option linter.all false
set_option maxRecDepth 100000
set_option maxHeartbeats 2000000
namespace W17
open PySem L2 PySem.Spec PyProof.Rows WR WB
abbrev sIsInt : Stmt := top 16
abbrev sWithin : Stmt := top 17
abbrev sLetter : Stmt := top 18
abbrev sListed : Stmt := top 19
abbrev sFew : Stmt := top 42
/-! ### values and their classes -/
inductive Typ (H : Hp) : V → String → Prop
  | int (i : Int) : Typ H (.int i) "int"
  | bl (b : Bool) : Typ H (.bl b) "bool"
  | str (z : Str) : Typ H (.str z) "str"
  | non : Typ H .non "NoneType"
  | lst {p : Addr} {xs : List V} (e : H p = some (.lst xs)) : Typ H (.ref p) "list"
  | tup {p : Addr} {xs : List V} (e : H p = some (.tup xs)) : Typ H (.ref p) "tuple"
  | dct {p : Addr} {kvs : List (Key × V)} (e : H p = some (.dK kvs)) : Typ H (.ref p) "dict"
def isI : V → Bool
  | .int _ => true
  | _ => false
def isB : V → Bool
  | .bl _ => true
  | _ => false
theorem Typ.ty {K : PySem.W.Frag} {H : Hp} {x : V} {t : String} (h : Typ H x t) : TyX K H x (.type t) := by
  cases h with
  | int i => exact .base (.int i)
  | bl b => exact .base (.bl b)
  | str z => exact .base (.str z)
  | non => exact .base .non
  | lst e => exact .base (.lst e)
  | tup e => exact .base (.tup e)
  | dct e => exact .base (.dK e)
theorem Typ.kInt {K : PySem.W.Frag} {H : Hp} {x : V} {t : String} (h : Typ H x t) : PySem.W.kitOne K (.type t) (.type "int") = some (isI x || isB x) := by
  cases h <;> first | exact kit_ty (show kitB _ _ = some true by decide +kernel) | exact kit_ty (show kitB _ _ = some false by decide +kernel)
theorem Typ.kBool {K : PySem.W.Frag} {H : Hp} {x : V} {t : String} (h : Typ H x t) : PySem.W.kitOne K (.type t) (.type "bool") = some (isB x) := by
  cases h <;> first | exact kit_ty (show kitB _ _ = some true by decide +kernel) | exact kit_ty (show kitB _ _ = some false by decide +kernel)
theorem Typ.kTup {K : PySem.W.Frag} {H : Hp} {x : V} {t : String} (h : Typ H x t) : PySem.W.kitOne K (.type t) (.type "tuple") = some (t == "tuple") := by
  cases h <;> first | exact kit_ty (show kitB _ _ = some true by decide +kernel) | exact kit_ty (show kitB _ _ = some false by decide +kernel)
theorem Typ.kList {K : PySem.W.Frag} {H : Hp} {x : V} {t : String} (h : Typ H x t) : PySem.W.kitOne K (.type t) (.type "list") = some (t == "list") := by
  cases h <;> first | exact kit_ty (show kitB _ _ = some true by decide +kernel) | exact kit_ty (show kitB _ _ = some false by decide +kernel)
theorem Typ.kSeq {K : PySem.W.Frag} {H : Hp} {x : V} {t : String} (h : Typ H x t) : PySem.W.kitAny K (.type t) [.type "list", .type "tuple"] = some (t == "list" || t == "tuple") := by
  refine kitAny_cons h.kList (fun e => ?_) (fun e => by rw [e]; rfl)
  refine kitAny_cons h.kTup (fun e2 => ?_) (fun e2 => by rw [e2]; simp)
  rw [kitAny_nil, e, e2]
  rfl
def spIsInt : Sp := fun vs H Q _ => ∃ (x : V) (t : String), vs = [x] ∧ Typ H x t ∧ Q (.bl (isI x)) H
structure TxI (mg : Str → Option Value) : Prop where
  isin : mg "isinstance" = none
  int : mg "int" = none
  bool : mg "bool" = none
  str : mg "str" = none
  list : mg "list" = none
  tuple : mg "tuple" = none
section
variable {P : Program} {w : World} {K : PySem.W.Frag} {mg : Str → Option Value} {base : Heap}
theorem scIsInt : FnScope ["value"] ["value"] (defScope sIsInt) := ⟨rfl, rfl, rfl, by decide +kernel, rfl, by decide +kernel, by decide +kernel⟩
theorem ok_isInt {f : Addr} {fd : FuncData} (F : Fun K "is_integer" "is_integer" sIsInt f fd) (T : TxI mg) : FnOk P w K mg base CX0 1 f fd ["value"] spIsInt := by
  refine F.ok scIsInt (fun vs H Q E h => ?_) (fun cdv A outer s H vs Q E hr h => ?_)
  · obtain ⟨x, t, rfl, _⟩ := h
    rfl
  · obtain ⟨x, t, rfl, ht, k⟩ := h
    refine ⟨_, pss_one (ps_ret (pe_and (pe_callB call_isi (by rfl) T.isin (by decide +kernel) (pa_cons (pv 0) (pa_cons (pe_bltn (v := .ty "int") (by rfl) T.int (by decide +kernel) rfl) pa_nil)))
      (pe_one (pe_not (pe_callB call_isi (by rfl) T.isin (by decide +kernel) (pa_cons (pv 0) (pa_cons (pe_bltn (v := .ty "bool") (by rfl) T.bool (by decide +kernel) rfl) pa_nil))))))), ?_⟩
    refine ⟨_, rfl, x, _, _, _, _, rfl, .ty _, ht.ty, ht.kInt, _, rfl, ?_⟩
    refine ite2 (fun hi => ?_) (fun hn => ?_)
    · refine ⟨_, rfl, x, _, _, _, _, rfl, .ty _, ht.ty, ht.kBool, _, rfl, ?_⟩
      have e : (!isB x) = isI x := by cases ht <;> first | rfl | exact absurd hi Bool.false_ne_true
      show Q (.bl (!isB x)) H
      rw [e]
      exact k
    · have e : isI x = false := by cases ht <;> first | rfl | exact absurd rfl hn
      show Q (.bl false) H
      rw [← e]
      exact k
end
def Bnd (v : V) : Prop := v = .non ∨ ∃ i, v = .int i
def geB (i : Int) : V → Bool
  | .int a => decide (a ≤ i)
  | _ => true
def leB (i : Int) : V → Bool
  | .int b => decide (i ≤ b)
  | _ => true
def within : V → V → V → Bool
  | .int i, l, m => geB i l && leB i m
  | _, _, _ => false
def spWithin : Sp := fun vs H Q _ => ∃ (x l m : V) (t : String), vs = [x, l, m] ∧ Typ H x t ∧ Bnd l ∧ Bnd m ∧ Q (.bl (within x l m)) H
def letterB : V → Bool
  | .int i => (decide (-26 ≤ i) && decide (i ≤ 26)) && !decide (i = 0)
  | _ => false
def spLetter : Sp := fun vs H Q _ => ∃ (x : V) (t : String), vs = [x] ∧ Typ H x t ∧ Q (.bl (letterB x)) H
structure TxC (mg : Str → Option Value) : Prop where
  kind : ∃ t, mg "MOST_KIND" = some (.int 26 t)
  all : mg "all" = none
section
variable {P : Program} {w : World} {K : PySem.W.Frag} {mg : Str → Option Value} {base : Heap}
theorem scWithin : FnScope ["value", "least", "most"] ["value", "least", "most"] (defScope sWithin) := ⟨rfl, rfl, rfl, by decide +kernel, rfl, by decide +kernel, by decide +kernel⟩
theorem ok_within {f : Addr} {fd : FuncData} (F : Fun K "is_within" "is_within" sWithin f fd) (GI : Cal P w K mg base "is_integer" 1 ["value"] spIsInt) : FnOk P w K mg base CX0 2 f fd ["value", "least", "most"] spWithin := by
  refine F.ok scWithin (fun vs H Q E h => ?_) (fun cdv A outer s H vs Q E hr h => ?_)
  · obtain ⟨x, l, m, t, rfl, _⟩ := h
    rfl
  · obtain ⟨x, l, m, t, rfl, ht, hl, hm, k⟩ := h
    refine ⟨_, pss_cons (ps_if (pt_not (pt_val (pe_cal GI hr (by decide) (by rfl) (pa_cons (pv 0) pa_nil)))) (pss_one (ps_ret pe_bl)) pss_nil)
      (pss_one (ps_ret (pe_and (pe_or (pe_cmpR op_isN (pv 1) pe_non (nomark _)) (pe_one (pe_cmpR op_ge (pv 0) (pv 1) (nomark _)))) (pe_one (pe_or (pe_cmpR op_isN (pv 2) pe_non (nomark _)) (pe_one (pe_cmpR op_le (pv 0) (pv 2) (nomark _)))))))), ?_⟩
    refine ⟨_, rfl, x, t, rfl, ht, _, rfl, ?_⟩
    refine ite2 (fun hn => ?_) (fun hi => ?_)
    · have e : within x l m = false := by cases ht <;> first | rfl | exact absurd hn Bool.false_ne_true
      rw [e] at k
      exact k
    · obtain ⟨i, rfl⟩ : ∃ i, x = .int i := by cases ht <;> first | exact ⟨_, rfl⟩ | exact absurd rfl hi
      -- the second half, whatever the first one says
      have half : ∀ H1 : Hp, H1 = H → ∀ Q1 : VK, Q1 (.bl (leB i m)) H1 → tOrV (tOp (fun x y H Q => y = .non ∧ Q (.bl (decide (x = .non))) H) (tVar 2) (tC .non)) (tOp (rI0 fun i j => .bl (decide (i ≤ j))) (tVar 0) (tVar 2)) [some (.int i), some l, some m] H1 Q1 := by
        intro H1 _ Q1 q
        rcases hm with rfl | ⟨b, rfl⟩
        · exact ⟨_, rfl, rfl, _, rfl, iteT q⟩
        · exact ⟨_, rfl, rfl, _, rfl, iteF ⟨_, rfl, _, rfl, _, _, rfl, rfl, q⟩⟩
      rcases hl with rfl | ⟨a, rfl⟩
      · refine ⟨_, rfl, rfl, _, rfl, iteT ⟨_, rfl, iteT (half H rfl _ ?_)⟩⟩
        exact k
      · refine ⟨_, rfl, rfl, _, rfl, iteF ⟨_, rfl, _, rfl, _, _, rfl, rfl, _, rfl, ?_⟩⟩
        refine ite2 (fun hg => half H rfl _ ?_) (fun hg => ?_)
        · have e : within (.int i) (.int a) m = leB i m := by
            show (decide (a ≤ i) && leB i m) = leB i m
            rw [hg]
            rfl
          rw [e] at k
          exact k
        · have e : within (.int i) (.int a) m = false := by
            show (decide (a ≤ i) && leB i m) = false
            rw [Bool.eq_false_iff.mpr hg]
            rfl
          rw [e] at k
          exact k
theorem scLetter : FnScope ["value"] ["value"] (defScope sLetter) := ⟨rfl, rfl, rfl, by decide +kernel, rfl, by decide +kernel, by decide +kernel⟩
theorem ok_letter {f : Addr} {fd : FuncData} (F : Fun K "is_letter" "is_letter" sLetter f fd) (GW : Cal P w K mg base "is_within" 2 ["value", "least", "most"] spWithin) (T : TxC mg) : FnOk P w K mg base CX0 3 f fd ["value"] spLetter := by
  refine F.ok scLetter (fun vs H Q E h => ?_) (fun cdv A outer s H vs Q E hr h => ?_)
  · obtain ⟨x, t, rfl, _⟩ := h
    rfl
  · obtain ⟨x, t, rfl, ht, k⟩ := h
    obtain ⟨tk, mK⟩ := T.kind
    refine ⟨_, pss_one (ps_ret (pe_and (pe_cal GW hr (by decide) (by rfl) (pa_cons (pv 0) (pa_cons (pe_un un_neg (pe_glob (v := .int 26) (by rfl) mK ⟨_, rfl⟩)) (pa_cons (pe_glob (v := .int 26) (by rfl) mK ⟨_, rfl⟩) pa_nil)))) (pe_one (pe_cmpR op_ne (pv 0) pe_int (nomark _))))), ?_⟩
    refine ⟨_, rfl, _, rfl, x, _, _, t, rfl, ht, .inr ⟨_, rfl⟩, .inr ⟨_, rfl⟩, _, rfl, ?_⟩
    refine ite2 (fun hi => ?_) (fun hn => ?_)
    · obtain ⟨i, rfl⟩ : ∃ i, x = .int i := by cases ht <;> first | exact ⟨_, rfl⟩ | exact absurd hi Bool.false_ne_true
      refine ⟨_, rfl, rfl, ?_⟩
      have e : letterB (.int i) = !decide (V.int i = V.int 0) := by
        have h2 : (decide (-26 ≤ i) && decide (i ≤ 26)) = true := hi
        show ((decide (-26 ≤ i) && decide (i ≤ 26)) && !decide (i = 0)) = _
        rw [h2, Bool.true_and]
        congr 1
        by_cases h0 : i = 0
        · subst h0; rfl
        · rw [decide_eq_false h0, decide_eq_false (fun q => h0 (by injection q))]
      rw [e] at k
      exact k
    · have e : letterB x = false := by
        cases ht with
        | int i =>
          have h2 : (decide (-26 ≤ i) && decide (i ≤ 26)) = false := Bool.eq_false_iff.mpr hn
          show ((decide (-26 ≤ i) && decide (i ≤ 26)) && !decide (i = 0)) = false
          rw [h2]
          rfl
        | _ => rfl
      rw [e] at k
      exact k
theorem scListed : FnScope ["value"] ["value"] (defScope sListed) := ⟨rfl, rfl, rfl, by decide +kernel, rfl, by decide +kernel, by decide +kernel⟩
end
end W17
set_option Elab.async false
set_option linter.all false
set_option maxRecDepth 100000
set_option maxHeartbeats 2000000
namespace W17
open PySem L2 PySem.Spec PyProof.Rows WR WB
abbrev sInit : Stmt := inClass (top 43) 0
theorem SqL.tyx {K : PySem.W.Frag} {H : Hp} {a : Addr} {xs : List V} (h : SqL K H a xs) : TyX K H (.ref a) (.type "list") := by
  rcases h with h | ⟨o, its, n, e, c, _⟩
  · rcases h with h | ⟨o, h⟩
    · exact .base (.lst h)
    · exact .base (.frz h)
  · exact .kList e c
theorem SqT.tyx {K : PySem.W.Frag} {H : Hp} {a : Addr} {xs : List V} (h : SqT K H a xs) : TyX K H (.ref a) (.type "tuple") := by
  rcases h with h | ⟨o, its, n, e, c, _⟩
  · rcases h with h | ⟨o, h⟩
    · exact .base (.tup h)
    · exact .fTuple h
  · exact .kTuple e c
def spListE (K : PySem.W.Frag) : Sp := fun vs H Q _ => ∃ (a : Addr) (xs : List V), vs = [.ref a] ∧ SqE K H a xs ∧ ∀ H', Same H H' → Q (.bl true) H'
def spFew : Sp := fun vs H Q _ => ∃ n : Int, vs = [.int n] ∧ n ≤ 500 ∧ Q .non H
structure TxW (K : PySem.W.Frag) (mg : Str → Option Value) (C : Addr) : Prop where
  cl : Cls K C
  nL : NoAttr K C "letters"
  nN : NoAttr K C "length"
  nK : NoAttr K C "kinds"
  nS : NoAttr K C "is_short"
  nR : NoAttr K C "is_short_round"
  ca : PySem.W.findIn K (.ref C) "__class__" = some (some (.builtin "object.__class__"))
  cn : PySem.W.specialIn K (.builtin "object.__class__") "__get__" = some (some (.builtin "getset_descriptor.__get__"))
  ct : PySem.W.takesIn K (.builtin "object.__class__") = some true
  cm : PySem.W.mroIn K C (.type "object") = some true
  mgW : mg "Word" = some (.ref C)
  most : ∃ t, mg "MOST_LETTERS" = some (.int 500 t)
  isin : mg "isinstance" = none
  all : mg "all" = none
/-! ### a word -/
def wf (tl : Addr) (n : Nat) (tk : Addr) (b1 b2 : Bool) : List (Str × V) := [("letters", .ref tl), ("length", .int (n : Int)), ("kinds", .ref tk), ("is_short", .bl b1), ("is_short_round", .bl b2)]
theorem ne1 : ¬ (("letters" : Str) = "length") := by decide +kernel
theorem ne2 : ¬ (("letters" : Str) = "kinds") := by decide +kernel
theorem ne3 : ¬ (("letters" : Str) = "is_short") := by decide +kernel
theorem ne4 : ¬ (("letters" : Str) = "is_short_round") := by decide +kernel
theorem ne5 : ¬ (("length" : Str) = "kinds") := by decide +kernel
theorem ne6 : ¬ (("length" : Str) = "is_short") := by decide +kernel
theorem ne7 : ¬ (("length" : Str) = "is_short_round") := by decide +kernel
theorem ne8 : ¬ (("kinds" : Str) = "is_short") := by decide +kernel
theorem ne9 : ¬ (("kinds" : Str) = "is_short_round") := by decide +kernel
theorem ne10 : ¬ (("is_short" : Str) = "is_short_round") := by decide +kernel
theorem lk_eq {k : Str} {v : V} {t : List (Str × V)} : List.lookup k ((k, v) :: t) = some v := by
  rw [List.lookup_cons, beq_self_eq_true k]
theorem lk_ne {k g : Str} {v : V} {t : List (Str × V)} (h : ¬ k = g) : List.lookup k ((g, v) :: t) = List.lookup k t := by
  rw [List.lookup_cons, show (k == g) = false from beq_eq_false_iff_ne.mpr h]
theorem pf_ne {k g : Str} {v x : V} {t : List (Str × V)} (h : ¬ g = k) : putF k v ((g, x) :: t) = (g, x) :: putF k v t := by
  show (if g = k then _ else _) = _
  rw [if_neg h]
theorem wf_letters {tl tk n b1 b2} : (wf tl n tk b1 b2).lookup ("letters" : Str) = some (.ref tl) := lk_eq
theorem wf_length {tl tk n b1 b2} : (wf tl n tk b1 b2).lookup ("length" : Str) = some (.int (n : Int)) := by
  unfold wf
  rw [lk_ne fun e => ne1 e.symm, lk_eq]
theorem wf_round {tl tk n b1 b2} : (wf tl n tk b1 b2).lookup ("is_short_round" : Str) = some (.bl b2) := by
  unfold wf
  rw [lk_ne fun e => ne4 e.symm, lk_ne fun e => ne7 e.symm, lk_ne fun e => ne9 e.symm, lk_ne fun e => ne10 e.symm, lk_eq]
def WordAt (K : PySem.W.Frag) (C : Addr) (H : Hp) (p : Addr) (ns : List Int) : Prop :=
  ∃ (dx tl tk : Addr) (ks : List Int), H p = some (.ins C dx (wf tl ns.length tk (decide (Fr.shr ns = ns)) (decide (Fr.rnd ns = ns)))) ∧ SqB K H tl (iv ns) ∧ SqT K H tk (iv ks) ∧ kindsOk ns ks
theorem WordAt.same {K : PySem.W.Frag} {C : Addr} {H H' : Hp} {p : Addr} {ns : List Int} (h : WordAt K C H p ns) (s : Same H H') : WordAt K C H' p ns := by
  obtain ⟨dx, tl, tk, ks, h1, h2, h3, h4⟩ := h
  exact ⟨dx, tl, tk, ks, s _ _ h1, SqB.same s h2, WR.Same.seqT s h3, h4⟩
theorem Lts.nz {ns : List Int} (h : Lts ns) : Fr.NZ ns := fun a ha => by
  have := h a ha
  omega
def spInit (K : PySem.W.Frag) (C : Addr) : Sp := fun vs H Q _ => ∃ (H0 : Hp) (p dx a : Addr) (ns : List Int), vs = [.ref p, .ref a] ∧ Same H0 H ∧ H0 p = none ∧ H p = some (.ins C dx []) ∧ SqW K H0 a (iv ns) ∧ ns.length ≤ 500 ∧ Lts ns ∧
  ∀ H', Same H0 H' → WordAt K C H' p ns → Q .non H'
/-! ### tuples of ints held against one another -/
theorem dp_iv {K : PySem.W.Frag} {H : Hp} : ∀ ns : List Int, DpAll K H (iv ns) (ns.map PyData.int)
  | [] => .nil
  | n :: r => .cons (.int n) (dp_iv r)
theorem eqvAll_ints : ∀ ns ms : List Int, PyData.eqvAll (ns.map PyData.int) (ms.map PyData.int) = decide (ns = ms)
  | [], [] => rfl
  | [], b :: r => rfl
  | a :: r, [] => rfl
  | a :: r, b :: q => by
    have ih := eqvAll_ints r q
    show (PyData.eqv (.int a) (.int b) && PyData.eqvAll (r.map PyData.int) (q.map PyData.int)) = _
    rw [ih]
    have : PyData.eqv (.int a) (.int b) = decide (a = b) := by
      simp only [PyData.eqv]
      exact Bool.eq_iff_iff.mpr (by simp)
    rw [this]
    by_cases e1 : a = b <;> by_cases e2 : r = q <;> simp [e1, e2]
theorem eqv_ints (ns ms : List Int) : PyData.eqv (.tuple (ns.map .int)) (.tuple (ms.map .int)) = decide (ns = ms) := by
  show PyData.eqvAll _ _ = _
  exact eqvAll_ints ns ms
theorem lay_ints : ∀ ns : List Int, PyData.canLayAll0 (ns.map PyData.int) = true ∧ PyData.depthAll (ns.map PyData.int) = 0
  | [] => ⟨rfl, rfl⟩
  | n :: r => by
    obtain ⟨h1, h2⟩ := lay_ints r
    exact ⟨by simp [PyData.canLayAll0, PyData.canLay0, h1], by simp [PyData.depthAll, PyData.depth, h2]⟩
theorem shaped_ints (ns : List Int) : SeqAt.shaped (.tuple (ns.map .int)) = true := by
  obtain ⟨h1, h2⟩ := lay_ints ns
  simp [SeqAt.shaped, PyData.canLay0, PyData.depth, h1, h2]
section
variable {P : Program} {w : World} {K : PySem.W.Frag} {mg : Str → Option Value} {base : Heap}
theorem ok_listE {f : Addr} {fd : FuncData} (F : Fun K "is_listed" "is_listed" sListed f fd) (T : TxI mg) : FnOk P w K mg base CX0 1 f fd ["value"] (spListE K) := by
  refine F.ok scListed (fun vs H Q E h => ?_) (fun cdv A outer s H vs Q E hr h => ?_)
  · obtain ⟨a, xs, rfl, _⟩ := h
    rfl
  · obtain ⟨a, xs, rfl, hS, k⟩ := h
    refine ⟨_, pss_one (ps_ret (pe_callB call_isiT (by rfl) T.isin (by decide +kernel) (pa_cons (pv 0) (pa_cons (pe_tup (pa_cons (pe_bltn (v := .ty "list") (by rfl) T.list (by decide +kernel) rfl) (pa_cons (pe_bltn (v := .ty "tuple") (by rfl) T.tuple (by decide +kernel) rfl) pa_nil))) pa_nil)))), ?_⟩
    refine ⟨_, rfl, (by show 2 ≤ sizeLine; decide), fun p hp => ?_⟩
    have sm : Same H (upd H p (.tup [.ty "list", .ty "tuple"])) := same_upd hp
    rcases hS.same sm with hS | hS
    · exact ⟨_, p, _, _, _, _, rfl, upd_same, .cons (.ty _) (.cons (.ty _) .nil), SqL.tyx hS, (by rfl), k _ sm⟩
    · exact ⟨_, p, _, _, _, _, rfl, upd_same, .cons (.ty _) (.cons (.ty _) .nil), SqT.tyx hS, (Typ.tup (H := fun _ => some (.tup [])) (p := a) (xs := []) rfl).kSeq, k _ sm⟩
theorem scFew : FnScope ["many"] ["many"] (defScope sFew) := ⟨rfl, rfl, rfl, by decide +kernel, rfl, by decide +kernel, by decide +kernel⟩
theorem ok_few {C : Addr} {f : Addr} {fd : FuncData} (F : Fun K "need_few_letters" "need_few_letters" sFew f fd) (T : TxW K mg C) : FnOk P w K mg base CX0 1 f fd ["many"] spFew := by
  refine F.ok scFew (fun vs H Q E h => ?_) (fun cdv A outer s H vs Q E hr h => ?_)
  · obtain ⟨n, rfl, _⟩ := h
    rfl
  · obtain ⟨n, rfl, hn, k⟩ := h
    obtain ⟨tk, mM⟩ := T.most
    refine ⟨_, pss_one (ps_if (pt_cmpR op_gt (pv 0) (pe_glob (v := .int 500) (by rfl) mM ⟨_, rfl⟩) (nomark _)) (pss_one ps_never) pss_nil), ?_⟩
    refine ⟨_, rfl, _, _, rfl, rfl, _, rfl, ?_⟩
    exact iteF' (decide_eq_false (by omega)) k
end
end W17
set_option Elab.async false
set_option linter.all false
set_option maxRecDepth 100000
set_option maxHeartbeats 2000000
namespace W17
open PySem L2 PySem.Spec PyProof.Rows WR WB
theorem SqT.put {K : PySem.W.Frag} {H : Hp} {a p C dx : Addr} {fs : List (Str × V)} {o : HO} {xs : List V} (h : SqT K H a xs) (hp : H p = some (.ins C dx fs)) : SqT K (L2.upd H p o) a xs := by
  rcases h with h | h
  · left
    have ne : ∀ u, H a = some u → (∀ C dx fs, u ≠ .ins C dx fs) → a ≠ p := fun u e q z => by
      rw [z, hp] at e
      exact q _ _ _ (Option.some.inj e).symm
    rcases h with h | ⟨o', h⟩
    · exact .inl (by rw [upd_ne (ne _ h fun _ _ _ => by intro z; cases z)]; exact h)
    · exact .inr ⟨o', by rw [upd_ne (ne _ h fun _ _ _ => by intro z; cases z)]; exact h⟩
  · exact .inr h
theorem SqB.put {K : PySem.W.Frag} {H : Hp} {a p C dx : Addr} {fs : List (Str × V)} {o : HO} {xs : List V} (h : SqB K H a xs) (hp : H p = some (.ins C dx fs)) : SqB K (L2.upd H p o) a xs := by
  obtain ⟨h1, h2⟩ := h
  refine ⟨SqT.put h1 hp, ?_⟩
  obtain ⟨o', u, e, d⟩ := h2
  exact ⟨o', u, by rw [upd_ne (fun z => by rw [z, hp] at e; cases e)]; exact e, d⟩
theorem same_put {H0 H : Hp} {p : Addr} {o : HO} (s : Same H0 H) (hp : H0 p = none) : Same H0 (L2.upd H p o) := fun b u e => by
  have : b ≠ p := fun z => by rw [z, hp] at e; cases e
  rw [upd_ne this]
  exact s _ _ e
theorem letter_ok {i : Int} (h : 1 ≤ i.natAbs ∧ i.natAbs ≤ 26) : letterB (.int i) = true := by
  show ((decide (-26 ≤ i) && decide (i ≤ 26)) && !decide (i = 0)) = true
  rw [decide_eq_true (by omega), decide_eq_true (by omega), decide_eq_false (by omega)]
  rfl
theorem all_ok {ns : List Int} (h : Lts ns) : ((ns.map fun i => letterB (.int i)).all id) = true := by
  rw [List.all_eq_true]
  intro b hb
  obtain ⟨i, hi, rfl⟩ := List.mem_map.mp hb
  exact letter_ok (h i hi)
theorem not_lc {r : List V → Hp → VK → Prop} {wi : TI} {g : TG} {tt : TT} {te : TE} {vs : List Nat} {σ : L2.St} {H : Hp} {Q : Bool → Hp → Prop}
    (h : wi σ H fun J H1 => tLc (fun _ H R => R J H) g tt te vs σ H1 fun x H2 => r [x] H2 fun v H3 => ∃ c, v = .bl c ∧ Q (!c) H3) :
    tNot (fun σ H Q => tCB r (tCons (tLc wi g tt te vs) tNil) σ H fun x H1 => ∃ c, x = .bl c ∧ Q c H1) σ H Q := h
abbrev nInit : List Str := ["self", "letters", "letter"]
section
variable {P : Program} {w : World} {K : PySem.W.Frag} {mg : Str → Option Value} {base : Heap}
theorem scInit : FnScope nInit ["self", "letters"] (defScope sInit) := ⟨rfl, rfl, rfl, by decide +kernel, rfl, by decide +kernel, by decide +kernel⟩
theorem ok_init {C f : Addr} {fd : FuncData} (F : Fun K "__init__" "Word.__init__" sInit f fd) (T : TxW K mg C) (TA : TxA mg) (GL : Cal P w K mg base "is_listed" 1 ["value"] (spListE K)) (GX : Cal P w K mg base "is_letter" 3 ["value"] spLetter)
    (GF : Cal P w K mg base "need_few_letters" 1 ["many"] spFew) (GK : Cal P w K mg base "kinds_of" 1 ["letters"] (spKinds K)) (GS : Cal P w K mg base "shortened_letters" 1 ["letters"] (spShr K)) (GR : Cal P w K mg base "rounded_letters" 2 ["letters"] (spRnd K)) :
    FnOk P w K mg base CX0 4 f fd ["self", "letters"] (spInit K C) := by
  refine F.ok scInit (fun vs H Q E h => ?_) (fun cdv A outer s H vs Q E hr h => ?_)
  · obtain ⟨H0, p, dx, a, ns, rfl, _⟩ := h
    rfl
  · obtain ⟨H0, p, dx, a, ns, rfl, s0, p0, hp, hS, hlen, hl, k⟩ := h
    rcases hS with hS | hS
    · refine ⟨_, pss_cons (ps_if (PW.pt (pw_or (pt_not (pt_val (pe_cal GL hr (by decide) (by rfl) (pa_cons (pv 1) pa_nil)))) (pw_or1 (pt_not (pt_val (pe_callB (cr_all rfl) (by rfl) T.all (by decide +kernel) (pa_cons (pe_lc (own := [("letter", 2)]) (g := gName 2) (tt := tYes) rfl scInit.nd (pi_list (pv 1))
          (blkOk_by (N := nInit) (sc := defScope sInit) (by decide +kernel)) (fun _ _ _ _ _ => pg_name (i := 2) scInit.nd rfl (Or.inl rfl)) (fun _ _ _ _ _ => pts_nil)
          (fun _ _ _ _ _ => pe_cal GX hr (by decide) (by rfl) (pa_cons (pv 2) pa_nil))) pa_nil))))))) (pss_one ps_never) pss_nil)
        (pss_cons (ps_expr (pe_cal GF hr (by decide) (by rfl) (pa_cons (pe_callB call_len_seq (by rfl) TA.len PySem.boot_len (pa_cons (pv 1) pa_nil)) pa_nil)))
        (pss_cons (ps_fld (pv 0) (pe_callTy call_tupB (by rfl) TA.tuple (by decide +kernel) (pa_cons (pv 1) pa_nil)) rfl)
        (pss_cons (ps_fld (pv 0) (pe_callB call_len_seq (by rfl) TA.len PySem.boot_len (pa_cons (pv 1) pa_nil)) rfl)
        (pss_cons (ps_fld (pv 0) (pe_cal GK hr (by decide) (by rfl) (pa_cons (pv 1) pa_nil)) rfl)
        (pss_cons (ps_fld (pv 0) (pe_cmpR (op_eqD hr.units) (pe_cal GS hr (by decide) (by rfl) (pa_cons (pv 1) pa_nil)) (pe_fld (pv 0) rfl) (nomark _)) rfl)
        (pss_one (ps_fld (pv 0) (pe_cmpR (op_eqD hr.units) (pe_cal GR hr (by decide) (by rfl) (pa_cons (pv 1) pa_nil)) (pe_fld (pv 0) rfl) (nomark _)) rfl))))))), ?_⟩
      have E0 : SqE K H0 a (iv ns) := .inl hS
      refine ⟨_, rfl, a, _, rfl, E0.same s0, fun H1 s1 => ⟨_, rfl, ?_⟩⟩
      have s01 := s0.trans s1
      refine iteF ?_
      refine not_lc ?_
      refine ⟨_, rfl, a, rfl, ⟨_, (s01.seq hS)⟩, ?_⟩
      refine lcp (walk_list (xs := iv ns)) (fun _ => true) (fun x => .bl (letterB x)) (by simp; omega) (fun H2 s2 => (s01.trans s2).seq hS) ?_ ?_
      · intro x hx H2 s2 Qy Qn ky kn
        obtain ⟨i, hi, rfl⟩ := List.mem_map.mp hx
        exact ⟨rfl, yes_te ⟨_, rfl, .int i, _, rfl, .int i, ky rfl H2 (fun _ _ e => e)⟩⟩
      intro D H2 hD s2 h2
      have s02 := s01.trans s2
      refine ⟨D, ns.map fun i => letterB (.int i), rfl, SqL.of (by
        rw [h2, List.filter_eq_self.mpr (fun _ _ => rfl), List.map_map, List.map_map]
        rfl), ?_⟩
      rw [all_ok hl]
      refine ⟨_, rfl, iteF ?_⟩
      -- not too many
      refine ⟨_, rfl, a, _, rfl, E0.same s02, ((iv ns).length : Int), rfl, by rw [List.length_map]; omega, ?_⟩
      have hp2 : H2 p = some (.ins C dx []) := s2 _ _ (s1 _ _ hp)
      -- its letters
      refine ⟨_, rfl, a, _, rfl, .inl ⟨s02.seq hS, fun tl H3 s23 t3 => ?_⟩⟩
      have s3 := s02.trans s23
      have hp3 := s23 _ _ hp2
      refine ⟨_, rfl, p, C, dx, _, rfl, hp3, T.cl, T.nL, (by show 0 < 1000; decide), ?_⟩
      have hp4 : L2.upd H3 p (.ins C dx (putF "letters" (.ref tl) [])) p = some (.ins C dx [("letters", .ref tl)]) := by rw [upd_same]; rfl
      have s4 := same_put (o := .ins C dx (putF "letters" (.ref tl) [])) s3 p0
      have t4 := SqB.put (o := .ins C dx (putF "letters" (.ref tl) [])) t3 hp3
      refine gen_heap fun H4 e4 => ?_
      rw [← e4] at hp4 s4 t4
      -- how many
      refine ⟨_, rfl, a, _, rfl, E0.same s4, _, rfl, p, C, dx, _, rfl, hp4, T.cl, T.nN, (by show 1 < 1000; decide), ?_⟩
      have hp5 : L2.upd H4 p (.ins C dx (putF "length" (.int ((iv ns).length : Nat)) [("letters", .ref tl)])) p = some (.ins C dx [("letters", .ref tl), ("length", .int (ns.length : Nat))]) := by
        rw [upd_same, pf_ne ne1, List.length_map]
        rfl
      have s5 := same_put (o := .ins C dx (putF "length" (.int ((iv ns).length : Nat)) [("letters", .ref tl)])) s4 p0
      have t5 := SqB.put (o := .ins C dx (putF "length" (.int ((iv ns).length : Nat)) [("letters", .ref tl)])) t4 hp4
      refine gen_heap fun H5 e5 => ?_
      rw [← e5] at hp5 s5 t5
      -- its kinds
      refine ⟨_, rfl, a, ns, rfl, E0.same s5, by omega, hl, fun ks hk tk H6 s6 tk6 => ?_⟩
      have hp6 := s6 _ _ hp5
      have s06 := s5.trans s6
      have t6 := SqB.same s6 t5
      refine ⟨_, rfl, p, C, dx, _, rfl, hp6, T.cl, T.nK, (by show 2 < 1000; decide), ?_⟩
      have hp7 : L2.upd H6 p (.ins C dx (putF "kinds" (.ref tk) [("letters", .ref tl), ("length", .int (ns.length : Nat))])) p = some (.ins C dx [("letters", .ref tl), ("length", .int (ns.length : Nat)), ("kinds", .ref tk)]) := by
        rw [upd_same, pf_ne ne2, pf_ne ne5]
        rfl
      have s7 := same_put (o := .ins C dx (putF "kinds" (.ref tk) [("letters", .ref tl), ("length", .int (ns.length : Nat))])) s06 p0
      have t7 := SqB.put (o := .ins C dx (putF "kinds" (.ref tk) [("letters", .ref tl), ("length", .int (ns.length : Nat))])) t6 hp6
      have k7 := SqT.put (o := .ins C dx (putF "kinds" (.ref tk) [("letters", .ref tl), ("length", .int (ns.length : Nat))])) tk6 hp6
      refine gen_heap fun H7 e7 => ?_
      rw [← e7] at hp7 s7 t7 k7
      -- short
      refine ⟨_, rfl, a, ns, rfl, E0.same s7, by omega, fun q H8 s8 q8 => ?_⟩
      have hp8 := s8 _ _ hp7
      have s08 := s7.trans s8
      have t8 := SqB.same s8 t7
      have k8 := WR.Same.seqT s8 k7
      refine ⟨_, rfl, p, C, dx, _, _, rfl, hp8, T.cl, T.nL, lk_eq, ?_⟩
      refine ⟨_, _, .tup q8.sq (dp_iv _), .tup t8.sq (dp_iv _), shaped_ints _, shaped_ints _, ?_⟩
      rw [eqv_ints]
      refine ⟨_, rfl, p, C, dx, _, rfl, hp8, T.cl, T.nS, (by show 3 < 1000; decide), ?_⟩
      have hp9 : L2.upd H8 p (.ins C dx (putF "is_short" (.bl (decide (Fr.shr ns = ns))) [("letters", .ref tl), ("length", .int (ns.length : Nat)), ("kinds", .ref tk)])) p = some (.ins C dx [("letters", .ref tl), ("length", .int (ns.length : Nat)), ("kinds", .ref tk), ("is_short", .bl (decide (Fr.shr ns = ns)))]) := by
        rw [upd_same, pf_ne ne3, pf_ne ne6, pf_ne ne8]
        rfl
      have s9 := same_put (o := .ins C dx (putF "is_short" (.bl (decide (Fr.shr ns = ns))) [("letters", .ref tl), ("length", .int (ns.length : Nat)), ("kinds", .ref tk)])) s08 p0
      have t9 := SqB.put (o := .ins C dx (putF "is_short" (.bl (decide (Fr.shr ns = ns))) [("letters", .ref tl), ("length", .int (ns.length : Nat)), ("kinds", .ref tk)])) t8 hp8
      have k9 := SqT.put (o := .ins C dx (putF "is_short" (.bl (decide (Fr.shr ns = ns))) [("letters", .ref tl), ("length", .int (ns.length : Nat)), ("kinds", .ref tk)])) k8 hp8
      refine gen_heap fun H9 e9 => ?_
      rw [← e9] at hp9 s9 t9 k9
      -- short round
      refine ⟨_, rfl, a, ns, rfl, E0.same s9, by omega, hl.nz, fun q2 Ha sa qa => ?_⟩
      have hpa := sa _ _ hp9
      have s0a := s9.trans sa
      have ta := SqB.same sa t9
      have ka := WR.Same.seqT sa k9
      refine ⟨_, rfl, p, C, dx, _, _, rfl, hpa, T.cl, T.nL, lk_eq, ?_⟩
      refine ⟨_, _, .tup qa.sq (dp_iv _), .tup ta.sq (dp_iv _), shaped_ints _, shaped_ints _, ?_⟩
      rw [eqv_ints]
      refine ⟨_, rfl, p, C, dx, _, rfl, hpa, T.cl, T.nR, (by show 4 < 1000; decide), ?_⟩
      refine k _ (same_put s0a p0) ⟨dx, tl, tk, ks, ?_, SqB.put ta hpa, SqT.put ka hpa, hk⟩
      rw [upd_same, pf_ne ne4, pf_ne ne7, pf_ne ne9, pf_ne ne10]
      rfl
    · refine ⟨_, pss_cons (ps_if (PW.pt (pw_or (pt_not (pt_val (pe_cal GL hr (by decide) (by rfl) (pa_cons (pv 1) pa_nil)))) (pw_or1 (pt_not (pt_val (pe_callB (cr_all rfl) (by rfl) T.all (by decide +kernel) (pa_cons (pe_lc (own := [("letter", 2)]) (g := gName 2) (tt := tYes) rfl scInit.nd (pi_tup (pv 1))
          (blkOk_by (N := nInit) (sc := defScope sInit) (by decide +kernel)) (fun _ _ _ _ _ => pg_name (i := 2) scInit.nd rfl (Or.inl rfl)) (fun _ _ _ _ _ => pts_nil)
          (fun _ _ _ _ _ => pe_cal GX hr (by decide) (by rfl) (pa_cons (pv 2) pa_nil))) pa_nil))))))) (pss_one ps_never) pss_nil)
        (pss_cons (ps_expr (pe_cal GF hr (by decide) (by rfl) (pa_cons (pe_callB call_len_seq (by rfl) TA.len PySem.boot_len (pa_cons (pv 1) pa_nil)) pa_nil)))
        (pss_cons (ps_fld (pv 0) (pe_callTy call_tupB (by rfl) TA.tuple (by decide +kernel) (pa_cons (pv 1) pa_nil)) rfl)
        (pss_cons (ps_fld (pv 0) (pe_callB call_len_seq (by rfl) TA.len PySem.boot_len (pa_cons (pv 1) pa_nil)) rfl)
        (pss_cons (ps_fld (pv 0) (pe_cal GK hr (by decide) (by rfl) (pa_cons (pv 1) pa_nil)) rfl)
        (pss_cons (ps_fld (pv 0) (pe_cmpR (op_eqD hr.units) (pe_cal GS hr (by decide) (by rfl) (pa_cons (pv 1) pa_nil)) (pe_fld (pv 0) rfl) (nomark _)) rfl)
        (pss_one (ps_fld (pv 0) (pe_cmpR (op_eqD hr.units) (pe_cal GR hr (by decide) (by rfl) (pa_cons (pv 1) pa_nil)) (pe_fld (pv 0) rfl) (nomark _)) rfl))))))), ?_⟩
      have E0 : SqE K H0 a (iv ns) := .inr hS
      refine ⟨_, rfl, a, _, rfl, E0.same s0, fun H1 s1 => ⟨_, rfl, ?_⟩⟩
      have s01 := s0.trans s1
      refine iteF ?_
      refine not_lc ?_
      refine ⟨_, rfl, a, rfl, ⟨_, (WR.Same.seqT s01 hS.sq)⟩, ?_⟩
      refine lcp (walk_tup (xs := iv ns)) (fun _ => true) (fun x => .bl (letterB x)) (by simp; omega) (fun H2 s2 => WR.Same.seqT (s01.trans s2) hS.sq) ?_ ?_
      · intro x hx H2 s2 Qy Qn ky kn
        obtain ⟨i, hi, rfl⟩ := List.mem_map.mp hx
        exact ⟨rfl, yes_te ⟨_, rfl, .int i, _, rfl, .int i, ky rfl H2 (fun _ _ e => e)⟩⟩
      intro D H2 hD s2 h2
      have s02 := s01.trans s2
      refine ⟨D, ns.map fun i => letterB (.int i), rfl, SqL.of (by
        rw [h2, List.filter_eq_self.mpr (fun _ _ => rfl), List.map_map, List.map_map]
        rfl), ?_⟩
      rw [all_ok hl]
      refine ⟨_, rfl, iteF ?_⟩
      -- not too many
      refine ⟨_, rfl, a, _, rfl, E0.same s02, ((iv ns).length : Int), rfl, by rw [List.length_map]; omega, ?_⟩
      have hp2 : H2 p = some (.ins C dx []) := s2 _ _ (s1 _ _ hp)
      -- its letters
      refine ⟨_, rfl, a, _, rfl, .inr ⟨SqB.same s02 hS, ?_⟩⟩
      have s3 := s02
      have hp3 := hp2
      have t3 : SqB K H2 a (iv ns) := SqB.same s02 hS
      refine gen_heap fun H3 e3 => ?_
      rw [← e3] at s3 hp3 t3
      refine ⟨_, rfl, p, C, dx, _, rfl, hp3, T.cl, T.nL, (by show 0 < 1000; decide), ?_⟩
      have hp4 : L2.upd H3 p (.ins C dx (putF "letters" (.ref a) [])) p = some (.ins C dx [("letters", .ref a)]) := by rw [upd_same]; rfl
      have s4 := same_put (o := .ins C dx (putF "letters" (.ref a) [])) s3 p0
      have t4 := SqB.put (o := .ins C dx (putF "letters" (.ref a) [])) t3 hp3
      refine gen_heap fun H4 e4 => ?_
      rw [← e4] at hp4 s4 t4
      -- how many
      refine ⟨_, rfl, a, _, rfl, E0.same s4, _, rfl, p, C, dx, _, rfl, hp4, T.cl, T.nN, (by show 1 < 1000; decide), ?_⟩
      have hp5 : L2.upd H4 p (.ins C dx (putF "length" (.int ((iv ns).length : Nat)) [("letters", .ref a)])) p = some (.ins C dx [("letters", .ref a), ("length", .int (ns.length : Nat))]) := by
        rw [upd_same, pf_ne ne1, List.length_map]
        rfl
      have s5 := same_put (o := .ins C dx (putF "length" (.int ((iv ns).length : Nat)) [("letters", .ref a)])) s4 p0
      have t5 := SqB.put (o := .ins C dx (putF "length" (.int ((iv ns).length : Nat)) [("letters", .ref a)])) t4 hp4
      refine gen_heap fun H5 e5 => ?_
      rw [← e5] at hp5 s5 t5
      -- its kinds
      refine ⟨_, rfl, a, ns, rfl, E0.same s5, by omega, hl, fun ks hk tk H6 s6 tk6 => ?_⟩
      have hp6 := s6 _ _ hp5
      have s06 := s5.trans s6
      have t6 := SqB.same s6 t5
      refine ⟨_, rfl, p, C, dx, _, rfl, hp6, T.cl, T.nK, (by show 2 < 1000; decide), ?_⟩
      have hp7 : L2.upd H6 p (.ins C dx (putF "kinds" (.ref tk) [("letters", .ref a), ("length", .int (ns.length : Nat))])) p = some (.ins C dx [("letters", .ref a), ("length", .int (ns.length : Nat)), ("kinds", .ref tk)]) := by
        rw [upd_same, pf_ne ne2, pf_ne ne5]
        rfl
      have s7 := same_put (o := .ins C dx (putF "kinds" (.ref tk) [("letters", .ref a), ("length", .int (ns.length : Nat))])) s06 p0
      have t7 := SqB.put (o := .ins C dx (putF "kinds" (.ref tk) [("letters", .ref a), ("length", .int (ns.length : Nat))])) t6 hp6
      have k7 := SqT.put (o := .ins C dx (putF "kinds" (.ref tk) [("letters", .ref a), ("length", .int (ns.length : Nat))])) tk6 hp6
      refine gen_heap fun H7 e7 => ?_
      rw [← e7] at hp7 s7 t7 k7
      -- short
      refine ⟨_, rfl, a, ns, rfl, E0.same s7, by omega, fun q H8 s8 q8 => ?_⟩
      have hp8 := s8 _ _ hp7
      have s08 := s7.trans s8
      have t8 := SqB.same s8 t7
      have k8 := WR.Same.seqT s8 k7
      refine ⟨_, rfl, p, C, dx, _, _, rfl, hp8, T.cl, T.nL, lk_eq, ?_⟩
      refine ⟨_, _, .tup q8.sq (dp_iv _), .tup t8.sq (dp_iv _), shaped_ints _, shaped_ints _, ?_⟩
      rw [eqv_ints]
      refine ⟨_, rfl, p, C, dx, _, rfl, hp8, T.cl, T.nS, (by show 3 < 1000; decide), ?_⟩
      have hp9 : L2.upd H8 p (.ins C dx (putF "is_short" (.bl (decide (Fr.shr ns = ns))) [("letters", .ref a), ("length", .int (ns.length : Nat)), ("kinds", .ref tk)])) p = some (.ins C dx [("letters", .ref a), ("length", .int (ns.length : Nat)), ("kinds", .ref tk), ("is_short", .bl (decide (Fr.shr ns = ns)))]) := by
        rw [upd_same, pf_ne ne3, pf_ne ne6, pf_ne ne8]
        rfl
      have s9 := same_put (o := .ins C dx (putF "is_short" (.bl (decide (Fr.shr ns = ns))) [("letters", .ref a), ("length", .int (ns.length : Nat)), ("kinds", .ref tk)])) s08 p0
      have t9 := SqB.put (o := .ins C dx (putF "is_short" (.bl (decide (Fr.shr ns = ns))) [("letters", .ref a), ("length", .int (ns.length : Nat)), ("kinds", .ref tk)])) t8 hp8
      have k9 := SqT.put (o := .ins C dx (putF "is_short" (.bl (decide (Fr.shr ns = ns))) [("letters", .ref a), ("length", .int (ns.length : Nat)), ("kinds", .ref tk)])) k8 hp8
      refine gen_heap fun H9 e9 => ?_
      rw [← e9] at hp9 s9 t9 k9
      -- short round
      refine ⟨_, rfl, a, ns, rfl, E0.same s9, by omega, hl.nz, fun q2 Ha sa qa => ?_⟩
      have hpa := sa _ _ hp9
      have s0a := s9.trans sa
      have ta := SqB.same sa t9
      have ka := WR.Same.seqT sa k9
      refine ⟨_, rfl, p, C, dx, _, _, rfl, hpa, T.cl, T.nL, lk_eq, ?_⟩
      refine ⟨_, _, .tup qa.sq (dp_iv _), .tup ta.sq (dp_iv _), shaped_ints _, shaped_ints _, ?_⟩
      rw [eqv_ints]
      refine ⟨_, rfl, p, C, dx, _, rfl, hpa, T.cl, T.nR, (by show 4 < 1000; decide), ?_⟩
      refine k _ (same_put s0a p0) ⟨dx, a, tk, ks, ?_, SqB.put ta hpa, SqT.put ka hpa, hk⟩
      rw [upd_same, pf_ne ne4, pf_ne ne7, pf_ne ne9, pf_ne ne10]
      rfl
end
end W17
set_option Elab.async false
set_option linter.all false
set_option maxRecDepth 100000
set_option maxHeartbeats 2000000
namespace W17
open PySem L2 PySem.Spec PyProof.Rows WR WB
abbrev sEq : Stmt := inClass (top 43) 1
def spEq (K : PySem.W.Frag) (C : Addr) : Sp := fun vs H Q _ => ∃ (p q : Addr) (ns ms : List Int), vs = [.ref p, .ref q] ∧ WordAt K C H p ns ∧ WordAt K C H q ms ∧ Q (.bl (decide (ns = ms))) H
theorem Lts.shr {ns : List Int} (h : Lts ns) : Lts (Fr.shr ns) := fun x hx => h x (Fr.shr_mem hx)
theorem WordAt.tyx {K : PySem.W.Frag} {mg : Str → Option Value} {C : Addr} {H : Hp} {p : Addr} {ns : List Int} (h : WordAt K C H p ns) (T : TxW K mg C) : TyX K H (.ref p) (.ref C) := by
  obtain ⟨dx, tl, tk, ks, h1, _⟩ := h
  exact .base (.ins h1 T.cl T.ca T.cn T.ct T.cm)
theorem kit_self {K : PySem.W.Frag} (C : Addr) : PySem.W.kitOne K (.ref C) (.ref C) = some true := by
  unfold PySem.W.kitOne
  rw [if_pos (by simp)]
structure MkW (P : Program) (w : World) (K : PySem.W.Frag) (mg : Str → Option Value) (base : Heap) (C : Addr) : Prop where
  ex : ∃ (f : Addr) (fd : FuncData), Mk K C f ∧ FnOk P w K mg base CX0 4 f fd ["self", "letters"] (spInit K C) ∧ Binds K fd ["self", "letters"] []
section
variable {X : Cx} {C : Addr} {p pos : Pos} {e : Expr} {es : List Expr} {t : TA} {j : Nat}
theorem pe_word (M : MkW X.prog X.w X.K X.mg X.base C) (T : TxW X.K X.mg C) (hr : Room j X.A) (hkj : 5 ≤ j) (hg : Gl X "Word") (ha : PA X (e :: es) t)
    (he : starEach (e :: es) X.env = (false, eval e X.env) :: starEach es X.env := by rfl) (hpl : (backTo pos (starEach es X.env)).any (·.1) = false := by rfl) :
    PE X (.Call (.Name "Word" p) (e :: es) [] pos) (tMake C (spInit X.K C) [] E0 t) := by
  obtain ⟨f, fd, M, F, hb⟩ := M.ex
  exact pe_make M F (hr.mono hkj) hg T.mgW hb .nil pass0 ha (by decide) he hpl
end
section
variable {P : Program} {w : World} {K : PySem.W.Frag} {mg : Str → Option Value} {base : Heap}
theorem scEq : FnScope ["self", "other"] ["self", "other"] (defScope sEq) := ⟨rfl, rfl, rfl, by decide +kernel, rfl, by decide +kernel, by decide +kernel⟩
theorem ok_eq {C f : Addr} {fd : FuncData} (F : Fun K "__eq__" "Word.__eq__" sEq f fd) (T : TxW K mg C) : FnOk P w K mg base CX0 1 f fd ["self", "other"] (spEq K C) := by
  refine F.ok scEq (fun vs H Q E h => ?_) (fun cdv A outer s H vs Q E hr h => ?_)
  · obtain ⟨p, q, ns, ms, rfl, _⟩ := h
    rfl
  · obtain ⟨p, q, ns, ms, rfl, W1, W2, k⟩ := h
    refine ⟨_, pss_one (ps_ret (pe_and (pe_callB call_isi (by rfl) T.isin (by decide +kernel) (pa_cons (pv 1) (pa_cons (pe_glob (v := .ref C) (by rfl) T.mgW rfl) pa_nil)))
      (pe_one (pe_cmpR (op_eqD hr.units) (pe_fld (pv 0) rfl) (pe_fld (pv 1) rfl) (nomark _))))), ?_⟩
    refine ⟨_, rfl, _, _, _, _, _, rfl, .own C, W2.tyx T, kit_self C, _, rfl, ?_⟩
    refine iteT ?_
    obtain ⟨dx, tl, tk, ks, h1, h2, h3, h4⟩ := W1
    obtain ⟨dx', tl', tk', ks', h1', h2', h3', h4'⟩ := W2
    refine ⟨_, rfl, p, C, dx, _, _, rfl, h1, T.cl, T.nL, wf_letters, _, rfl, q, C, dx', _, _, rfl, h1', T.cl, T.nL, wf_letters, ?_⟩
    refine ⟨_, _, .tup h2.sq (dp_iv _), .tup h2'.sq (dp_iv _), shaped_ints _, shaped_ints _, ?_⟩
    rw [eqv_ints]
    exact k
end
end W17
set_option Elab.async false
set_option linter.all false
set_option maxRecDepth 100000
set_option maxHeartbeats 2000000
namespace W17
open PySem L2 WR WB
abbrev sJar : Stmt := top 66
abbrev sDraw : Stmt := top 67
/-! ### the hand that draws -/
/-- at a: a hand, of which at most n cells were begun -/
def HandAt (H : Hp) (a c : Addr) (n : Nat) : Prop := ∃ (ns : List Int) (i r : Int), H a = some (.lst [.ref c, .int i, .int r]) ∧ H c = some (.lst (ns.map V.int)) ∧ c ≠ a ∧ ns.length ≤ 1000 ∧ 0 ≤ i ∧ i ≤ (n : Int) ∧ 0 ≤ r
/-- all but what is at a stands as it did -/
def Kept (a : Addr) (H H' : Hp) : Prop := ∀ b o, b ≠ a → H b = some o → H' b = some o
theorem Kept.refl {a : Addr} {H : Hp} : Kept a H H := fun _ _ _ e => e
theorem Kept.trans {a : Addr} {H H1 H2 : Hp} (h1 : Kept a H H1) (h2 : Kept a H1 H2) : Kept a H H2 := fun b o n e => h2 b o n (h1 b o n e)
theorem Kept.upd {a : Addr} {H : Hp} {o : HO} : Kept a H (upd H a o) := fun b u n e => by rw [upd_ne n]; exact e
theorem Kept.new {a p : Addr} {H H' : Hp} {o : HO} (k : Kept a H H') (hp : H' p = none) : Kept a H (L2.upd H' p o) := fun b u n e => by
  rw [upd_ne (ne_of_none (k b u n e) hp)]
  exact k b u n e
theorem HandAt.put {H : Hp} {a c : Addr} {ns : List Int} {i r : Int} {n : Nat} (hC : H c = some (.lst (ns.map V.int))) (hca : c ≠ a) (hl : ns.length ≤ 1000) (i0 : 0 ≤ i) (hi : i ≤ (n : Int)) (r0 : 0 ≤ r) :
    HandAt (L2.upd H a (.lst [.ref c, .int i, .int r])) a c n := ⟨ns, i, r, upd_same, by rw [upd_ne hca]; exact hC, hca, hl, i0, hi, r0⟩
def spHand (K : PySem.W.Frag) : Sp := fun vs H Q _ => ∃ (a : Addr) (ns : List Int), vs = [.ref a] ∧ SqL K H a (ns.map V.int) ∧ ns.length ≤ 1000 ∧
  ∀ (H' : Hp) (p c : Addr), Same H H' → H p = none → H c = none → HandAt H' p c 0 → Q (.ref p) H'
def spTake : Sp := fun vs H Q _ => ∃ (a c : Addr) (m : Int) (n : Nat), vs = [.ref a, .int m] ∧ HandAt H a c n ∧ n ≤ 10000 ∧ 0 < m ∧ m.natAbs < 2 ^ 200 ∧
  ∀ (H' : Hp) (q : Int), 0 ≤ q → q < m → HandAt H' a c (n + 1) → Kept a H H' → Q (.int q) H'
theorem dpInts {K : PySem.W.Frag} {H : Hp} : ∀ ns : List Int, DpAll K H (ns.map V.int) (ns.map PyData.int)
  | [] => .nil
  | n :: r => .cons (.int n) (dpInts r)
structure TxL (mg : Str → Option Value) : Prop where
  int : mg "int" = none
  len : mg "len" = none
  abs : mg "abs" = none
section
variable {P : Program} {w : World} {K : PySem.W.Frag} {mg : Str → Option Value} {base : Heap}
theorem scHand : FnScope ["_law_script", "_law_cell"] ["_law_script"] (defScope sJar) := ⟨rfl, rfl, rfl, by decide +kernel, rfl, by decide +kernel, by decide +kernel⟩
theorem ok_hand {f : Addr} {fd : FuncData} (F : Fun K "_law_pen" "_law_pen" sJar f fd) (T : TxL mg) : FnOk P w K mg base CX0 1 f fd ["_law_script"] (spHand K) := by
  refine F.ok scHand (fun vs H Q E h => ?_) (fun cdv A outer s H vs Q E hr h => ?_)
  · obtain ⟨a, ns, rfl, _⟩ := h
    rfl
  · obtain ⟨a, ns, rfl, hS, hlen, k⟩ := h
    refine ⟨_, pss_one (ps_ret (pe_lst (pa_cons (pe_lc (own := [("_law_cell", 1)]) (g := gName 1) (tt := tYes) rfl scHand.nd (pi_list (pe_slice sl_list (pv 0) po_none (po_some pe_int)))
      (blkOk_by (N := ["_law_script", "_law_cell"]) (sc := defScope sJar) (by decide +kernel)) (fun _ _ _ _ _ => pg_name (i := 1) scHand.nd rfl (Or.inl rfl)) (fun _ _ _ _ _ => pts_nil)
      (fun _ _ _ _ _ => pe_callTy call_int1 (by rfl) T.int (by decide +kernel) (pa_cons (pv 1) pa_nil))) (pa_cons pe_int (pa_cons pe_int pa_nil))))), ?_⟩
    refine ⟨_, rfl, 62, rfl, a, ns.map V.int, rfl, hS, fun p hp => ?_⟩
    refine ⟨p, rfl, ⟨_, SqL.of upd_same⟩, fun D hD => ?_⟩
    have hDp : D ≠ p := fun e => by
      rw [e, upd_same] at hD
      cases hD
    have hD0 : H D = none := by
      rw [upd_ne hDp] at hD
      exact hD
    have hc : cutV (ns.map V.int) none (some 62) = (ns.take 62).map V.int := by
      unfold cutV
      rw [List.map_take, List.length_map]
      have e0 : HT.sIx ns.length 0 none = 0 := rfl
      rw [e0, List.drop_zero]
      have e1 : HT.sIx ns.length ns.length (some 62) = min 62 ns.length := by
        unfold HT.sIx
        simp
        try omega
      rw [e1, Nat.sub_zero]
      by_cases h : 62 ≤ ns.length
      · rw [Nat.min_eq_left h]
      · rw [Nat.min_eq_right (by omega), List.take_of_length_le (by simp), List.take_of_length_le (by simp; omega)]
    refine lc_list (K := K) (a := p) (xs := (ns.take 62).map V.int) (fun i H' => H' D = some (.lst (((ns.take 62).take i).map V.int)) ∧ H' p = some (.lst ((ns.take 62).map V.int)) ∧ Same H H') ⟨upd_same, ?_, ?_⟩ (fun i H' _ q => SqL.of q.2.1) ?_ ?_
    · rw [upd_ne hDp.symm, upd_same, hc]
    · intro b o e
      rw [upd_ne (ne_of_none e hD0), upd_ne (ne_of_none e hp)]
      exact e
    · intro i x H' hi q
      obtain ⟨z, hz, rfl⟩ : ∃ z, (ns.take 62)[i]? = some z ∧ x = V.int z := by
        rw [List.getElem?_map] at hi
        cases e : (ns.take 62)[i]? with
        | none =>
          rw [e] at hi
          cases hi
        | some z =>
          rw [e] at hi
          exact ⟨z, rfl, (Option.some.inj hi).symm⟩
      have hli : i < (ns.take 62).length := (List.getElem?_eq_some_iff.mp hz).1
      have hl60 : (ns.take 62).length ≤ 62 := by rw [List.length_take]; omega
      refine ⟨rfl, ?_⟩
      refine yes_te ?_
      refine ⟨_, rfl, .inl ⟨z, rfl, _, q.1, Evl.sz_lt (by rw [List.length_map, List.length_take]; omega), ?_⟩⟩
      refine ⟨?_, ?_, ?_⟩
      · rw [upd_same]
        congr 2
        have ez : (ns.take 62)[i] = z := (List.getElem?_eq_some_iff.mp hz).2
        rw [List.take_succ_eq_append_getElem hli, ez, List.map_append]
        rfl
      · rw [upd_ne hDp.symm]
        exact q.2.1
      · intro b o e
        rw [upd_ne (ne_of_none e hD0)]
        exact q.2.2 b o e
    · intro H' q
      refine ⟨by show 3 ≤ sizeLine; decide, fun l hl => ?_⟩
      have hlD : D ≠ l := ne_of_none q.1 hl
      have hl0 : H l = none := by
        cases e : H l with
        | none => rfl
        | some o => rw [q.2.2 l o e] at hl; cases hl
      refine k _ l D (fun b o e => by rw [upd_ne (ne_of_none e hl0)]; exact q.2.2 b o e) hl0 hD0 ?_
      have q1 := q.1
      rw [List.length_map, List.take_length] at q1
      exact ⟨ns.take 62, 0, 0, upd_same, by rw [upd_ne hlD]; exact q1, hlD, by rw [List.length_take]; omega, Int.le_refl _, Int.le_refl _, Int.le_refl _⟩
theorem scTake : FnScope ["_law_pen_here", "_law_many", "_law_rest", "_law_at", "_law_cell", "_law_mixed_here"] ["_law_pen_here", "_law_many"] (defScope sDraw) := ⟨rfl, rfl, rfl, by decide +kernel, rfl, by decide +kernel, by decide +kernel⟩
theorem ok_take {f : Addr} {fd : FuncData} (F : Fun K "_law_draw" "_law_draw" sDraw f fd) (T : TxL mg) : FnOk P w K mg base CX0 1 f fd ["_law_pen_here", "_law_many"] spTake := by
  refine F.ok scTake (fun vs H Q E h => ?_) (fun cdv A outer s H vs Q E hr h => ?_)
  · obtain ⟨a, c, m, n, rfl, _⟩ := h
    rfl
  · obtain ⟨a, c, m, n, rfl, ⟨ns, i, r, hA, hC, hca, hlen, i0, hi, r0⟩, hn, m0, hm, k⟩ := h
    refine ⟨_, pss_cons (ps_if (pt_cmpR op_gt (pe_ix ix_list (pv 0) pe_int (fun _ _ => rfl)) pe_int (nomark _))
        (pss_cons (ps_set (i := 2) scTake.nd rfl (Or.inl rfl) (pe_callTy call_int1 (by rfl) T.int (by decide +kernel) (pa_cons (pe_ix ix_list (pv 0) pe_int (fun _ _ => rfl)) pa_nil)))
        (pss_cons (ps_asg (pe_op op_fdivW (pv 2) (pv 1)) (pg_sub (pv 0) pe_int set_list))
        (pss_one (ps_ret (pe_op op_mod (pe_callTy call_int1 (by rfl) T.int (by decide +kernel) (pa_cons (pv 2) pa_nil)) (pv 1)))))) pss_nil)
      (pss_cons (ps_set (i := 3) scTake.nd rfl (Or.inl rfl) (pe_ix ix_list (pv 0) pe_int (fun _ _ => rfl)))
      (pss_cons (ps_asg (pe_op op_add (pv 3) pe_int) (pg_sub (pv 0) pe_int set_list))
      (pss_cons (ps_set (i := 4) scTake.nd rfl (Or.inl rfl) (pe_op op_add (pe_op op_mul pe_int (pv 3)) pe_int))
      (Evl.pss_cut (ps_if (pt_cmpR (op_neD hr.units) (pe_ix ix_list (pv 0) pe_int (fun _ _ => rfl)) (pe_lst pa_nil) (nomark _))
        (pss_one (ps_set (i := 4) scTake.nd rfl (Or.inl rfl) (pe_ix ix_list (pe_ix ix_list (pv 0) pe_int (fun _ _ => rfl)) (pe_op op_mod (pe_callTy call_int1 (by rfl) T.int (by decide +kernel) (pa_cons (pv 3) pa_nil)) (pe_callB call_len_seq (by rfl) T.len PySem.boot_len (pa_cons (pe_ix ix_list (pv 0) pe_int (fun _ _ => rfl)) pa_nil))) (fun _ _ => rfl)))) pss_nil)
      (Evl.pss_cut (ps_if (PW.pt (pw_and (pt_cmpR op_lt (pv 3) (pe_callB call_len_seq (by rfl) T.len PySem.boot_len (pa_cons (pe_ix ix_list (pv 0) pe_int (fun _ _ => rfl)) pa_nil)) (nomark _)) (pw_and1 (pt_cmpR op_ge (pe_callB call_abs (by rfl) T.abs (by decide +kernel) (pa_cons (pv 4) pa_nil)) (pe_op op_pow pe_int pe_int) (nomark _)))))
        (pss_cons (ps_set (i := 2) scTake.nd rfl (Or.inl rfl) (pe_op op_add (pe_op op_mul pe_int (pe_op op_sub (pe_callB call_abs (by rfl) T.abs (by decide +kernel) (pa_cons (pv 4) pa_nil)) (pe_op op_pow pe_int pe_int))) (pe_callTy call_int1 (by rfl) T.int (by decide +kernel) (pa_cons (pe_cmpR op_lt (pv 4) pe_int (nomark _)) pa_nil))))
        (pss_cons (ps_asg (pe_op op_fdivW (pe_callTy call_int1 (by rfl) T.int (by decide +kernel) (pa_cons (pv 2) pa_nil)) (pv 1)) (pg_sub (pv 0) pe_int set_list))
        (pss_one (ps_ret (pe_op op_mod (pe_callTy call_int1 (by rfl) T.int (by decide +kernel) (pa_cons (pv 2) pa_nil)) (pv 1)))))) pss_nil)
      (pss_cons (ps_set (i := 5) scTake.nd rfl (Or.inl rfl) (pe_op op_mod (pe_callTy call_int1 (by rfl) T.int (by decide +kernel) (pa_cons (pe_op op_pow (pe_op op_add (pe_op op_add (pe_op op_mod (pe_callTy call_int1 (by rfl) T.int (by decide +kernel) (pa_cons (pv 4) pa_nil)) pe_int) (pe_op op_mul pe_int (pv 3))) pe_int) pe_int) pa_nil)) pe_int))
      (pss_cons (ps_set (i := 5) scTake.nd rfl (Or.inl rfl) (pe_op op_mod (pe_callTy call_int1 (by rfl) T.int (by decide +kernel) (pa_cons (pe_op op_pow (pe_op op_add (pe_op op_add (pe_op op_mul (pv 5) (pe_op op_add (pe_op op_mul pe_int (pv 3)) pe_int)) (pe_op op_mul (pe_op op_mul pe_int (pv 3)) (pv 3))) pe_int) pe_int) pa_nil)) pe_int))
      (pss_one (ps_ret (pe_op op_mod (pe_callTy call_int1 (by rfl) T.int (by decide +kernel) (pa_cons (pe_op op_fdiv (pv 5) pe_int) pa_nil)) (pv 1)))))))))))
      , ?_⟩
    have hdv : ∀ x : Int, CDivW x m := fun x => wide_div m0 hm (by decide) (by decide)
    -- if hand[2] > 0
    refine ⟨_, rfl, a, _, 2, _, rfl, rfl, SqL.of hA, rfl, _, _, rfl, rfl, _, rfl, ?_⟩
    refine ite2 (fun hp => ?_) (fun _ => ?_)
    · refine ⟨_, rfl, a, _, 2, _, rfl, rfl, SqL.of hA, rfl, .inl ⟨_, rfl, ?_⟩⟩
      refine ⟨_, rfl, _, rfl, _, _, rfl, rfl, hdv _, _, rfl, a, _, 2, 2, rfl, rfl, hA, rfl, ?_⟩
      refine ⟨_, rfl, .inl ⟨_, rfl, _, rfl, _, _, rfl, rfl, m0, ?_⟩⟩
      exact k _ (r % m) (Int.emod_nonneg _ (by omega)) (Int.emod_lt_of_pos _ m0) (HandAt.put hC hca hlen i0 (by omega) (Int.ediv_nonneg r0 (by omega))) Kept.upd
    -- at = hand[1]; hand[1] = at + 1; cell = ..
    refine ⟨_, rfl, a, _, 1, _, rfl, rfl, SqL.of hA, rfl, ?_⟩
    refine ⟨_, rfl, _, _, rfl, rfl, _, rfl, a, _, 1, 1, rfl, rfl, hA, rfl, ?_⟩
    refine ⟨_, rfl, _, _, rfl, rfl, .inl ⟨by decide, by decide⟩, _, _, rfl, rfl, ?_⟩
    -- H1: the heap behind this
    obtain ⟨H1, eH1⟩ : ∃ H1, H1 = upd H a (.lst [.ref c, .int (i + 1), .int r]) := ⟨_, rfl⟩
    have kH : Kept a H H1 := by rw [eH1]; exact Kept.upd
    have hA1 : H1 a = some (.lst [.ref c, .int (i + 1), .int r]) := by rw [eH1]; exact upd_same
    have hC1 : H1 c = some (.lst (ns.map V.int)) := by rw [eH1, upd_ne hca]; exact hC
    show Evl.tCut _ _ _ _ (upd H a (.lst [.ref c, .int (i + 1), .int r]))
    rw [← eH1]
    refine ⟨fun σ' H' => Same H1 H' ∧ ∃ cell : Int, σ' = [some (.ref a), some (.int m), none, some (.int i), some (.int cell), none], ?_, ?_⟩
    · refine ⟨_, rfl, a, _, 0, _, rfl, rfl, SqL.of hA1, rfl, Nat.zero_le _, fun p hp => ?_⟩
      have hcp : c ≠ p := ne_of_none hC1 hp
      have hap : a ≠ p := ne_of_none hA1 hp
      have sm : Same H1 (upd H1 p (.lst [])) := fun b o e => by rw [upd_ne (ne_of_none e hp)]; exact e
      refine ⟨.list (ns.map PyData.int), .list [], .lst (SqL.of (sm _ _ hC1)) (dpInts ns), .lst (SqL.of upd_same) .nil, PySem.W.ke_shaped_ints ns, rfl, _, rfl, ?_⟩
      refine ite2 (fun hne => ?_) (fun _ => ?_)
      · have hn0 : 0 < ns.length := by
          cases ns with
          | nil => exact absurd hne (by decide)
          | cons x xs => exact Nat.succ_pos _
        have hl0 : (0 : Int) < (((ns.map V.int).length : Nat) : Int) := by rw [List.length_map]; omega
        have hj0 : 0 ≤ i % (((ns.map V.int).length : Nat) : Int) := Int.emod_nonneg _ (by omega)
        have hj1 : i % (((ns.map V.int).length : Nat) : Int) < (((ns.map V.int).length : Nat) : Int) := Int.emod_lt_of_pos _ hl0
        obtain ⟨j, hj⟩ : ∃ j : Nat, i % (((ns.map V.int).length : Nat) : Int) = (j : Int) := ⟨(i % (((ns.map V.int).length : Nat) : Int)).toNat, by omega⟩
        have hjl : j < ns.length := by rw [List.length_map] at hj1 hj; omega
        refine ⟨_, rfl, a, _, 0, _, rfl, rfl, SqL.of (sm _ _ hA1), rfl, _, rfl, .inl ⟨_, rfl, ?_⟩⟩
        refine ⟨_, rfl, a, _, 0, _, rfl, rfl, SqL.of (sm _ _ hA1), rfl, c, _, rfl, .inl (SqL.of (sm _ _ hC1)), _, _, rfl, rfl, hl0, c, _, _, .int ns[j], rfl, rfl, SqL.of (sm _ _ hC1), ?_, ?_⟩
        · rw [hj]
          exact atI_nat (by rw [List.getElem?_map, List.getElem?_eq_getElem hjl]; rfl)
        · exact ⟨sm, ns[j], rfl⟩
      · exact ⟨sm, _, rfl⟩
    · rintro σ' H2 ⟨sm, cell, rfl⟩
      have hA2 := sm _ _ hA1
      have hC2 := sm _ _ hC1
      have kH2 : Kept a H H2 := fun b o e q => sm b o (kH b o e q)
      -- a great cell: what is left of it
      refine ⟨fun σ' H' => σ' = [some (.ref a), some (.int m), none, some (.int i), some (.int cell), none] ∧ H' = H2, ?_, ?_⟩
      · refine ⟨_, rfl, _, rfl, a, _, 0, _, rfl, rfl, SqL.of hA2, rfl, c, _, rfl, .inl (SqL.of hC2), _, _, rfl, rfl, _, rfl, ?_⟩
        refine ite2 (fun _ => ?_) (fun _ => ?_)
        · refine ⟨_, rfl, cell, rfl, _, _, rfl, rfl, ⟨by decide, by decide, by decide⟩, _, _, rfl, rfl, _, rfl, ?_⟩
          refine ite2 (fun hge => ?_) (fun _ => ⟨rfl, rfl⟩)
          have hge' := of_decide_eq_true hge
          refine ⟨_, rfl, cell, rfl, _, _, rfl, rfl, ⟨by decide, by decide, by decide⟩, _, _, rfl, rfl, _, _, rfl, rfl, .inl ⟨by decide, by decide⟩, _, rfl, _, _, rfl, rfl, .inr ⟨_, rfl, _, _, rfl, rfl, ?_⟩⟩
          have hr2 : ∀ b : Bool, 0 ≤ 2 * ((if cell < 0 then -cell else cell) - (10 : Int) ^ Int.toNat 18) + (if b = true then 1 else 0) := by
            intro b
            have e1 : (if b = true then (1 : Int) else 0) ≥ 0 := by cases b <;> decide
            have e2 : (10 : Int) ^ Int.toNat 18 ≤ (if cell < 0 then -cell else cell) := hge'
            omega
          refine ⟨_, rfl, .inl ⟨_, rfl, _, rfl, _, _, rfl, rfl, hdv _, _, rfl, a, _, 2, 2, rfl, rfl, hA2, rfl, ?_⟩⟩
          refine ⟨_, rfl, .inl ⟨_, rfl, _, rfl, _, _, rfl, rfl, m0, ?_⟩⟩
          exact k _ _ (Int.emod_nonneg _ (by omega)) (Int.emod_lt_of_pos _ m0) (HandAt.put hC2 hca hlen (by omega) (by omega) (Int.ediv_nonneg (hr2 _) (by omega))) (kH2.trans Kept.upd)
        · exact ⟨rfl, rfl⟩
      · rintro σ' H3 ⟨rfl, rfl⟩
        have hin : i ≤ 10000 := by omega
        have b1 : 0 ≤ cell % 2147483629 := Int.emod_nonneg _ (by decide)
        have b2 : cell % 2147483629 < 2147483629 := Int.emod_lt_of_pos _ (by decide)
        refine ⟨_, rfl, .inl ⟨_, rfl, _, _, rfl, rfl, (by decide : (0 : Int) < 2147483629), _, rfl, _, _, rfl, rfl, .inl ⟨by decide, by decide⟩, _, _, rfl, rfl, _, _, rfl, rfl, _, _, rfl, rfl, ⟨by decide, by decide, ?_⟩, ?_⟩⟩
        · show (cell % 2147483629 + 40163 * i + 7187).natAbs < 2 ^ 64
          have e : (2 : Nat) ^ 64 = 18446744073709551616 := by decide
          rw [e]
          omega
        have hb : ∀ x : Int, ((x % 2147483563) * (2 * i + 2243) + 56167 * i * i + 60083).natAbs < 2 ^ 64 := by
          intro x
          have b3 : 0 ≤ x % 2147483563 := Int.emod_nonneg _ (by decide)
          have b4 : x % 2147483563 < 2147483563 := Int.emod_lt_of_pos _ (by decide)
          have e : (2 : Nat) ^ 64 = 18446744073709551616 := by decide
          have c1 : 0 ≤ (x % 2147483563) * (2 * i + 2243) := Int.mul_nonneg b3 (by omega)
          have c2 : (x % 2147483563) * (2 * i + 2243) ≤ 2147483563 * 22243 := Int.mul_le_mul (by omega) (by omega) (by omega) (by omega)
          have c3 : 0 ≤ 56167 * i * i := Int.mul_nonneg (by omega) i0
          have c4 : 56167 * i * i ≤ 561670000 * 10000 := Int.mul_le_mul (by omega) hin i0 (by omega)
          rw [e]
          omega
        have hc : ∀ x : Int, CMul (x % 2147483563) (2 * i + 2243) := by
          intro x
          have b3 : 0 ≤ x % 2147483563 := Int.emod_nonneg _ (by decide)
          have b4 : x % 2147483563 < 2147483563 := Int.emod_lt_of_pos _ (by decide)
          exact .inl ⟨by omega, by omega⟩
        refine .inl ⟨_, rfl, _, _, rfl, rfl, (by decide : (0 : Int) < 2147483563), ?_⟩
        refine ⟨_, rfl, _, rfl, _, _, rfl, rfl, .inl ⟨by decide, by decide⟩, _, _, rfl, rfl, _, _, rfl, rfl, hc _, _, rfl, _, _, rfl, rfl, .inl ⟨by decide, by decide⟩, _, rfl, _, _, rfl, rfl, .inl ⟨by omega, by omega⟩, _, _, rfl, rfl, _, _, rfl, rfl, _, _, rfl, rfl, ⟨by decide, by decide, hb _⟩, ?_⟩
        refine .inl ⟨_, rfl, _, _, rfl, rfl, (by decide : (0 : Int) < 2147483549), ?_⟩
        refine ⟨_, rfl, _, _, rfl, rfl, ⟨by decide, by decide⟩, .inl ⟨_, rfl, _, rfl, _, _, rfl, rfl, m0, ?_⟩⟩
        exact k _ _ (Int.emod_nonneg _ (by omega)) (Int.emod_lt_of_pos _ m0) ⟨ns, i + 1, r, hA2, hC2, hca, hlen, by omega, by omega, r0⟩ kH2
end
end W17
set_option Elab.async false
set_option linter.all false
set_option maxRecDepth 100000
set_option maxHeartbeats 2000000
namespace W17
open PySem L2 PySem.Spec PyProof.Rows WR WB
structure EqW (P : Program) (w : World) (K : PySem.W.Frag) (mg : Str → Option Value) (base : Heap) (C : Addr) : Prop where
  ex : ∃ (f : Addr) (fd : FuncData), FnOk P w K mg base CX0 1 f fd ["self", "other"] (spEq K C) ∧ PySem.W.findIn K (.ref C) "__eq__" = some (some (.ref f)) ∧ PySem.W.isFn K (.ref f) = true ∧ Binds K fd ["self", "other"] []
end W17
set_option Elab.async false
set_option linter.all false
set_option maxRecDepth 100000
set_option maxHeartbeats 2000000
/-! x != y, of two instances whose class has an own == and no own !=. -/
set_option Elab.async false
set_option linter.all false
set_option maxRecDepth 100000
set_option maxHeartbeats 2000000
namespace W17
open PySem L2 PySem.Spec PyProof.Rows WR WB
abbrev sPick : Stmt := top 68
def Drew (a c : Addr) (n : Nat) (H H' : Hp) : Prop := HandAt H' a c n ∧ Kept a H H'
theorem HandAt.mono {H : Hp} {a c : Addr} {m n : Nat} (h : HandAt H a c m) (l : m ≤ n) : HandAt H a c n := by
  obtain ⟨ns, i, r, h1, h2, h3, h4, h5, h6, h7⟩ := h
  exact ⟨ns, i, r, h1, h2, h3, h4, h5, by omega, h7⟩
theorem HandAt.off {H : Hp} {a c p : Addr} {n : Nat} {o : HO} (h : HandAt H a c n) (h1 : p ≠ a) (h2 : p ≠ c) : HandAt (L2.upd H p o) a c n := by
  obtain ⟨ns, i, r, h3, h4, h5⟩ := h
  exact ⟨ns, i, r, by rw [upd_ne h1.symm]; exact h3, by rw [upd_ne h2.symm]; exact h4, h5⟩
theorem HandAt.ne {H : Hp} {a c p : Addr} {n : Nat} (h : HandAt H a c n) (hp : H p = none) : p ≠ a := by
  obtain ⟨ns, i, r, h1, _⟩ := h
  exact (ne_of_none h1 hp).symm
theorem HandAt.neC {H : Hp} {a c p : Addr} {n : Nat} (h : HandAt H a c n) (hp : H p = none) : p ≠ c := by
  obtain ⟨ns, i, r, h1, h2, _⟩ := h
  exact (ne_of_none h2 hp).symm
theorem HandAt.new {H : Hp} {a c p : Addr} {n : Nat} {o : HO} (h : HandAt H a c n) (hp : H p = none) : HandAt (L2.upd H p o) a c n := h.off (h.ne hp) (h.neC hp)
theorem Drew.refl {a c : Addr} {n : Nat} {H : Hp} (h : HandAt H a c n) : Drew a c n H H := ⟨h, Kept.refl⟩
theorem Drew.trans {a c : Addr} {m n : Nat} {H H1 H2 : Hp} (h1 : Drew a c m H H1) (h2 : Drew a c n H1 H2) : Drew a c n H H2 := ⟨h2.1, h1.2.trans h2.2⟩
theorem Drew.new {a c p : Addr} {n : Nat} {H H1 : Hp} {o : HO} (h : Drew a c n H H1) (hp : H1 p = none) : Drew a c n H (L2.upd H1 p o) := ⟨h.1.new hp, h.2.new hp⟩
theorem Drew.mono {a c : Addr} {m n : Nat} {H H1 : Hp} (h : Drew a c m H H1) (l : m ≤ n) : Drew a c n H H1 := ⟨h.1.mono l, h.2⟩
/-- an object that was not there at first may change -/
theorem Drew.put {a c p : Addr} {n : Nat} {H H1 : Hp} {o : HO} (h : Drew a c n H H1) (h0 : H p = none) (h1 : p ≠ a) (h2 : p ≠ c) : Drew a c n H (L2.upd H1 p o) :=
  ⟨h.1.off h1 h2, fun b u nb e => by rw [upd_ne (ne_of_none e h0)]; exact h.2 b u nb e⟩
theorem Drew.back {a c p : Addr} {n : Nat} {H H1 : Hp} (h : Drew a c n H H1) (hp : H1 p = none) : H p = none := by
  cases e : H p with
  | none => rfl
  | some o =>
    have q := h.2 p o (h.1.ne hp) e
    rw [hp] at q
    cases q
theorem HandAt.same {H H' : Hp} {a c : Addr} {n : Nat} (h : HandAt H a c n) (s : Same H H') : HandAt H' a c n := by
  obtain ⟨ns, i, r, h1, h2, h3⟩ := h
  exact ⟨ns, i, r, s _ _ h1, s _ _ h2, h3⟩
theorem Drew.same {a c : Addr} {n : Nat} {H H1 H2 : Hp} (h : Drew a c n H H1) (s : Same H1 H2) : Drew a c n H H2 := ⟨h.1.same s, fun b o nb e => s b o (h.2 b o nb e)⟩
def spPick : Sp := fun vs H Q _ => ∃ (a c p : Addr) (xs : List V) (n : Nat), vs = [.ref a, .ref p] ∧ HandAt H a c n ∧ n ≤ 10000 ∧ p ≠ a ∧ H p = some (.lst xs) ∧ 0 < xs.length ∧ xs.length ≤ 1000 ∧ ∀ v ∈ xs, ∀ H', Drew a c (n + 1) H H' → Q v H'
section
variable {P : Program} {w : World} {K : PySem.W.Frag} {mg : Str → Option Value} {base : Heap}
theorem scPick : FnScope ["_law_pen_here", "_law_some"] ["_law_pen_here", "_law_some"] (defScope sPick) := ⟨rfl, rfl, rfl, by decide +kernel, rfl, by decide +kernel, by decide +kernel⟩
theorem ok_pick {f : Addr} {fd : FuncData} (F : Fun K "_law_pick" "_law_pick" sPick f fd) (GT : Cal P w K mg base "_law_draw" 1 ["_law_pen_here", "_law_many"] spTake) (T : TxL mg) : FnOk P w K mg base CX0 2 f fd ["_law_pen_here", "_law_some"] spPick := by
  refine F.ok scPick (fun vs H Q E h => ?_) (fun cdv A outer s H vs Q E hr h => ?_)
  · obtain ⟨a, c, p, xs, n, rfl, _⟩ := h
    rfl
  · obtain ⟨a, c, p, xs, n, rfl, hH, hn, hpa, hp, h0, h1, k⟩ := h
    refine ⟨_, pss_one (ps_ret (pe_ix ix_list (pv 1) (pe_cal GT hr (by decide) (by rfl) (pa_cons (pv 0) (pa_cons (pe_callB call_len_seq (by rfl) T.len PySem.boot_len (pa_cons (pv 1) pa_nil)) pa_nil))) (fun _ _ => rfl))), ?_⟩
    refine ⟨_, rfl, _, rfl, _, rfl, p, _, rfl, .inl (SqL.of hp), a, c, _, n, rfl, hH, hn, by omega, ?_, ?_⟩
    · have : (((xs.length : Nat) : Int)).natAbs ≤ 1000 := by omega
      exact Nat.lt_of_le_of_lt this (by decide)
    · intro H' q q0 q1 hH' hK
      obtain ⟨j, rfl⟩ : ∃ j : Nat, q = (j : Int) := ⟨q.toNat, by omega⟩
      have hj : j < xs.length := by omega
      refine ⟨p, xs, _, xs[j], rfl, rfl, SqL.of (hK _ _ hpa hp), atI_nat (List.getElem?_eq_getElem hj), ?_⟩
      exact k _ (List.getElem_mem hj) H' ⟨hH', hK⟩
end
end W17
set_option Elab.async false
set_option linter.all false
set_option maxRecDepth 100000
set_option maxHeartbeats 2000000
/-! C.m(..), m a staticmethod of the class C. -/
namespace MStat
open PySem L2 PySem.Spec PyProof.Rows
/-- C.m(..) by place -/
def tSMeth (C : Addr) (sp : Sp) (ta : TE) (t : TA) : TE := fun σ H Q => ta σ H fun x H1 => x = .ref C ∧ t σ H1 fun vs H2 => sp vs H2 Q E0
end MStat
set_option Elab.async false
set_option linter.all false
set_option maxRecDepth 100000
set_option maxHeartbeats 2000000
/-! str(x), len(x), x an instance of an own class with an own __str__, __len__. -/
set_option Elab.async false
set_option linter.all false
set_option maxRecDepth 100000
set_option maxHeartbeats 2000000
/-! A text parted at a sign, and put together again. -/
namespace MText
open PySem PySem.StrLaws Builtin Builtin.Str
/-- the places of c -/
def places (x : Str) (c a n : Nat) : List Nat := (List.range' a n).filter fun i => decide (x.cps.toList[i]? = some c)
end MText
set_option Elab.async false
set_option linter.all false
set_option maxRecDepth 100000
set_option maxHeartbeats 4000000
set_option Elab.async false
set_option linter.all false
set_option maxRecDepth 100000
set_option maxHeartbeats 1000000
/-! repr of data, by defs that are called where no repr is under way. -/
namespace RG
open PySem L2 PySem.Spec PyProof.Rows
/-- a def's promise where no repr is under way -/
structure FnG (P : Program) (w : World) (K : PySem.W.Frag) (mg : Str → Option Value) (base : Heap) (k : Nat) (f : Addr) (fd : FuncData) (ps : List Str) (sp : Sp) : Prop where
  many : ∀ zs G R S, sp zs G R S → zs.length = ps.length
  does : ∀ (B : Around) (fr : List Env) (t : Shared) (G : Hp) (as : Args) (us : List Value) (zs : List V) (R : VK) (S : XK), B.guards = some [] → Room k B → Env0 P w K mg base B fr t G → BindsTo t fd as (ps.zip us) → Vals zs us → sp zs G R S →
    codeAny (model P w) B (.call (.ref f) as) (CR CX0 fr P w G t R S) t
theorem FnG.mono {P : Program} {w : World} {K : PySem.W.Frag} {mg : Str → Option Value} {base : Heap} {j k : Nat} {f : Addr} {fd : FuncData} {ps : List Str} {sp : Sp} (F : FnG P w K mg base j f fd ps sp) (h : j ≤ k) : FnG P w K mg base k f fd ps sp :=
  ⟨F.many, fun B fr t G as us zs R S g room => F.does B fr t G as us zs R S g (room.mono h)⟩
theorem fnG_of {P : Program} {w : World} {K : PySem.W.Frag} {mg : Str → Option Value} {base : Heap} {k : Nat} {f : Addr} {nm qual : Str} {params : Arguments} {body : List Stmt} {scope : Scope} {dV kV doc pm cdv ct oc : Value} {an od : Option Addr} {osl : Array (Option Value)} {N ps : List Str} {sp : Sp}
    (lk : K.lookup f = some ⟨oc, od, .func (PySem.W.fnOf nm qual params body scope dV kV doc pm an cdv ct), osl⟩) (cd : PySem.W.codeIn K cdv qual = true) (S : FnScope N ps scope) (many : ∀ zs G R E, sp zs G R E → zs.length = ps.length)
    (B0 : ∀ (B : Around) (fr : List Env) (t : Shared) (G : Hp) (zs : List V) (R : VK) (E : XK), B.guards = some [] → Room k (B.deeper (envOfC qual scope t.heap.objs.size f cdv)) → sp zs G R E →
      ∃ tb, PSs (cxOf CX0 P w K mg base N qual scope f cdv B fr t G E) body tb ∧ tb { nx := fun _ G' => R .non G', rt := R } (L2.start N zs) G) :
    FnG P w K mg base (k + 1) f (PySem.W.fnOf nm qual params body scope dV kV doc pm an cdv ct) ps sp where
  many := many
  does := by
    intro B fr t G as us zs R E hg room e0 bind rel asked
    have n1 := many _ _ _ _ asked
    have old : ∀ b o, base.get? b = some o → t.heap.get? b = some o := fun b o e => (e0.bs b o e).1
    have KX := e0.mod.kin.keeps old
    have names : ∀ y ∈ ps.zip us, scope.names.lookup y.1 = some .local ∨ (scope.names.lookup y.1 = some .cell ∧ ((cellsFrom (t.heap.objs.size + 1) scope.names []).lookup y.1).isSome = true) := by
      rintro ⟨a, b⟩ hy
      exact (S.par a (List.of_mem_zip hy).1).imp id fun c => ⟨c, PySem.W.cellsFrom_some _ _ _ (Or.inl c)⟩
    refine codeAny_call_function room.depth (KX _ _ lk) rfl S.co S.gen rfl (PySem.W.codeRec_of KX cd) (bind _ _ _ _ (wpAny_newFunctionEnv_cells S.kind names fun env he t1 x => ?_))
    subst he
    refine ⟨(e0.mod.nolimit.keeps old).keeps x.toInCall.keep, codeAny_func ?_⟩
    obtain ⟨tb, run, read⟩ := B0 B fr t G zs R E hg (room.deeper _) asked
    have I0 := inv_start (CX := CX0) (P := P) (w := w) (E := E) S room.hd e0 n1 rel x
    refine wpAny_mono (run.run [] t1 _ G _ I0 read) ?_ fun _ _ z => z
    intro fl t2 z
    cases fl with
    | next =>
      obtain ⟨τ, G2, J, q⟩ := z
      exact ⟨.non, G2, J.os, J.bare, J.base, J.hok, rfl, q⟩
    | ret u =>
      obtain ⟨v, τ, G2, J, rv, q⟩ := z
      exact ⟨v, G2, J.os, J.bare, J.base, J.hok, rv, q⟩
    | brk => exact z.elim fun _ z => z.elim fun _ z => False.elim z.2
    | cont => exact z.elim fun _ z => z.elim fun _ z => False.elim z.2
theorem Fun.okG {P : Program} {w : World} {K : PySem.W.Frag} {mg : Str → Option Value} {base : Heap} {x qual : Str} {st : Stmt} {f : Addr} {fd : FuncData} {N ps : List Str} {k : Nat} {sp : Sp} (F : L2.Fun K x qual st f fd) (S : FnScope N ps (defScope st)) (many : ∀ zs G R E, sp zs G R E → zs.length = ps.length)
    (B0 : ∀ (cdv : Value) (B : Around) (fr : List Env) (t : Shared) (G : Hp) (zs : List V) (R : VK) (E : XK), B.guards = some [] → Room k (B.deeper (envOfC qual (defScope st) t.heap.objs.size f cdv)) → sp zs G R E →
      ∃ tb, PSs (cxOf CX0 P w K mg base N qual (defScope st) f cdv B fr t G E).nox (defBody st) tb ∧ tb { nx := fun _ G' => R .non G', rt := R } (L2.start N zs) G) : FnG P w K mg base (k + 1) f fd ps sp := by
  obtain ⟨oc, od, kV, doc, pm, an, cdv, ct, osl, rfl, lk, cd⟩ := F.ex
  refine fnG_of lk cd S many fun B fr t G zs R E hg room asked => ?_
  obtain ⟨tb, run, read⟩ := B0 cdv B fr t G zs R E hg room asked
  exact ⟨tb, run.nox, read⟩
/-- a def that the module's name x holds -/
structure CalG (P : Program) (w : World) (K : PySem.W.Frag) (mg : Str → Option Value) (base : Heap) (x : Str) (k : Nat) (ps : List Str) (sp : Sp) : Prop where
  ex : ∃ (f : Addr) (fd : FuncData), FnG P w K mg base k f fd ps sp ∧ mg x = some (.ref f) ∧ PySem.W.keepIn K (.ref f) = true ∧ Binds K fd ps []
section
variable {X : Cx} {x : Str} {k j : Nat} {ps : List Str} {sp : Sp} {p pos : Pos} {e : Expr} {es : List Expr} {ta : TA}
theorem pe_calG (C : CalG X.prog X.w X.K X.mg X.base x k ps sp) (hg : X.A.guards = some []) (room : Room j X.A) (hkj : k ≤ j) (gl : Gl X x) (ha : PA X (e :: es) ta) (hdb : (x == ("__debug__" : Str)) = false := by decide)
    (h1 : starEach (e :: es) X.env = (false, eval e X.env) :: starEach es X.env := by rfl) (h2 : (backTo pos (starEach es X.env)).any (·.1) = false := by rfl) : PE X (.Call (.Name x p) (e :: es) [] pos) (tCall sp [] E0 ta) := by
  obtain ⟨f, fd, F, at_, kp, bn⟩ := C.ex
  constructor
  intro pins s σ H Q I ask
  refine wpAny_Call_Name_kw (ld_glob I gl at_ (PySem.W.callWith_K (h₀ := X.base) I.mod.kin kp (thn (ha.run pos pins s σ H _ I ask) fun us s1 z => ?_) h1 h2) hdb)
  obtain ⟨zs, H1, I1, rel, q⟩ := z
  have q : sp (zs ++ []) H1 Q E0 := q
  rw [List.append_nil] at q
  have lu : us.length = ps.length := by rw [← rel.length]; exact F.many _ _ _ _ q
  have bd := bn s1 us I1.kIn (by rw [List.append_nil]; exact lu)
  rw [List.append_nil] at bd
  refine ⟨I1.kIn, wpAny_call (codeAny_mono ((F.mono hkj).does X.A X.stack s1 H1 ⟨us, []⟩ us zs Q E0 hg room I1.env0 bd rel q) ?_)⟩
  intro r s2 hq
  match r, hq with
  | .ok (.ret u), hq => exact I1.after hq
/-- repr of data -/
def rRepr (K : PySem.W.Frag) : List V → Hp → VK → Prop := fun xs H Q => ∃ (a : Addr) (d : PyData), xs = [.ref a] ∧ Dp K H (.ref a) d ∧ d.showable = true ∧ d.hasDict = false ∧ d.depth ≤ 30 ∧ d.shown.length ≤ sizeLine ∧ Q (.str d.shown) H
theorem call_repr (hg : X.A.guards = some []) (hu : X.A.units + 40 < cLine) : CallR X (.builtin "repr") (rRepr X.K) := by
  intro pins s σ H xs us Q I rel ask
  obtain ⟨a, d, rfl, hd, hs, hn, hdep, hz, q⟩ := ask
  obtain ⟨u, rfl, ru⟩ := vals1 rel
  cases ru
  obtain ⟨as, rd⟩ := Dp.reads I d _ _ hd rfl
  exact repr_of_reads' rd hs (fun z => by rw [hn] at z; cases z) hg (by omega) (fun _ _ e => e) (fun h' u tk hk => ⟨.str _, H, I.kept hk, ⟨u, rfl⟩, q⟩) hz
end
end RG
set_option Elab.async false
set_option linter.all false
set_option maxRecDepth 100000
set_option maxHeartbeats 1000000
/-! the law's own call: no repr is under way. -/
namespace RG
open PySem L2 PySem.Spec PyProof.Rows
section
variable {P : Program} {w : World} {K : PySem.W.Frag} {s : Shared} {a : Addr} {vs : List Value} {ns : List Int}
/-- the list that the script is -/
def scriptO (vs : List Value) : Obj := { cls := .type "list", data := .seq vs.toArray }
/-- the script is told, if the module has it not -/
def startH (K : PySem.W.Frag) (a : Addr) (vs : List Value) (ns : List Int) : Hp := fun b => if b = a ∧ K.lookup a = none then some (.frz (scriptO vs) (.lst (ns.map V.int))) else none
theorem startH_some {b : Addr} {u : HO} (h : startH K a vs ns b = some u) : b = a ∧ K.lookup a = none ∧ u = .frz (scriptO vs) (.lst (ns.map V.int)) := by
  unfold startH at h
  split at h
  · rename_i c
    exact ⟨c.1, c.2, (Option.some.inj h).symm⟩
  · cases h
theorem startH_seq (KX : K.In s.heap) (at_ : s.heap.get? a = some (scriptO vs)) (whole : IntsAre vs ns) (few : ns.length ≤ sizeLine) : SqL K (startH K a vs ns) a (ns.map V.int) := by
  cases hk : K.lookup a with
  | none => exact Or.inl (Or.inr ⟨scriptO vs, if_pos ⟨rfl, hk⟩⟩)
  | some o =>
    have same : o = scriptO vs := Option.some.inj ((KX a o hk).symm.trans at_)
    subst same
    exact Or.inr ⟨_, vs.toArray, _, hk, rfl, rfl, rfl, by rw [List.size_toArray, whole.length]; exact few, by simpa using vals_ints whole⟩
end
end RG
set_option Elab.async false
set_option linter.all false
set_option maxRecDepth 100000
set_option maxHeartbeats 4000000
/-! set(a list of ints). -/
namespace WS
open PySem PySem.Spec PyProof.Rows L2
section
variable {P : Program} {w : World} {A : Around} {E : Value → Shared → Prop} {s : Shared}
/-- the heap with the new set, and with the walk of the list besides -/
abbrev hSet (w : World) (s : Shared) : Heap := s.heap.push (bareSet w)
abbrev hWalk (w : World) (s : Shared) (l : Addr) : Heap := (hSet w s).push { cls := .type "list_iterator", data := .fields #[.ref l, .int 0 0] }
theorem bare_zero {h : Heap} {a : Addr} {ns : List Int} (e : h.get? a = some (bareSet w)) : SetR w h a (fun j => decide (j ∈ ns.take 0)) 0 := setR_new_at e
/-- what set.__init__ leaves -/
def Filled (w : World) (s : Shared) (ns : List Int) (t : Shared) : Prop :=
  ∃ (g : Heap) (k m : Nat), t = { s with heap := g, toks := k } ∧ SetR w g s.heap.objs.size (fun j => decide (j ∈ ns)) m ∧ m ≤ ns.length ∧ ∀ b o, s.heap.get? b = some o → g.get? b = some o
theorem init_list {l : Addr} {its : Array Value} {ns : List Int} (quiet : A.handled = none) (hl : s.heap.IsList l its) (hit : IntsAre its.toList ns) (few : ns.length + 1 < scanBound) :
    wpAny (model P w) A (Builtin.«set.__init__» ⟨[.ref s.heap.objs.size, .ref l], []⟩) (fun r t => r = .done (.ret .none) ∧ Filled w s ns t) E { s with heap := hSet w s } := by
  have many : its.size = ns.length := by have z := hit.length; rwa [Array.length_toList] at z
  have new : (hSet w s).get? s.heap.objs.size = some (bareSet w) := Heap.get?_push_size _ rfl
  have old : ∀ {b o}, s.heap.get? b = some o → (hSet w s).get? b = some o := fun e => Heap.get?_push_of_some _ e
  have ty : Shared.TypeIs { s with heap := hSet w s } (.ref s.heap.objs.size) "set" := ⟨_, new, rfl⟩
  have hl1 : (hSet w s).IsList l its := hl.push _
  have lo : l < s.heap.objs.size := by obtain ⟨_, e, _⟩ := hl; exact Heap.lt_size e
  have sz : (hSet w s).objs.size = s.heap.objs.size + 1 := Heap.size_push ..
  obtain ⟨⟨c0, d0, x0, o0⟩, at0, cls0, n0, dat0⟩ := id hl1
  simp only at cls0 dat0
  subst cls0 dat0
  have u1 := PySem.F.sub_list_set
  have u2 := PySem.F.sub_list_frozenset
  have u3 : (Value.type "list" == Value.type "dict") = false := rfl
  unfold Builtin.«set.__init__» noKeywords Builtin.Frozenset.updateFrom
  generalize hid : pyIter = it
  wp_walk
  subst hid
  refine wpAny_pyIter_list hl1 (wpAny_bind (wpAny_runValue ?_))
  have off : s.heap.objs.size ∉ [(hSet w s).objs.size, l] := by
    intro m
    rcases List.mem_cons.mp m with m | m
    · exact absurd (m.trans sz) (Nat.ne_of_lt (Nat.lt_succ_self _))
    · exact absurd (List.mem_singleton.mp m).symm (Nat.ne_of_lt lo)
  have apart : l ≠ (hSet w s).objs.size := fun e => absurd (e.trans sz) (Nat.ne_of_lt (Nat.lt_succ_of_lt lo))
  refine set_update_ints (Walks.list (by simpa using quiet) _ l apart its).toS _ off ns many few (fun i v q => ?_) (its.size - 0) 0 { s with heap := hWalk w s l } (by omega) (Nat.zero_le _) ⟨⟨_, Heap.get?_push_size _ rfl, rfl, rfl⟩, hl1.push _⟩ ⟨0, Nat.le_refl 0, bare_zero (Heap.get?_push_of_some _ new)⟩ fun t m mv le S => ?_
  · have lt : i < ns.length := by rw [← many]; exact (Array.getElem?_eq_some_iff.mp q).1
    obtain ⟨k, e⟩ := hit.int_at i v (by rw [Array.getElem?_toList]; exact q)
    rw [List.getD_eq_getElem?_getD, List.getElem?_eq_getElem lt] at e
    exact ⟨_, k, List.getElem?_eq_getElem lt, e⟩
  · obtain ⟨g, q, d, k, z⟩ := t
    obtain rfl : q = s.gens := mv.gens
    obtain rfl : d = s.drawn := mv.drawn
    obtain rfl : z = s.os := mv.os
    refine wpAny_pure (wpAny_pure ⟨rfl, g, k, m, rfl, S, by rw [← many]; exact le, fun b o e => ?_⟩)
    have lb : b < s.heap.objs.size := Heap.lt_size e
    refine mv.heap b o (fun h => ?_) (Heap.get?_push_of_some _ (old e))
    rcases List.mem_cons.mp h with h | h
    · exact absurd h (Nat.ne_of_lt lb)
    · exact absurd ((List.mem_singleton.mp h).trans sz) (Nat.ne_of_lt (Nat.lt_succ_of_lt lb))
/-- set(xs) of a list of ints -/
theorem set_list {l : Addr} {its : Array Value} {ns : List Int} {Q : Value → Shared → Prop} (quiet : A.handled = none) (hl : s.heap.IsList l its) (hit : IntsAre its.toList ns) (few : ns.length + 1 < scanBound)
    (fin : ∀ t, Filled w s ns t → Q (.ref s.heap.objs.size) t) : wpAny (model P w) A (call (.type "set") [.ref l]) Q E s := by
  have F := PySem.F.called_set
  obtain ⟨top, below, mro⟩ := F.mro
  have f1 := F.made; have f2 := F.sub; have f3 := F.notType; have f4 := F.canCreate
  have f5 := PySem.F.typeCall_set_1 (.ref l)
  have new : (hSet w s).get? s.heap.objs.size = some (bareSet w) := Heap.get?_push_size _ rfl
  have ty : Shared.TypeIs { s with heap := hSet w s } (.ref s.heap.objs.size) "set" := ⟨_, new, rfl⟩
  have f6 := F.init.lookup; have f7 := F.init.bind (.ref s.heap.objs.size)
  refine wpAny_call (codeAny_of_tree (show wpAny _ _ (callAny (.type "set") _) _ _ _ from wpAny_pure ⟨Code.quiet_builtin _ (by decide +kernel), codeAny_builtin PySem.F.entry_type_call ?_⟩))
  rw [Around.under_plain (weight_type_call_type "set" [.ref l] []) rfl]
  repeat (any_goals (first | assumption | wp_step))
  refine codeAny_mono (code_set_led1 (.ref l) (E := E) (Q₁ := fun v t => v = .ref s.heap.objs.size ∧ t = { s with heap := hSet w s }) ⟨rfl, rfl⟩) ?_
  rintro (e | fl) t ht
  · exact ht
  cases fl with
  | next => exact ht.elim
  | brk => exact ht.elim
  | cont => exact ht.elim
  | ret v =>
  obtain ⟨rfl, rfl⟩ := ht
  repeat (any_goals (first | assumption | wp_step))
  refine codeAny_mono (codeAny_call_builtin (R := wants (fun v t => v = .none ∧ Filled w s ns t) E) F.init.plain PySem.F.entry_set_init (check_set_init_1 ty ?_)) ?_
  · refine wpAny_mono (init_list (by simpa using quiet) hl hit few) ?_ fun _ _ z => z
    rintro _ t ⟨rfl, z⟩
    exact ⟨rfl, z⟩
  rintro (e | fl) t ht
  · exact ht
  cases fl with
  | next => exact ht.elim
  | brk => exact ht.elim
  | cont => exact ht.elim
  | ret v =>
  obtain ⟨rfl, z⟩ := ht
  repeat (any_goals (first | assumption | wp_step))
  exact fin _ z
end
section
variable {X : Cx}
def rSetLI (K : PySem.W.Frag) (w : World) : List V → Hp → VK → Prop := fun xs H Q => ∃ (p : Addr) (ns : List Int), xs = [.ref p] ∧ SqL K H p (ns.map V.int) ∧ ns.length ≤ 1000 ∧
  ∀ (D : Addr) (L : List Int), H D = none → L.Nodup → (∀ k, k ∈ L ↔ k ∈ ns) → Q (.ref D) (upd H D (SetO w D (fun j => decide (j ∈ ns)) L.length))
theorem call_setLI (hc : X.calm = true) : CallR X (.type "set") (rSetLI X.K X.w) := by
  intro pins s σ H xs us Q I rel ask
  obtain ⟨p, ns, rfl, hs, few, q⟩ := ask
  obtain ⟨u, rfl, ru⟩ := vals1 rel
  cases ru
  obtain ⟨its, rv, pl, hlen⟩ := I.list hs
  refine set_list (ns := ns) (I.ok.hd hc) pl.isList (by simpa using ints_of_vals rv) (by unfold scanBound; omega) fun t ⟨g, k, m, e, S, le, keep⟩ => ?_
  subst e
  have J := I.laid (t' := k) keep (Nat.le_refl _) (setO_new S)
  obtain ⟨o, es, ep, tb, e1, e2, e3, e4, nd, mem, e5, e6, sz, _⟩ := S
  have z := q s.heap.objs.size (es.toList.map keyOf) (I.hok.fresh (Nat.le_refl _)) nd fun k => by rw [← mem k, decide_eq_true_eq]
  rw [List.length_map, Array.length_toList, sz] at z
  exact ⟨.ref _, _, J, rfl, z⟩
end
end WS
set_option linter.all false
/-! The least turned form of a row, by two places that race. -/
namespace Lt
/-- the row from place p on, read round, is less than that from place q on -/
def Ls (f : Nat → Int) (n p q : Nat) : Prop := ∃ k, k < n ∧ (∀ t, t < k → f (p + t) = f (q + t)) ∧ f (p + k) < f (q + k)
/-- what is left out can't be least -/
def Out (f : Nat → Int) (n p : Nat) : Prop := ∃ q, Ls f n q p
structure Race (f : Nat → Int) (n one other alike : Nat) : Prop where
  a : ∀ p, p < one → Out f n p
  b : ∀ p, p < other → p ≠ one → Out f n p
  ne : one ≠ other
  al : alike ≤ n
  e : ∀ t, t < alike → f (one + t) = f (other + t)
end Lt
namespace Lt
/-! ### rows read round -/
def rot (xs : List Int) (p : Nat) : List Int := xs.drop p ++ xs.take p
def rd (xs : List Int) (s : Nat) : Int := xs.getD (s % xs.length) 0
theorem ext_getD {a b : List Int} (hl : a.length = b.length) (h : ∀ t, t < a.length → a.getD t 0 = b.getD t 0) : a = b := by
  apply List.ext_getElem hl
  intro i h1 h2
  have := h i h1
  rw [List.getD_eq_getElem?_getD, List.getD_eq_getElem?_getD, List.getElem?_eq_getElem h1, List.getElem?_eq_getElem h2] at this
  exact this
/-- ms is the least of the turned forms of ns -/
def Least (ns ms : List Int) : Prop := ∃ p, p < max 1 ns.length ∧ ms = rot ns p ∧ ∀ q, q < ns.length → ¬ Ls (rd ns) ns.length q p
/-! ### the order of rows of one length -/
end Lt
set_option Elab.async false
set_option linter.all false
set_option maxRecDepth 100000
set_option maxHeartbeats 1000000
namespace W17
open PySem L2 PySem.Spec PyProof.Rows WR WB
theorem make_at {K : PySem.W.Frag} {C : Addr} {H1 : Hp} {q x dx : Addr} {ms : List Int} {G : Hp → Prop} {E : XK} (nx : H1 x = none) (ndx : H1 dx = none) (hq : SqW K H1 q (iv ms)) (hlen : ms.length ≤ 500) (hl : Lts ms) (k : ∀ H', Same H1 H' → WordAt K C H' x ms → G H') :
    spInit K C [.ref x, .ref q] (L2.upd (L2.upd H1 dx (.own x)) x (.ins C dx [])) (fun v H2 => v = .non ∧ G H2) E := by
  have s0 : Same H1 (L2.upd (L2.upd H1 dx (.own x)) x (.ins C dx [])) := fun b o e => by
    rw [upd_ne (ne_of_none e nx), upd_ne (ne_of_none e ndx)]
    exact e
  exact ⟨H1, x, dx, q, ms, rfl, s0, nx, upd_same, hq, hlen, hl, fun H' s' W' => ⟨rfl, k H' s' W'⟩⟩
theorem no_ne {b : Bool} {A B : Prop} (h : b = true) (k : B) : if (!b) = true then A else B := by rw [h]; exact iteF k
theorem cut_to {ns : List Int} {j : Nat} (h : j ≤ ns.length) : cutV (iv ns) none (some ((j : Nat) : Int)) = iv (ns.take j) := by
  unfold cutV
  rw [HT.sIx_none, HT.sIx_nat, List.drop_zero, Nat.sub_zero, List.length_map, Nat.min_eq_left h, ← List.map_take]
theorem cut_from {ns : List Int} {j : Nat} (h : j ≤ ns.length) : cutV (iv ns) (some ((j : Nat) : Int)) none = iv (ns.drop j) := by
  unfold cutV
  rw [HT.sIx_none, HT.sIx_nat, List.length_map, Nat.min_eq_left h, ← List.map_drop, List.take_of_length_le (by simp)]
inductive All2 {α β : Type} (R : α → β → Prop) : List α → List β → Prop
  | nil : All2 R [] []
  | cons {a : α} {b : β} {as : List α} {bs : List β} (h : R a b) (r : All2 R as bs) : All2 R (a :: as) (b :: bs)
theorem All2.length {α β : Type} {R : α → β → Prop} {as : List α} {bs : List β} (h : All2 R as bs) : as.length = bs.length := by
  induction h with
  | nil => rfl
  | cons _ _ ih => simp [ih]
theorem All2.imp {α β : Type} {R S : α → β → Prop} {as : List α} {bs : List β} (h : All2 R as bs) (k : ∀ a b, R a b → S a b) : All2 S as bs := by
  induction h with
  | nil => exact .nil
  | cons h _ ih => exact .cons (k _ _ h) ih
theorem All2.at {α β : Type} {R : α → β → Prop} {as : List α} {bs : List β} (h : All2 R as bs) : ∀ {i : Nat} {a : α}, as[i]? = some a → ∃ b, bs[i]? = some b ∧ R a b := by
  induction h with
  | nil => intro i a e; simp at e
  | cons h r ih =>
    intro i a e
    cases i with
    | zero => simp at e; subst e; exact ⟨_, by simp, h⟩
    | succ i => simpa using ih (by simpa using e)
theorem All2.mem {α β : Type} {R : α → β → Prop} {as : List α} {bs : List β} (h : All2 R as bs) {a : α} (ha : a ∈ as) : ∃ b, b ∈ bs ∧ R a b := by
  obtain ⟨i, e⟩ := List.mem_iff_getElem?.mp ha
  obtain ⟨b, e2, r⟩ := h.at e
  exact ⟨b, List.mem_of_getElem? e2, r⟩
theorem All2.app {α β : Type} {R : α → β → Prop} {as : List α} {bs : List β} (h : All2 R as bs) {cs : List α} {ds : List β} (k : All2 R cs ds) : All2 R (as ++ cs) (bs ++ ds) := by
  induction h with
  | nil => exact k
  | cons h _ ih => exact .cons h ih
theorem lcM {β : Type} {J : It} {xs : List V} {G : Hp → Prop} (w : Walk J xs.length G (YAt xs)) (ys : List β) (R : Addr → Hp → V → β → Prop) (hst : ∀ D H H' v b, R D H v b → Same H H' → R D H' v b) (hput : ∀ D H ws o v b, H D = some (.lst ws) → R D H v b → R D (L2.upd H D o) v b)
    (hz : xs.length < 40000) (hl : xs.length = ys.length) {g : TG} {te : TE} {vs : List Nat} {σ : L2.St} {H1 : Hp} {Q : VK} (hG : ∀ H, Same H1 H → G H)
    (hs : ∀ (i : Nat) (x : V) (b : β), xs[i]? = some x → ys[i]? = some b → ∀ D H, H1 D = none → (∃ ws, H D = some (.lst ws)) → Same H1 H → ∀ (Qy : V → Hp → Prop), (∀ v H', Same H H' → R D H' v b → Qy v H') →
      g x (wipe σ vs) H fun σ2 H2 => wipe σ2 vs = wipe σ vs ∧ te σ2 H2 Qy)
    (hg : ∀ x σ1 H A B, (∀ σ2 H2, A σ2 H2 → B σ2 H2) → g x σ1 H A → g x σ1 H B)
    (hd : ∀ (D : Addr) H' ws, H1 D = none → Same H1 H' → H' D = some (.lst ws) → All2 (R D H') ws ys → Q (.ref D) H') : tLc (fun _ H R => R J H) g tYes te vs σ H1 Q := by
  intro D hD
  refine lc_it w (fun i H => Same H1 H ∧ ∃ ws, H D = some (.lst ws) ∧ All2 (R D H) ws (ys.take i)) ⟨fun b o e => by rw [upd_ne (ne_of_none e hD)]; exact e, [], upd_same, by simp only [List.take_zero]; exact .nil⟩ (fun i H _ q => hG H q.1) ?_ ?_
  · rintro i x H H' hi ⟨sm, ws, hw, h2⟩ ⟨rfl, hx⟩
    have hi2 : i < ys.length := by omega
    refine hg _ _ _ _ _ (fun σ2 H2 q => ⟨q.1, yes_te q.2⟩) (hs i x ys[i] hx (List.getElem?_eq_getElem hi2) D H' hD ⟨ws, hw⟩ sm _ fun v H2 s2 r => ?_)
    have hw2 := s2 _ _ hw
    have hlen := h2.length
    rw [List.length_take] at hlen
    refine ⟨ws, hw2, Evl.sz_lt (by omega), fun b o e => ?_, ws ++ [v], upd_same, ?_⟩
    · rw [upd_ne (ne_of_none e hD)]
      exact s2 _ _ (sm _ _ e)
    · rw [List.take_succ_eq_append_getElem hi2]
      exact (h2.imp fun v b r => hput D H2 ws _ v b hw2 (hst D _ _ v b r s2)).app (.cons (hput D H2 ws _ v _ hw2 r) .nil)
  · rintro H ⟨sm, ws, hw, h2⟩
    rw [List.take_of_length_le (by omega)] at h2
    exact hd D H ws hD sm hw h2
theorem gName_mono {i : Nat} {x : V} {σ : L2.St} {H : Hp} {A B : L2.St → Hp → Prop} (k : ∀ σ2 H2, A σ2 H2 → B σ2 H2) (h : gName i x σ H A) : gName i x σ H B := k _ _ h
theorem gTup_mono {K : PySem.W.Frag} {i j : Nat} {x : V} {σ : L2.St} {H : Hp} {A B : L2.St → Hp → Prop} (k : ∀ σ2 H2, A σ2 H2 → B σ2 H2) (h : gTup K 2 (gCons (gName i) (gCons (gName j) gNil)) x σ H A) : gTup K 2 (gCons (gName i) (gCons (gName j) gNil)) x σ H B := by
  obtain ⟨a, xs, e1, e2, e3, v, r, e4, v2, r2, e5, e6, h⟩ := h
  exact ⟨a, xs, e1, e2, e3, v, r, e4, v2, r2, e5, e6, k _ _ h⟩
theorem SqT.keptL {K : PySem.W.Frag} {H H' : Hp} {l q : Addr} {vs xs : List V} (hl : H l = some (.lst vs)) (d : Kept l H H') (h : SqT K H q xs) : SqT K H' q xs := by
  rcases h with h | h
  · left
    rcases h with h | ⟨o, h⟩
    · exact .inl (d _ _ (fun z => by rw [z, hl] at h; cases h) h)
    · exact .inr ⟨o, d _ _ (fun z => by rw [z, hl] at h; cases h) h⟩
  · exact .inr h
section
variable {X : Cx} {K : PySem.W.Frag} {T : String} {name : Str} {id : String} {r : V → List V → Hp → VK → Prop} {o e : Expr} {es : List Expr} {to : TE} {t : TA} {apos cpos : Pos}
theorem pe_bmK (hK : X.K = K) (pa : PlainAttrs T) (slot : PySem.Slot T name id) (hty : typeOf (.builtin id) = pure (.type "method_descriptor")) (hm : MtR X id r) (ho : PE X o to) (ha : PA X (e :: es) t)
    (hbase : attributeBase o name X.env (eval o X.env) = eval o X.env := by rfl)
    (hfew : ((backTo cpos (starEach (e :: es) X.env)).all (fun x => !x.1) && (backToKw cpos (keywordEach [] X.env)).all (fun x => x.1.isSome)
      && decide ((e :: es).length + ([] : List Keyword).length + (if ([] : List Keyword).isEmpty then 0 else 1) < 30)) = true := by rfl)
    (hline : (apos.endLine == cpos.line) = true := by rfl) (hs : starEach (e :: es) X.env = (false, eval e X.env) :: starEach es X.env := by rfl) (hplain : (backTo cpos (starEach es X.env)).any (·.1) = false := by rfl) :
    PE X (.Call (.Attribute o name apos) (e :: es) [] cpos) (tBM K T r to t) := by
  subst hK
  exact pe_bm pa slot hty hm ho ha hbase hfew hline hs hplain
end
theorem as_lc {wi : TI} {g : TG} {tt : TT} {te : TE} {gg : TG} {vs : List Nat} {D : Ends} {σ : L2.St} {H : Hp}
    (h : wi σ H fun J H1 => tLc (fun _ H R => R J H) g tt te vs σ H1 fun z H4 => gg z σ H4 D.nx) : tAsg (tLc wi g tt te vs) gg D σ H := h
theorem at_set {σ : L2.St} {H : Hp} {v : V} {i : Nat} {f : L2.St → Hp → Prop} (h : f (σ.set i (some v)) H) : gName i v σ H f := h
theorem ixl {X : Cx} {K : PySem.W.Frag} (h : X.K = K) : IxR X (rIxL K) := h ▸ ix_list
theorem call_listK {X : Cx} {K : PySem.W.Frag} (h : X.K = K) : CallR X (.type "list") (fun xs H Q => ∃ p ys, xs = [.ref p] ∧ (SqL K H p ys ∨ SqT K H p ys) ∧ ∀ l, H l = none → Q (.ref l) (L2.upd H l (.lst ys))) := by
  subst h
  exact call_list_of
theorem seq_at {j n : Nat} (h : j < n) : seqIndex? (j : Int) n = some j := by
  unfold seqIndex?
  have h1 : ¬ (j : Int) < 0 := by omega
  simp only [if_neg h1]
  rw [if_pos (by simp; omega), Int.toNat_natCast]
theorem cb_lc {r : List V → Hp → VK → Prop} {wi : TI} {g : TG} {tt : TT} {te : TE} {vs : List Nat} {σ : L2.St} {H : Hp} {Q : VK}
    (h : wi σ H fun J H1 => tLc (fun _ H R => R J H) g tt te vs σ H1 fun y H2 => r [y] H2 Q) : tCB r (tCons (tLc wi g tt te vs) tNil) σ H Q := h
/-! ### the methods that the law calls besides -/
end W17
set_option Elab.async false
set_option linter.all false
/-! Words put for letters, kinds renamed, what a row holds more of a letter than of its contrary. -/
namespace Fr
def sub (f : Int → List Int) (xs : List Int) : List Int := (xs.map f).flatten
/-! ### one kind's letters -/
/-! ### kinds renamed -/
/-! ### balance -/
def cnt (xs : List Int) (k : Int) : Int := (xs.count k : Int) - (xs.count (-k) : Int)
/-- each kind that stands more often forward than backward, or less -/
def bal (xs : List Int) : List (Int × Int) := ((List.range 26).map fun (i : Nat) => ((i : Int) + 1, cnt xs ((i : Int) + 1))).filter fun p => decide (p.2 ≠ 0)
end Fr
set_option Elab.async false
set_option linter.all false
set_option maxRecDepth 100000
set_option maxHeartbeats 1000000
namespace W17
open PySem L2 PySem.Spec PyProof.Rows WR WB
theorem sorted_ext : ∀ (l1 l2 : List Int), l1.Pairwise (· < ·) → l2.Pairwise (· < ·) → (∀ x, x ∈ l1 ↔ x ∈ l2) → l1 = l2
  | [], [], _, _, _ => rfl
  | [], b :: t, _, _, h => absurd ((h b).mpr List.mem_cons_self) (fun q => nomatch q)
  | a :: s, [], _, _, h => absurd ((h a).mp List.mem_cons_self) (fun q => nomatch q)
  | a :: s, b :: t, h1, h2, h => by
    rw [List.pairwise_cons] at h1 h2
    have e : a = b := by
      rcases List.mem_cons.mp ((h a).mp List.mem_cons_self) with e | m
      · exact e
      · rcases List.mem_cons.mp ((h b).mpr List.mem_cons_self) with e | m2
        · exact e.symm
        · have := h2.1 a m
          have := h1.1 b m2
          omega
    subst e
    rw [sorted_ext s t h1.2 h2.2 fun x => ⟨fun hx => ?_, fun hx => ?_⟩]
    · rcases List.mem_cons.mp ((h x).mp (List.mem_cons_of_mem _ hx)) with e | m
      · have := h1.1 x hx
        omega
      · exact m
    · rcases List.mem_cons.mp ((h x).mpr (List.mem_cons_of_mem _ hx)) with e | m
      · have := h2.1 x hx
        omega
      · exact m
theorem cnt_zero {ns : List Int} {k : Int} (h : ¬ ∃ x ∈ ns, k = (x.natAbs : Int)) (hk : 0 < k) : Fr.cnt ns k = 0 := by
  have h1 : ns.count k = 0 := List.count_eq_zero.mpr fun q => h ⟨k, q, by omega⟩
  have h2 : ns.count (-k) = 0 := List.count_eq_zero.mpr fun q => h ⟨-k, q, by omega⟩
  unfold Fr.cnt
  rw [h1, h2]
  rfl
theorem bal_kinds {ns ks : List Int} (h : Lts ns) (hk : kindsOk ns ks) : (ks.map fun k => (k, Fr.cnt ns k)).filter (fun p => decide (p.2 ≠ 0)) = Fr.bal ns := by
  have e : Fr.bal ns = (((List.range 26).map fun (i : Nat) => (i : Int) + 1).map fun k => (k, Fr.cnt ns k)).filter (fun p => decide (p.2 ≠ 0)) := by
    unfold Fr.bal
    rw [List.map_map]
    rfl
  rw [e, List.filter_map, List.filter_map]
  congr 1
  refine sorted_ext _ _ (hk.1.filter _) (List.Pairwise.filter _ ?_) fun x => ?_
  · rw [List.pairwise_map]
    exact List.pairwise_lt_range.imp fun h => by omega
  · rw [List.mem_filter, List.mem_filter]
    refine and_congr_left fun hc => ?_
    have hc : Fr.cnt ns x ≠ 0 := of_decide_eq_true hc
    rw [hk.2 x, List.mem_map]
    constructor
    · rintro ⟨y, hy, rfl⟩
      obtain ⟨y1, y2⟩ := h y hy
      exact ⟨y.natAbs - 1, List.mem_range.mpr (by omega), by omega⟩
    · rintro ⟨i, hi, rfl⟩
      exact Decidable.byContradiction fun q => hc (cnt_zero q (by omega))
abbrev sBalOf : Stmt := top 32
theorem mt_lcountK {X : Cx} {K : PySem.W.Frag} (h : X.K = K) : MtR X "list.count" (rCntI K) := by
  subst h
  exact mt_lcount
/-- a tuple of two ints -/
def PrT (K : PySem.W.Frag) (H : Hp) (v : V) (p : Int × Int) : Prop := ∃ q : Addr, v = .ref q ∧ SqT K H q [.int p.1, .int p.2]
theorem PrT.same {K : PySem.W.Frag} {H H' : Hp} {v : V} {p : Int × Int} (h : PrT K H v p) (s : Same H H') : PrT K H' v p := by
  obtain ⟨q, e, h⟩ := h
  exact ⟨q, e, WR.Same.seqT s h⟩
theorem PrT.put {K : PySem.W.Frag} {D : Addr} {H : Hp} {ws : List V} {o : HO} {v : V} {p : Int × Int} (hD : H D = some (.lst ws)) (h : PrT K H v p) : PrT K (L2.upd H D o) v p := by
  obtain ⟨q, e, h⟩ := h
  exact ⟨q, e, SqT.keptL hD Kept.upd h⟩
def BalAt (K : PySem.W.Frag) (H : Hp) (a : Addr) (ps : List (Int × Int)) : Prop := ∃ vs, SqT K H a vs ∧ All2 (PrT K H) vs ps
def spBalOf (K : PySem.W.Frag) : Sp := fun vs H Q _ => ∃ (a : Addr) (ns : List Int), vs = [.ref a] ∧ SqL K H a (iv ns) ∧ ns.length ≤ 1000 ∧ Lts ns ∧ ∀ p H', Same H H' → BalAt K H' p (Fr.bal ns) → Q (.ref p) H'
abbrev nBalOf : List Str := ["letters", "pairs", "kind", "more"]
theorem kinds_len {ns ks : List Int} (h : Lts ns) (hk : kindsOk ns ks) : ks.length ≤ 26 := by
  refine pigeon 26 ks ?_ fun k hk' => ?_
  · exact hk.1.imp fun h => by omega
  · obtain ⟨x, hx, rfl⟩ := (hk.2 k).mp hk'
    obtain ⟨y1, y2⟩ := h x hx
    omega
section
variable {P : Program} {w : World} {K : PySem.W.Frag} {mg : Str → Option Value} {base : Heap}
theorem scBalOf : FnScope nBalOf ["letters"] (defScope sBalOf) := ⟨rfl, rfl, rfl, by decide +kernel, rfl, by decide +kernel, by decide +kernel⟩
theorem ok_balOf {f : Addr} {fd : FuncData} (F : Fun K "balance_of" "balance_of" sBalOf f fd) (T : TxA mg) (GK : Cal P w K mg base "kinds_of" 1 ["letters"] (spKinds K)) : FnOk P w K mg base CX0 2 f fd ["letters"] (spBalOf K) := by
  refine F.ok scBalOf (fun vs H Q E h => ?_) (fun cdv A outer s H vs Q E hr h => ?_)
  · obtain ⟨a, ns, rfl, _⟩ := h
    rfl
  · obtain ⟨a, ns, rfl, hA, hlen, hl, k⟩ := h
    refine ⟨_, pss_cons (ps_setLc (i := 1) (own := [("kind", 2)]) (g := gName 2) (tt := tYes) rfl scBalOf.nd rfl rfl (sw_true rfl rfl rfl (by decide +kernel)) (pi_tup (pe_cal GK hr (by decide) (by rfl) (pa_cons (pv 0) pa_nil)))
        (blkOk_by (N := nBalOf) (sc := defScope sBalOf) (by decide +kernel)) (fun _ _ _ _ _ => pg_name (i := 2) scBalOf.nd rfl (Or.inl rfl)) (fun _ _ _ _ _ => pts_nil)
        (fun _ _ _ _ _ => pe_tup (pa_cons (pv 2) (pa_cons (pe_op op_sub (pe_bmK (K := K) rfl PySem.F.plainAttrs_list PySem.F.slot_list_count PySem.F.type_list_count (mt_lcountK (K := K) rfl) (pv 0) (pa_cons (pv 2) pa_nil)) (pe_bmK (K := K) rfl PySem.F.plainAttrs_list PySem.F.slot_list_count PySem.F.type_list_count (mt_lcountK (K := K) rfl) (pv 0) (pa_cons (pe_un un_neg (pv 2)) pa_nil))) pa_nil))))
      (pss_one (ps_ret (pe_callTy call_tuple_of (by rfl) T.tuple (by decide +kernel) (pa_cons (pe_lc (own := [("kind", 2), ("more", 3)]) (g := gTup K 2 (gCons (gName 2) (gCons (gName 3) gNil))) rfl scBalOf.nd (pi_list (pv 1))
        (blkOk_by (N := nBalOf) (sc := defScope sBalOf) (by decide +kernel)) (fun _ _ _ _ _ => pg_tup (n := 2) rfl (pgs_cons (pg_name (i := 2) scBalOf.nd rfl (Or.inl rfl)) (pgs_cons (pg_name (i := 3) scBalOf.nd rfl (Or.inl rfl)) pgs_nil)))
        (fun _ _ _ _ _ => pts_one (pt_cmpR op_ne (pv 3) pe_int (nomark _))) (fun _ _ _ _ _ => pe_tup (pa_cons (pv 2) (pa_cons (pv 3) pa_nil)))) pa_nil)))), ?_⟩
    refine as_lc ?_
    refine ⟨_, rfl, a, ns, rfl, .inl hA, hlen, hl, fun ks hk kp H1 s1 hkp => ?_⟩
    have hkl := kinds_len hl hk
    have hA1 := s1.seq hA
    refine ⟨kp, rfl, ⟨_, hkp⟩, ?_⟩
    refine lcM (walk_tup (K := K) (a := kp) (xs := iv ks)) (ks.map fun k => (k, Fr.cnt ns k)) (fun D H v p => PrT K H v p) (fun _ _ _ _ _ h s => h.same s) (fun _ _ _ _ _ _ hD h => h.put hD) (by rw [List.length_map]; omega) (by rw [List.length_map, List.length_map]) (fun H2 s2 => WR.Same.seqT s2 hkp) ?_ (fun x σ1 H A B k h => gName_mono k h) ?_
    · intro i x b hx hb D H2 hD ⟨us, hus⟩ s2 Qy ky
      obtain ⟨z, hz, rfl⟩ : ∃ z, ks[i]? = some z ∧ x = V.int z := by
        rw [List.getElem?_map] at hx
        cases e : ks[i]? with
        | none => rw [e] at hx; cases hx
        | some z => rw [e] at hx; exact ⟨z, rfl, (Option.some.inj hx).symm⟩
      rw [List.getElem?_map, hz] at hb
      obtain rfl := Option.some.inj hb
      have hA2 := s2.seq hA1
      have hne : iv ns ≠ [] := fun e => by
        obtain ⟨y, hy, _⟩ := (hk.2 z).mp (List.mem_of_getElem? hz)
        have : ns = [] := List.map_eq_nil_iff.mp e
        rw [this] at hy
        cases hy
      refine ⟨rfl, ?_⟩
      refine ⟨_, rfl, _, rfl, .inl ⟨rfl, _, hA2⟩, _, rfl, a, ns, z, rfl, rfl, hA2, _, rfl, .inl ⟨rfl, _, hA2⟩, _, rfl, _, rfl, a, ns, -z, rfl, rfl, hA2, ?_⟩
      refine ⟨_, _, rfl, rfl, by show 2 ≤ sizeLine; decide, fun q hq => ?_⟩
      exact ky (.ref q) _ (same_upd hq) ⟨q, rfl, SqT.of upd_same⟩
    intro D H2 ws hD s2 h2 r2
    have l2 := r2.length
    rw [List.length_map] at l2
    refine at_set ?_
    try dsimp only
    refine ⟨_, rfl, D, rfl, ⟨_, SqL.of h2⟩, fun D2 hD2 => ?_⟩
    refine lc_it (walk_list (K := K) (a := D) (xs := ws)) (fun j H' => Same H2 H' ∧ ∃ us, H' D2 = some (.lst us) ∧ us.length ≤ j ∧ All2 (PrT K H') us (((ks.map fun k => (k, Fr.cnt ns k)).take j).filter fun p => decide (p.2 ≠ 0)))
      ⟨same_upd hD2, [], upd_same, Nat.le_refl _, by rw [List.take_zero]; exact .nil⟩ (fun j H' _ q => SqL.of (q.1 _ _ h2)) ?_ ?_
    · rintro j x H3 _ hj ⟨sm, us, hus, lu, hu⟩ ⟨rfl, hx⟩
      obtain ⟨b, hb, q, rfl, hq⟩ := r2.at hx
      have hjk : j < (ks.map fun k => (k, Fr.cnt ns k)).length := (List.getElem?_eq_some_iff.mp hb).1
      have eb : (ks.map fun k => (k, Fr.cnt ns k))[j] = b := (List.getElem?_eq_some_iff.mp hb).2
      refine ⟨q, _, rfl, WR.Same.seqT sm hq, rfl, _, _, rfl, _, _, rfl, rfl, ?_⟩
      refine ⟨rfl, ?_⟩
      refine ⟨_, rfl, rfl, _, rfl, ?_⟩
      rw [List.take_succ_eq_append_getElem hjk, eb, List.filter_append]
      refine ite2 (fun hn => ?_) (fun hn => ?_)
      · refine ⟨_, rfl, _, rfl, by show 2 ≤ sizeLine; decide, fun t ht => ?_⟩
        have st := same_upd (o := .tup [.int b.1, .int b.2]) ht
        have hbn : b.2 ≠ 0 := fun z => by
          rw [z] at hn
          exact absurd hn (by decide)
        have hus2 := st _ _ hus
        refine ⟨us, hus2, Evl.sz_lt (by rw [List.length_map] at hjk; omega), fun b' o e => ?_, us ++ [.ref t], upd_same, by rw [List.length_append]; show _ + 1 ≤ _; omega, ?_⟩
        · rw [upd_ne (ne_of_none e hD2)]
          exact st _ _ (sm _ _ e)
        · refine All2.app (hu.imp fun _ _ r => (r.same st).put hus2) ?_
          have : ([b].filter fun p => decide (p.2 ≠ 0)) = [b] := by simp [hbn]
          rw [this]
          exact .cons (PrT.put hus2 ⟨t, rfl, SqT.of upd_same⟩) .nil
      · refine ⟨sm, us, hus, by omega, ?_⟩
        have hbz : b.2 = 0 := Decidable.byContradiction fun z => hn (by
          have : ¬ (V.int b.2 = V.int 0) := fun q => z (by injection q)
          simp [this])
        have : ([b].filter fun p => decide (p.2 ≠ 0)) = [] := by simp [hbz]
        rw [this, List.append_nil]
        exact hu
    · rintro H3 ⟨sm, us, hus, lu, hu⟩
      rw [l2] at hu
      rw [List.take_of_length_le (by rw [List.length_map]; exact Nat.le_refl _), bal_kinds hl hk] at hu
      refine ⟨D2, _, rfl, .inl ⟨SqL.of hus, fun p hp => ?_⟩⟩
      have sp := same_upd (o := .tup us) hp
      exact k p _ (((s1.trans s2).trans sm).trans sp) ⟨us, SqT.of upd_same, hu.imp fun _ _ r => r.same sp⟩
end
end W17
set_option Elab.async false
set_option linter.all false
set_option maxRecDepth 100000
set_option maxHeartbeats 1000000
namespace W17
open PySem L2 PySem.Spec PyProof.Rows WR WB
/-! ### a comprehension of two walks in which nothing else changes -/
theorem lc2_in {J1 : It} {ys : List V} {G1 : Hp → Prop} (w1 : Walk J1 ys.length G1 (YAt ys)) {g1 : TG} {tt1 : TT} {te : TE} {vs1 : List Nat} {σ2 : L2.St} {H1 H4 : Hp} {D : Addr} {acc : List V} {Nx : Hp → Prop} (v : V → V) (hD : H1 D = none) (s4 : Same H1 H4) (a4 : H4 D = some (.lst acc)) (hz : acc.length + ys.length < 40000) (hG : ∀ H, Same H1 H → G1 H)
    (hs : ∀ y ∈ ys, ∀ H, Same H1 H → ∀ Qy : V → Hp → Prop, (∀ H', Same H H' → Qy (v y) H') → ∀ Qn : Hp → Prop, g1 y (wipe σ2 vs1) H fun σ3 H5 => wipe σ3 vs1 = wipe σ2 vs1 ∧ tt1 σ3 H5 fun b H6 => if b = true then te σ3 H6 Qy else Qn H6)
    (hd : ∀ H, Same H1 H → H D = some (.lst (acc ++ ys.map v)) → Nx H) :
    ∃ W1 : Nat → Nat → Hp → Prop, (∃ m, W1 0 m H4) ∧ ∀ j k H, W1 j k H →
      (J1.stop j H ∧ Nx H) ∨ (J1.go j H ∧ ∃ Nx1 : Hp → Prop, (∀ H', Nx1 H' → ∃ k', k' < k ∧ W1 (j + 1) k' H') ∧ ∀ x H', J1.yld j H x H' → g1 x (wipe σ2 vs1) H' fun σ3 H5 => wipe σ3 vs1 = wipe σ2 vs1 ∧ tt1 σ3 H5 fun b H6 =>
        if b = true then te σ3 H6 fun y H7 => ∃ acc, H7 D = some (.lst acc) ∧ acc.length < sizeLine ∧ Nx1 (L2.upd H7 D (.lst (acc ++ [y]))) else Nx1 H6) := by
  refine ⟨fun j k H => k = ys.length - j ∧ j ≤ ys.length ∧ Same H1 H ∧ H D = some (.lst (acc ++ (ys.take j).map v)), ⟨_, rfl, Nat.zero_le _, s4, by rw [List.take_zero]; simpa using a4⟩, ?_⟩
  rintro j k H ⟨rfl, hj, sm, hDD⟩
  by_cases hlt : j < ys.length
  · right
    refine ⟨w1.goes j H hlt (hG H sm), fun H' => Same H1 H' ∧ H' D = some (.lst (acc ++ (ys.take (j + 1)).map v)), fun H' q => ⟨ys.length - (j + 1), by omega, rfl, hlt, q.1, q.2⟩, fun x H' hy => ?_⟩
    obtain ⟨rfl, hx⟩ := w1.yields j H x H' hlt (hG H sm) hy
    have ex : ys[j] = x := (List.getElem?_eq_some_iff.mp hx).2
    refine hs x (List.mem_of_getElem? hx) H' sm _ (fun H2 s2 => ⟨_, s2 _ _ hDD, ?_, ?_, ?_⟩) _
    · refine Evl.sz_lt ?_
      rw [List.length_append, List.length_map, List.length_take]
      omega
    · intro b o e
      rw [upd_ne (ne_of_none e hD)]
      exact s2 _ _ (sm _ _ e)
    · rw [upd_same, List.take_succ_eq_append_getElem hlt, ex, List.map_append, ← List.append_assoc]
      rfl
  · left
    have e : j = ys.length := by omega
    subst e
    rw [List.take_length] at hDD
    exact ⟨w1.stops H (hG H sm), hd H sm hDD⟩
theorem lc2_out {J : It} {n : Nat} {G : Hp → Prop} {Y : Nat → Hp → V → Hp → Prop} (w : Walk J n G Y) {g : TG} {tt : TT} {wi1 : TI} {g1 : TG} {tt1 : TT} {te : TE} {vs vs1 : List Nat} {σ : L2.St} {H1 : Hp} {Q : VK} (out : Nat → List V) (hG : ∀ H, Same H1 H → G H)
    (hs : ∀ i x D H H', i < n → Y i H x H' → H1 D = none → Same H1 H → H D = some (.lst (((List.range i).map out).flatten)) → ∀ Nx : Hp → Prop, (∀ H', Same H1 H' → H' D = some (.lst (((List.range i).map out).flatten ++ out i)) → Nx H') →
      g x (wipe σ vs) H' fun σ2 H2 => wipe σ2 vs = wipe σ vs ∧ tt σ2 H2 fun b H3 => if b = true then wi1 σ2 H3 fun J1 H4 => ∃ W1 : Nat → Nat → Hp → Prop, (∃ m, W1 0 m H4) ∧ ∀ j k H, W1 j k H →
      (J1.stop j H ∧ Nx H) ∨ (J1.go j H ∧ ∃ Nx1 : Hp → Prop, (∀ H', Nx1 H' → ∃ k', k' < k ∧ W1 (j + 1) k' H') ∧ ∀ x H', J1.yld j H x H' → g1 x (wipe σ2 vs1) H' fun σ3 H5 => wipe σ3 vs1 = wipe σ2 vs1 ∧ tt1 σ3 H5 fun b H6 =>
        if b = true then te σ3 H6 fun y H7 => ∃ acc, H7 D = some (.lst acc) ∧ acc.length < sizeLine ∧ Nx1 (L2.upd H7 D (.lst (acc ++ [y]))) else Nx1 H6) else Nx H3)
    (hd : ∀ D H, H1 D = none → Same H1 H → H D = some (.lst (((List.range n).map out).flatten)) → Q (.ref D) H) : tLc2 (fun _ H R => R J H) g tt wi1 g1 tt1 te vs vs1 σ H1 Q := by
  intro D hD
  refine ⟨fun i m H => m = n - i ∧ i ≤ n ∧ Same H1 H ∧ H D = some (.lst (((List.range i).map out).flatten)), ⟨_, rfl, Nat.zero_le _, fun b o e => by rw [upd_ne (ne_of_none e hD)]; exact e, by rw [upd_same]; rfl⟩, ?_⟩
  rintro i m H ⟨rfl, hi, sm, hDD⟩
  by_cases hlt : i < n
  · right
    refine ⟨w.goes i H hlt (hG H sm), fun H' => Same H1 H' ∧ H' D = some (.lst (((List.range (i + 1)).map out).flatten)), fun H' q => ⟨n - (i + 1), by omega, rfl, hlt, q.1, q.2⟩, fun x H' hy => ?_⟩
    refine hs i x D H H' hlt (w.yields i H x H' hlt (hG H sm) hy) hD sm hDD _ fun H2 s2 h2 => ⟨s2, ?_⟩
    rw [h2, List.range_succ, List.map_append, List.flatten_append]
    simp
  · left
    have e : i = n := by omega
    subst e
    exact ⟨w.stops H (hG H sm), hd D H hD sm hDD⟩
theorem pe_fldK {X : Cx} {K : PySem.W.Frag} {e : Expr} {f : Str} {pos : Pos} {ta : TE} (h : X.K = K) (he : PE X e ta) (hb : attributeBase e f X.env (eval e X.env) = eval e X.env) : PE X (.Attribute e f pos) (tFld K ta f) := by
  subst h
  exact pe_fld he hb
theorem ar_lc {wi : TI} {g : TG} {tt : TT} {te : TE} {vs : List Nat} {σ : L2.St} {H : Hp} {Q : List V → Hp → Prop}
    (h : wi σ H fun J H1 => tLc (fun _ H R => R J H) g tt te vs σ H1 fun y H2 => Q [y] H2) : tCons (tLc wi g tt te vs) tNil σ H Q := h
/-! ### the small defs that rims want -/
abbrev sFilled : Stmt := top 41
abbrev sNeedB : Stmt := top 45
abbrev sFewP : Stmt := top 51
abbrev sNexts : Stmt := top 53
structure TxR (mg : Str → Option Value) : Prop where
  words : ∃ t, mg "MOST_WORDS" = some (.int 4 t)
  places : ∃ t, mg "MOST_PLACES" = some (.int 24 t)
  range : mg "range" = none
  enum : mg "enumerate" = none
def spFilled (K : PySem.W.Frag) (C : Addr) : Sp := fun vs H Q _ => ∃ (p : Addr) (ns : List Int), vs = [.ref p] ∧ WordAt K C H p ns ∧ Q (.bl (decide (0 < (ns.length : Int)))) H
def spNeedB (K : PySem.W.Frag) : Sp := fun vs H Q _ => ∃ (a : Addr) (ns : List Int), vs = [.ref a] ∧ SqL K H a (iv ns) ∧ ns.length ≤ 1000 ∧ Lts ns ∧ Fr.bal ns = [] ∧ ∀ H', Same H H' → Q .non H'
def spFewP : Sp := fun vs H Q _ => ∃ n : Int, vs = [.int n] ∧ n ≤ 24 ∧ Q .non H
/-- the places that stand behind each one, from place f on -/
def nxF (f : Nat) : List (List Int) → List Int
  | [] => []
  | w :: r => ((List.range w.length).map fun (t : Nat) => (f : Int) + (((t + 1) % w.length : Nat) : Int)) ++ nxF (f + w.length) r
theorem nxF_len : ∀ (ws : List (List Int)) (f : Nat), (nxF f ws).length = ws.flatten.length
  | [], _ => rfl
  | w :: r, f => by
    unfold nxF
    rw [List.length_append, nxF_len r, List.flatten_cons, List.length_append, List.length_map, List.length_range]
theorem nxF_snoc : ∀ (ws : List (List Int)) (w : List Int) (f : Nat), nxF f (ws ++ [w]) = nxF f ws ++ ((List.range w.length).map fun (t : Nat) => ((f + ws.flatten.length : Nat) : Int) + (((t + 1) % w.length : Nat) : Int))
  | [], w, f => by simp [nxF]
  | a :: r, w, f => by
    rw [List.cons_append]
    unfold nxF
    rw [nxF_snoc r w, List.append_assoc, List.flatten_cons, List.length_append]
    congr 3
    funext t
    congr 2
    omega
theorem nxF_take {ws : List (List Int)} {i : Nat} {w : List Int} (h : ws[i]? = some w) : nxF 0 (ws.take (i + 1)) = nxF 0 (ws.take i) ++ ((List.range w.length).map fun (t : Nat) => (((ws.take i).flatten.length : Nat) : Int) + (((t + 1) % w.length : Nat) : Int)) := by
  have hi := (List.getElem?_eq_some_iff.mp h).1
  have e := (List.getElem?_eq_some_iff.mp h).2
  rw [List.take_succ_eq_append_getElem hi, e, nxF_snoc, Nat.zero_add]
theorem flat_take {ws : List (List Int)} {i : Nat} {w : List Int} (h : ws[i]? = some w) : (ws.take i).flatten.length + w.length ≤ ws.flatten.length := by
  have hi := (List.getElem?_eq_some_iff.mp h).1
  have e := (List.getElem?_eq_some_iff.mp h).2
  have s : ws = ws.take i ++ (w :: ws.drop (i + 1)) := by
    rw [← e, List.getElem_cons_drop, List.take_append_drop]
  have := congrArg (fun z => z.flatten.length) s
  simp only [List.flatten_append, List.flatten_cons, List.length_append] at this
  omega
/-- words that stand at these places -/
def Wds (K : PySem.W.Frag) (C : Addr) (H : Hp) (xs : List Addr) (ws : List (List Int)) : Prop := All2 (fun p ns => WordAt K C H p ns) xs ws
theorem Wds.same {K : PySem.W.Frag} {C : Addr} {H H' : Hp} {xs : List Addr} {ws : List (List Int)} (h : Wds K C H xs ws) (s : Same H H') : Wds K C H' xs ws := h.imp fun _ _ r => r.same s
def spNexts (K : PySem.W.Frag) (C : Addr) : Sp := fun vs H Q _ => ∃ (a : Addr) (xs : List Addr) (ws : List (List Int)), vs = [.ref a] ∧ SqL K H a (xs.map V.ref) ∧ Wds K C H xs ws ∧ ws.length ≤ 4 ∧ (∀ w ∈ ws, w ≠ []) ∧ ws.flatten.length ≤ 24 ∧ NewB K H Q (iv (nxF 0 ws))
section
variable {P : Program} {w : World} {K : PySem.W.Frag} {mg : Str → Option Value} {base : Heap} {C : Addr}
theorem scFilled : FnScope ["value"] ["value"] (defScope sFilled) := ⟨rfl, rfl, rfl, by decide +kernel, rfl, by decide +kernel, by decide +kernel⟩
theorem ok_filled {f : Addr} {fd : FuncData} (F : Fun K "is_filled" "is_filled" sFilled f fd) (T : TxW K mg C) : FnOk P w K mg base CX0 1 f fd ["value"] (spFilled K C) := by
  refine F.ok scFilled (fun vs H Q E h => ?_) (fun cdv A outer s H vs Q E hr h => ?_)
  · obtain ⟨p, ns, rfl, _⟩ := h
    rfl
  · obtain ⟨p, ns, rfl, W1, k⟩ := h
    refine ⟨_, pss_one (ps_ret (pe_and (pe_callB call_isi (by rfl) T.isin (by decide +kernel) (pa_cons (pv 0) (pa_cons (pe_glob (v := .ref C) (by rfl) T.mgW rfl) pa_nil)))
      (pe_one (pe_cmpR op_gt (pe_fld (pv 0) rfl) pe_int (nomark _))))), ?_⟩
    refine ⟨_, rfl, _, _, _, _, _, rfl, .own C, W1.tyx T, kit_self C, _, rfl, ?_⟩
    refine iteT ?_
    obtain ⟨dx, tl, tk, ks, h1, h2, h3, h4⟩ := W1
    exact ⟨_, rfl, p, C, dx, _, _, rfl, h1, T.cl, T.nN, wf_length, _, _, rfl, rfl, k⟩
theorem scFewP : FnScope ["many"] ["many"] (defScope sFewP) := ⟨rfl, rfl, rfl, by decide +kernel, rfl, by decide +kernel, by decide +kernel⟩
theorem ok_fewP {f : Addr} {fd : FuncData} (F : Fun K "need_few_places" "need_few_places" sFewP f fd) (T : TxR mg) : FnOk P w K mg base CX0 1 f fd ["many"] spFewP := by
  refine F.ok scFewP (fun vs H Q E h => ?_) (fun cdv A outer s H vs Q E hr h => ?_)
  · obtain ⟨n, rfl, _⟩ := h
    rfl
  · obtain ⟨n, rfl, hn, k⟩ := h
    obtain ⟨tk, mM⟩ := T.places
    refine ⟨_, pss_one (ps_if (pt_cmpR op_gt (pv 0) (pe_glob (v := .int 24) (by rfl) mM ⟨_, rfl⟩) (nomark _)) (pss_one ps_never) pss_nil), ?_⟩
    refine ⟨_, rfl, _, _, rfl, rfl, _, rfl, ?_⟩
    exact iteF' (decide_eq_false (by omega)) k
theorem scNeedB : FnScope ["letters", "pairs"] ["letters"] (defScope sNeedB) := ⟨rfl, rfl, rfl, by decide +kernel, rfl, by decide +kernel, by decide +kernel⟩
theorem ok_needB {f : Addr} {fd : FuncData} (F : Fun K "need_balanced" "need_balanced" sNeedB f fd) (GB : Cal P w K mg base "balance_of" 2 ["letters"] (spBalOf K)) : FnOk P w K mg base CX0 3 f fd ["letters"] (spNeedB K) := by
  refine F.ok scNeedB (fun vs H Q E h => ?_) (fun cdv A outer s H vs Q E hr h => ?_)
  · obtain ⟨a, ns, rfl, _⟩ := h
    rfl
  · obtain ⟨a, ns, rfl, hA, hlen, hl, hb, k⟩ := h
    refine ⟨_, pss_cons (ps_set (i := 1) scNeedB.nd rfl (Or.inl rfl) (pe_cal GB hr (by decide) (by rfl) (pa_cons (pv 0) pa_nil)))
      (pss_one (ps_if (pt_truth (pv 1) (by intro _; rfl)) (pss_one ps_never) pss_nil)), ?_⟩
    refine ⟨_, rfl, a, ns, rfl, hA, hlen, hl, fun p H1 s1 hB => ?_⟩
    rw [hb] at hB
    obtain ⟨vs, h1, h2⟩ := hB
    cases h2
    refine at_set ?_
    try dsimp only
    exact ⟨_, rfl, _, .inr (.inl ⟨_, h1, rfl⟩), iteF (k H1 s1)⟩
abbrev nNexts : List Str := ["words", "nexts", "word", "first", "at"]
theorem scNexts : FnScope nNexts ["words"] (defScope sNexts) := ⟨rfl, rfl, rfl, by decide +kernel, rfl, by decide +kernel, by decide +kernel⟩
theorem ok_nexts {f : Addr} {fd : FuncData} (F : Fun K "nexts_of" "nexts_of" sNexts f fd) (T : TxW K mg C) (TA : TxA mg) (R : TxR mg) : FnOk P w K mg base CX0 1 f fd ["words"] (spNexts K C) := by
  refine F.ok scNexts (fun vs H Q E h => ?_) (fun cdv A outer s H vs Q E hr h => ?_)
  · obtain ⟨a, xs, ws, rfl, _⟩ := h
    rfl
  · obtain ⟨a, xs, ws, rfl, hA, hW, l4, hne, l24, k⟩ := h
    refine ⟨_, pss_cons (ps_set (i := 1) scNexts.nd rfl (Or.inl rfl) (pe_lst pa_nil))
      (pss_cons (ps_for PassesOwn.never rfl (pi_list (pv 0)) (pg_name (i := 2) scNexts.nd rfl (Or.inr rfl))
        (pss_cons (ps_set (i := 3) scNexts.nd rfl (Or.inr rfl) (pe_callB call_len_seq (by rfl) TA.len PySem.boot_len (pa_cons (pv 1) pa_nil)))
        (pss_one (ps_expr (pe_bm PySem.F.plainAttrs_list PySem.F.slot_list_extend PySem.F.type_list_extend mt_extend (pv 1) (pa_cons (pe_lc (own := [("at", 4)]) (g := gName 4) (tt := tYes) rfl scNexts.nd (pi_range1 (by rfl) R.range (pa_cons (pe_fld (pv 2) rfl) pa_nil))
          (blkOk_by (N := nNexts) (sc := defScope sNexts) (by decide +kernel)) (fun _ _ _ _ _ => pg_name (i := 4) scNexts.nd rfl (Or.inl rfl)) (fun _ _ _ _ _ => pts_nil)
          (fun _ _ _ _ _ => pe_op op_add (pv 3) (pe_op op_mod (pe_op op_add (pv 4) pe_int) (pe_fldK (K := K) rfl (pv 2) rfl)))) pa_nil))))))
      (pss_one (ps_ret (pe_callTy call_tupB (by rfl) TA.tuple (by decide +kernel) (pa_cons (pv 1) pa_nil))))), ?_⟩
    refine ⟨Nat.zero_le _, fun l hl0 => ?_⟩
    have s0 := same_upd (o := .lst []) hl0
    refine ⟨_, rfl, a, rfl, ⟨_, s0.seq hA⟩, for_list (K := K) (a := a) (xs := xs.map V.ref) (fun i σ H' => ∃ v2 v3 : Option V, σ = [some (.ref a), some (.ref l), v2, v3, none] ∧ Same H H' ∧ H' l = some (.lst (iv (nxF 0 (ws.take i)))))
      ⟨none, none, rfl, s0, upd_same⟩ (fun i σ H1 _ ⟨_, _, _, s, _⟩ => s.seq hA) ?_ ?_⟩
    · rintro i y σ H1 hi ⟨v2, v3, rfl, sm, hL⟩
      obtain ⟨q, hq, rfl⟩ : ∃ q, xs[i]? = some q ∧ y = V.ref q := by
        rw [List.getElem?_map] at hi
        cases e : xs[i]? with
        | none => rw [e] at hi; cases hi
        | some q => rw [e] at hi; exact ⟨q, rfl, (Option.some.inj hi).symm⟩
      obtain ⟨u, hu, Wq⟩ := hW.at hq
      have Wq := Wq.same sm
      have hft := flat_take hu
      have hup : 0 < u.length := List.length_pos_iff.mpr (hne u (List.mem_of_getElem? hu))
      refine ⟨_, rfl, l, _, rfl, .inl (SqL.of hL), ?_⟩
      refine at_set ?_
      try dsimp only
      have el : ((iv (nxF 0 (ws.take i))).length : Int) = (((ws.take i).flatten.length : Nat) : Int) := by rw [List.length_map, nxF_len]
      rw [el]
      refine ⟨_, rfl, .inl ⟨rfl, _, SqL.of hL⟩, ?_⟩
      refine ar_lc ?_
      obtain ⟨dx, tl, tk, ks, w1, _⟩ := id Wq
      refine ⟨_, rfl, q, C, dx, _, _, rfl, w1, T.cl, T.nN, wf_length, _, rfl, by omega, by omega, fun D hD => ?_⟩
      have sD := same_upd (o := .lst []) hD
      refine lc_range (lo := 0) (n := ((u.length : Nat) : Int).toNat) (fun j H' => Same H1 H' ∧ H' D = some (.lst (iv ((List.range j).map fun (t : Nat) => (((ws.take i).flatten.length : Nat) : Int) + (((t + 1) % u.length : Nat) : Int))))) ⟨sD, upd_same⟩ ?_ ?_
      · rintro j H2 hj ⟨s2, hDD⟩
        rw [Int.toNat_natCast] at hj
        have w2 := s2 _ _ w1
        refine ⟨rfl, yes_te ?_⟩
        refine ⟨_, rfl, _, rfl, _, _, rfl, rfl, _, rfl, q, C, dx, _, _, rfl, w2, T.cl, T.nN, wf_length, _, _, rfl, rfl, by omega, _, _, rfl, rfl, ?_⟩
        refine ⟨_, hDD, Evl.sz_lt (by rw [List.length_map, List.length_map, List.length_range]; omega), fun b o e => ?_, ?_⟩
        · rw [upd_ne (ne_of_none e hD)]
          exact s2 _ _ e
        · rw [upd_same, List.range_succ, List.map_append]
          unfold iv
          rw [List.map_append]
          have ev : ((0 : Int) + (j : Nat) + 1) % ((u.length : Nat) : Int) = (((j + 1) % u.length : Nat) : Int) := by
            rw [Int.natCast_emod]
            congr 1
            omega
          exact congrArg (fun z => some (HO.lst (_ ++ [V.int ((((ws.take i).flatten.length : Nat) : Int) + z)]))) ev
      · rintro H2 ⟨s2, hDD⟩
        rw [Int.toNat_natCast] at hDD
        have hL2 := s2 _ _ hL
        refine ⟨l, D, _, _, rfl, rfl, hL2, hDD, Evl.sz_of (by rw [List.length_map, List.length_map, List.length_map, List.length_range, nxF_len]; omega), ?_⟩
        refine ⟨_, _, rfl, same_put (sm.trans s2) hl0, ?_⟩
        rw [upd_same, nxF_take hu]
        unfold iv
        rw [List.map_append]
    · rintro σ H1 ⟨v2, v3, rfl, sm, hL⟩
      have e : ws.take (xs.map V.ref).length = ws := List.take_of_length_le (by rw [List.length_map, hW.length]; exact Nat.le_refl _)
      rw [e] at hL
      refine ⟨_, rfl, l, _, rfl, .inl ⟨SqL.of hL, fun t H2 s2 B2 => k t H2 (sm.trans s2) B2⟩⟩
end
end W17
set_option Elab.async false
set_option linter.all false
set_option maxRecDepth 100000
set_option maxHeartbeats 1000000
namespace W17
open PySem L2 PySem.Spec PyProof.Rows WR WB
abbrev sInitR : Stmt := inClass (top 52) 0
theorem pi_tupK {X : Cx} {K : PySem.W.Frag} {tg l : Expr} {tl : TE} (h : X.K = K) (hl : PE X l tl) : PI X tg l (iTup K tl) := by
  subst h
  exact pi_tup hl
theorem nx_lc2 {wi wi1 : TI} {g g1 gg : TG} {tt tt1 : TT} {te : TE} {vs vs1 : List Nat} {D : Ends} {σ : L2.St} {H : Hp} {Cc : TS} {b1 b2 : L2.St → Hp → Prop} {rt : VK}
    (h : wi σ H fun J H1 => tLc2 (fun _ H R => R J H) g tt wi1 g1 tt1 te vs vs1 σ H1 fun z H4 => gg z σ H4 (Cc D)) : tNext { nx := tSeq (tAsg (tLc2 wi g tt wi1 g1 tt1 te vs vs1) gg) Cc D, rt := rt, bk := b1, ct := b2 } σ H := h
theorem nx_not_lc {r : List V → Hp → VK → Prop} {wi : TI} {g : TG} {tt : TT} {te : TE} {vs : List Nat} {D : Ends} {σ : L2.St} {H : Hp} {A B Cc : TS} {b1 b2 : L2.St → Hp → Prop} {rt : VK}
    (h : wi σ H fun J H1 => tLc (fun _ H R => R J H) g tt te vs σ H1 fun x H2 => r [x] H2 fun v H3 => ∃ c, v = .bl c ∧ if (!c) = true then A { D with nx := Cc D } σ H3 else B { D with nx := Cc D } σ H3) :
    tNext { nx := tSeq (tIfS (tNot (fun σ H Q => tCB r (tCons (tLc wi g tt te vs) tNil) σ H fun x H1 => ∃ c, x = .bl c ∧ Q c H1)) A B) Cc D, rt := rt, bk := b1, ct := b2 } σ H := h
theorem sq_fld {K : PySem.W.Frag} {ta tv : TE} {f : Str} {Cc : TS} {D : Ends} {σ : L2.St} {H : Hp} (h : tv σ H fun y H1 => sFld K ta (fun _ H Q => Q y H) f { D with nx := Cc D } σ H1) : tSeq (sFld K ta tv f) Cc D σ H := h
theorem cb_lc2 {r : List V → Hp → VK → Prop} {wi wi1 : TI} {g g1 : TG} {tt tt1 : TT} {te : TE} {vs vs1 : List Nat} {σ : L2.St} {H : Hp} {Q : VK}
    (h : wi σ H fun J H1 => tLc2 (fun _ H R => R J H) g tt wi1 g1 tt1 te vs vs1 σ H1 fun y H2 => r [y] H2 Q) : tCB r (tCons (tLc2 wi g tt wi1 g1 tt1 te vs vs1) tNil) σ H Q := h
theorem flat_to {ws : List (List Int)} {i : Nat} (h : i ≤ ws.length) : ((List.range i).map fun i => iv (ws.getD i [])).flatten = iv (ws.take i).flatten := by
  have e : (List.range i).map (fun i => ws.getD i []) = ws.take i := by
    refine List.ext_getElem (by rw [List.length_map, List.length_range, List.length_take]; omega) fun j h1 h2 => ?_
    rw [List.length_take] at h2
    rw [List.getElem_map, List.getElem_range, List.getElem_take, List.getD_eq_getElem?_getD, List.getElem?_eq_getElem (by omega)]
    rfl
  rw [← e]
  unfold iv
  rw [List.map_flatten, List.map_map]
  rfl
def rf (tw tl : Addr) (n b : Nat) (sh : Bool) (th tn : Addr) : List (Str × V) := [("words", .ref tw), ("letters", .ref tl), ("many", .int (n : Int)), ("bands", .int (b : Int)), ("is_short", .bl sh), ("homes", .ref th), ("nexts", .ref tn)]
theorem pr1 {tw : Addr} : putF "words" (.ref tw) ([] : List (Str × V)) = ([("words", .ref tw)] : List (Str × V)) := by
  rfl
theorem pr2 {tw : Addr} {tl : Addr} : putF "letters" (.ref tl) ([("words", .ref tw)] : List (Str × V)) = ([("words", .ref tw), ("letters", .ref tl)] : List (Str × V)) := by
  rw [pf_ne (show ¬ (("words" : Str) = "letters") by decide +kernel)]
  rfl
theorem pr3 {tw : Addr} {tl : Addr} {n : Nat} : putF "many" (.int (n : Int)) ([("words", .ref tw), ("letters", .ref tl)] : List (Str × V)) = ([("words", .ref tw), ("letters", .ref tl), ("many", .int (n : Int))] : List (Str × V)) := by
  rw [pf_ne (show ¬ (("words" : Str) = "many") by decide +kernel), pf_ne (show ¬ (("letters" : Str) = "many") by decide +kernel)]
  rfl
theorem pr4 {tw : Addr} {tl : Addr} {n : Nat} {b : Nat} : putF "bands" (.int (b : Int)) ([("words", .ref tw), ("letters", .ref tl), ("many", .int (n : Int))] : List (Str × V)) = ([("words", .ref tw), ("letters", .ref tl), ("many", .int (n : Int)), ("bands", .int (b : Int))] : List (Str × V)) := by
  rw [pf_ne (show ¬ (("words" : Str) = "bands") by decide +kernel), pf_ne (show ¬ (("letters" : Str) = "bands") by decide +kernel), pf_ne (show ¬ (("many" : Str) = "bands") by decide +kernel)]
  rfl
theorem pr5 {tw : Addr} {tl : Addr} {n : Nat} {b : Nat} {sh : Bool} : putF "is_short" (.bl sh) ([("words", .ref tw), ("letters", .ref tl), ("many", .int (n : Int)), ("bands", .int (b : Int))] : List (Str × V)) = ([("words", .ref tw), ("letters", .ref tl), ("many", .int (n : Int)), ("bands", .int (b : Int)), ("is_short", .bl sh)] : List (Str × V)) := by
  rw [pf_ne (show ¬ (("words" : Str) = "is_short") by decide +kernel), pf_ne (show ¬ (("letters" : Str) = "is_short") by decide +kernel), pf_ne (show ¬ (("many" : Str) = "is_short") by decide +kernel), pf_ne (show ¬ (("bands" : Str) = "is_short") by decide +kernel)]
  rfl
theorem pr6 {tw : Addr} {tl : Addr} {n : Nat} {b : Nat} {sh : Bool} {th : Addr} : putF "homes" (.ref th) ([("words", .ref tw), ("letters", .ref tl), ("many", .int (n : Int)), ("bands", .int (b : Int)), ("is_short", .bl sh)] : List (Str × V)) = ([("words", .ref tw), ("letters", .ref tl), ("many", .int (n : Int)), ("bands", .int (b : Int)), ("is_short", .bl sh), ("homes", .ref th)] : List (Str × V)) := by
  rw [pf_ne (show ¬ (("words" : Str) = "homes") by decide +kernel), pf_ne (show ¬ (("letters" : Str) = "homes") by decide +kernel), pf_ne (show ¬ (("many" : Str) = "homes") by decide +kernel), pf_ne (show ¬ (("bands" : Str) = "homes") by decide +kernel), pf_ne (show ¬ (("is_short" : Str) = "homes") by decide +kernel)]
  rfl
theorem pr7 {tw : Addr} {tl : Addr} {n : Nat} {b : Nat} {sh : Bool} {th : Addr} {tn : Addr} : putF "nexts" (.ref tn) ([("words", .ref tw), ("letters", .ref tl), ("many", .int (n : Int)), ("bands", .int (b : Int)), ("is_short", .bl sh), ("homes", .ref th)] : List (Str × V)) = rf tw tl n b sh th tn := by
  rw [pf_ne (show ¬ (("words" : Str) = "nexts") by decide +kernel), pf_ne (show ¬ (("letters" : Str) = "nexts") by decide +kernel), pf_ne (show ¬ (("many" : Str) = "nexts") by decide +kernel), pf_ne (show ¬ (("bands" : Str) = "nexts") by decide +kernel), pf_ne (show ¬ (("is_short" : Str) = "nexts") by decide +kernel), pf_ne (show ¬ (("homes" : Str) = "nexts") by decide +kernel)]
  rfl
/-- the number of each letter's word, from f on -/
def hmF (f : Nat) : List (List Int) → List Int
  | [] => []
  | w :: r => List.replicate w.length (f : Int) ++ hmF (f + 1) r
theorem hm_to : ∀ (ws : List (List Int)) (f : Nat), ((List.range ws.length).map fun i => iv (List.replicate (ws.getD i []).length ((f + i : Nat) : Int))).flatten = iv (hmF f ws)
  | [], f => rfl
  | w :: r, f => by
    have ih := hm_to r (f + 1)
    rw [List.length_cons, List.range_succ_eq_map, List.map_cons, List.flatten_cons, List.map_map]
    unfold hmF
    have e : (List.range r.length).map ((fun i => iv (List.replicate ((w :: r).getD i []).length ((f + i : Nat) : Int))) ∘ Nat.succ) = (List.range r.length).map fun i => iv (List.replicate (r.getD i []).length ((f + 1 + i : Nat) : Int)) := by
      refine List.map_congr_left fun i _ => ?_
      show iv (List.replicate ((w :: r).getD (i + 1) []).length ((f + (i + 1) : Nat) : Int)) = _
      rw [List.getD_cons_succ, show f + (i + 1) = f + 1 + i by omega]
    rw [e, ih]
    unfold iv
    rw [List.map_append]
    rfl
theorem all_bl {vs : List V} {ws : List (List Int)} {f : List Int → Bool} (h : All2 (fun v u => v = V.bl (f u)) vs ws) : vs = (ws.map f).map V.bl := by
  induction h with
  | nil => rfl
  | cons e _ ih => rw [e, ih]; rfl
theorem all_map (ws : List (List Int)) (f : List Int → Bool) : (ws.map f).all id = ws.all f := by
  rw [List.all_map]
  rfl
def RimsAt (K : PySem.W.Frag) (C CR : Addr) (H : Hp) (p : Addr) (xs : List Addr) (ws : List (List Int)) : Prop :=
  ∃ (dx tw tl th tn : Addr), H p = some (.ins CR dx (rf tw tl ws.flatten.length (ws.flatten.length / 2) (ws.all fun w => decide (Fr.rnd w = w)) th tn)) ∧ SqB K H tw (xs.map V.ref) ∧ Wds K C H xs ws ∧ SqB K H tl (iv ws.flatten) ∧ SqB K H th (iv (hmF 0 ws)) ∧ SqB K H tn (iv (nxF 0 ws))
/-- what may be made to rims -/
def RimOk (ws : List (List Int)) : Prop := 1 ≤ ws.length ∧ ws.length ≤ 4 ∧ (∀ w ∈ ws, w ≠ []) ∧ ws.flatten.length ≤ 24 ∧ Lts ws.flatten ∧ Fr.bal ws.flatten = []
structure TxRC (K : PySem.W.Frag) (mg : Str → Option Value) (CR : Addr) : Prop where
  cl : Cls K CR
  n1 : NoAttr K CR "words"
  n2 : NoAttr K CR "letters"
  n3 : NoAttr K CR "many"
  n4 : NoAttr K CR "bands"
  n5 : NoAttr K CR "is_short"
  n6 : NoAttr K CR "homes"
  n7 : NoAttr K CR "nexts"
  mgR : mg "Rims" = some (.ref CR)
  ca : PySem.W.findIn K (.ref CR) "__class__" = some (some (.builtin "object.__class__"))
  cm : PySem.W.mroIn K CR (.type "object") = some true
def spInitR (K : PySem.W.Frag) (C CR : Addr) : Sp := fun vs H Q _ => ∃ (H0 : Hp) (p dx a : Addr) (xs : List Addr) (ws : List (List Int)), vs = [.ref p, .ref a] ∧ Same H0 H ∧ H0 p = none ∧ H p = some (.ins CR dx []) ∧ SqL K H0 a (xs.map V.ref) ∧ Wds K C H0 xs ws ∧ RimOk ws ∧
  ∀ H', Same H0 H' → RimsAt K C CR H' p xs ws → Q .non H'
abbrev nInitR : List Str := ["self", "words", "letters", "word", "letter", "home", "_"]
section
variable {P : Program} {w : World} {K : PySem.W.Frag} {mg : Str → Option Value} {base : Heap} {C CR : Addr}
theorem scInitR : FnScope nInitR ["self", "words"] (defScope sInitR) := ⟨rfl, rfl, rfl, by decide +kernel, rfl, by decide +kernel, by decide +kernel⟩
theorem ok_initR {f : Addr} {fd : FuncData} (F : Fun K "__init__" "Rims.__init__" sInitR f fd) (T : TxW K mg C) (TC : TxRC K mg CR) (TA : TxA mg) (R : TxR mg) (GL : Cal P w K mg base "is_listed" 1 ["value"] (spListE K)) (GF : Cal P w K mg base "is_filled" 1 ["value"] (spFilled K C))
    (GP : Cal P w K mg base "need_few_places" 1 ["many"] spFewP) (GB : Cal P w K mg base "need_balanced" 3 ["letters"] (spNeedB K)) (GN : Cal P w K mg base "nexts_of" 1 ["words"] (spNexts K C)) :
    FnOk P w K mg base CX0 4 f fd ["self", "words"] (spInitR K C CR) := by
  refine F.ok scInitR (fun vs H Q E h => ?_) (fun cdv A outer s H vs Q E hr h => ?_)
  · obtain ⟨H0, p, dx, a, xs, ws, rfl, _⟩ := h
    rfl
  · obtain ⟨H0, p, dx, a, xs, ws, rfl, s0, p0, hp, hS, hW, ⟨l1, l4, hne, l24, hl, hb⟩, k⟩ := h
    obtain ⟨tW, mW⟩ := R.words
    refine ⟨_, pss_cons (ps_if (PW.pt (pw_or (pt_not (pt_val (pe_cal GL hr (by decide) (by rfl) (pa_cons (pv 1) pa_nil)))) (pw_or1 (pt_not (pt_chain op_le op_le pe_int (pe_callB call_len_seq (by rfl) TA.len PySem.boot_len (pa_cons (pv 1) pa_nil)) (pe_glob (v := .int 4) (by rfl) mW ⟨_, rfl⟩)))))) (pss_one ps_never) pss_nil)
      (pss_cons (ps_if (pt_not (pt_val (pe_callB (cr_all rfl) (by rfl) T.all (by decide +kernel) (pa_cons (pe_lc (own := [("word", 3)]) (g := gName 3) (tt := tYes) rfl scInitR.nd (pi_list (pv 1))
          (blkOk_by (N := nInitR) (sc := defScope sInitR) (by decide +kernel)) (fun _ _ _ _ _ => pg_name (i := 3) scInitR.nd rfl (Or.inl rfl)) (fun _ _ _ _ _ => pts_nil)
          (fun _ _ _ _ _ => pe_cal GF hr (by decide) (by rfl) (pa_cons (pv 3) pa_nil))) pa_nil)))) (pss_one ps_never) pss_nil)
      (pss_cons (ps_setLc2 (i := 2) (own := [("word", 3), ("letter", 4)]) (vs1 := [4]) (g := gName 3) (tt := tYes) (g1 := gName 4) (tt1 := tYes) rfl scInitR.nd rfl rfl (sw_true rfl rfl rfl (by decide +kernel)) (pi_list (pv 1))
          (blkOk_by (N := nInitR) (sc := defScope sInitR) (by decide +kernel)) (by decide) (fun _ _ _ _ _ => pg_name (i := 3) scInitR.nd rfl (Or.inl rfl)) (fun _ _ _ _ _ => pts_nil)
          (fun _ _ _ _ _ => pi_tupK (K := K) rfl (pe_fldK (K := K) rfl (pv 3) rfl)) (fun _ _ _ _ _ => pg_name (i := 4) scInitR.nd rfl (Or.inl rfl)) (fun _ _ _ _ _ => pts_nil) (fun _ _ _ _ _ => pv 4))
      (pss_cons (ps_expr (pe_cal GP hr (by decide) (by rfl) (pa_cons (pe_callB call_len_seq (by rfl) TA.len PySem.boot_len (pa_cons (pv 2) pa_nil)) pa_nil)))
      (pss_cons (ps_expr (pe_cal GB hr (by decide) (by rfl) (pa_cons (pv 2) pa_nil)))
      (pss_cons (ps_fld (pv 0) (pe_callTy call_tupB (by rfl) TA.tuple (by decide +kernel) (pa_cons (pv 1) pa_nil)) rfl)
      (pss_cons (ps_fld (pv 0) (pe_callTy call_tupB (by rfl) TA.tuple (by decide +kernel) (pa_cons (pv 2) pa_nil)) rfl)
      (pss_cons (ps_fld (pv 0) (pe_callB call_len_seq (by rfl) TA.len PySem.boot_len (pa_cons (pv 2) pa_nil)) rfl)
      (pss_cons (ps_fld (pv 0) (pe_op op_fdiv (pe_callB call_len_seq (by rfl) TA.len PySem.boot_len (pa_cons (pv 2) pa_nil)) pe_int) rfl)
      (pss_cons (ps_fld (pv 0) (pe_callB (cr_all rfl) (by rfl) T.all (by decide +kernel) (pa_cons (pe_lc (own := [("word", 3)]) (g := gName 3) (tt := tYes) rfl scInitR.nd (pi_list (pv 1))
          (blkOk_by (N := nInitR) (sc := defScope sInitR) (by decide +kernel)) (fun _ _ _ _ _ => pg_name (i := 3) scInitR.nd rfl (Or.inl rfl)) (fun _ _ _ _ _ => pts_nil)
          (fun _ _ _ _ _ => pe_fldK (K := K) rfl (pv 3) rfl)) pa_nil)) rfl)
      (pss_cons (ps_fld (pv 0) (pe_callTy call_tupB (by rfl) TA.tuple (by decide +kernel) (pa_cons (pe_lc2 (own := [("home", 5), ("word", 3), ("_", 6)]) (vs1 := [6]) (g := gTup K 2 (gCons (gName 5) (gCons (gName 3) gNil))) (tt := tYes) (g1 := gName 6) (tt1 := tYes) rfl scInitR.nd (pi_enum (by rfl) R.enum (pa_cons (pv 1) pa_nil))
          (blkOk_by (N := nInitR) (sc := defScope sInitR) (by decide +kernel)) (by decide) (fun _ _ _ _ _ => pg_tup (n := 2) rfl (pgs_cons (pg_name (i := 5) scInitR.nd rfl (Or.inl rfl)) (pgs_cons (pg_name (i := 3) scInitR.nd rfl (Or.inl rfl)) pgs_nil))) (fun _ _ _ _ _ => pts_nil)
          (fun _ _ _ _ _ => pi_tupK (K := K) rfl (pe_fldK (K := K) rfl (pv 3) rfl)) (fun _ _ _ _ _ => pg_name (i := 6) scInitR.nd rfl (Or.inl rfl)) (fun _ _ _ _ _ => pts_nil) (fun _ _ _ _ _ => pv 5)) pa_nil)) rfl)
      (pss_one (ps_fld (pv 0) (pe_cal GN hr (by decide) (by rfl) (pa_cons (pv 1) pa_nil)) rfl)))))))))))), ?_⟩
    have lxw : xs.length = ws.length := hW.length
    have E0 : SqE K H0 a (xs.map V.ref) := .inl hS
    refine ⟨_, rfl, a, _, rfl, E0.same s0, fun H1 s1 => ⟨_, rfl, ?_⟩⟩
    have s01 := s0.trans s1
    refine iteF ?_
    have hp1 := s1 _ _ hp
    refine ⟨_, rfl, a, _, rfl, .inl (s01.seq hS), _, _, rfl, rfl, _, rfl, iteT' (decide_eq_true (by rw [List.length_map, lxw]; omega)) ⟨_, _, rfl, rfl, _, rfl, no_ne (decide_eq_true (by rw [List.length_map, lxw]; omega)) ?_⟩⟩
    refine nx_not_lc ?_
    refine ⟨_, rfl, a, rfl, ⟨_, s01.seq hS⟩, ?_⟩
    refine lcp (walk_list (xs := xs.map V.ref)) (fun _ => true) (fun _ => V.bl true) (by rw [List.length_map]; omega) (fun H2 s => (s01.trans s).seq hS) ?_ ?_
    · intro x hx H2 s2 Qy Qn ky kn
      obtain ⟨q, hq, rfl⟩ := List.mem_map.mp hx
      obtain ⟨u, hu, Wq⟩ := All2.mem hW hq
      have up : 0 < u.length := List.length_pos_iff.mpr (hne u hu)
      refine ⟨rfl, yes_te ⟨_, rfl, q, u, rfl, Wq.same (s01.trans s2), ?_⟩⟩
      rw [decide_eq_true (show (0 : Int) < (u.length : Int) by omega)]
      exact ky rfl H2 (fun _ _ e => e)
    intro D1 H2 hD1 s2 h2
    have s02 := s01.trans s2
    have hp2 := s2 _ _ hp1
    refine ⟨D1, xs.map fun _ => true, rfl, SqL.of (by
      rw [h2, List.filter_eq_self.mpr (fun _ _ => rfl), List.map_map, List.map_map]
      rfl), ?_⟩
    have eall : (xs.map fun _ => true).all id = true := by
      rw [List.all_eq_true]
      intro b hb
      obtain ⟨_, _, rfl⟩ := List.mem_map.mp hb
      rfl
    rw [eall]
    refine ⟨_, rfl, iteF ?_⟩
    refine nx_lc2 ?_
    refine ⟨_, rfl, a, rfl, ⟨_, s02.seq hS⟩, ?_⟩
    refine lc2_out (walk_list (xs := xs.map V.ref)) (fun i => iv (ws.getD i [])) (fun H s => (s02.trans s).seq hS) ?_ ?_
    · rintro i x D H H' hi ⟨rfl, hx⟩ hD sm hDD Nx kN
      obtain ⟨q, hq, rfl⟩ : ∃ q, xs[i]? = some q ∧ x = V.ref q := by
        rw [List.getElem?_map] at hx
        cases e : xs[i]? with
        | none => rw [e] at hx; cases hx
        | some q => rw [e] at hx; exact ⟨q, rfl, (Option.some.inj hx).symm⟩
      obtain ⟨u, hu, Wq⟩ := hW.at hq
      have eu : ws.getD i [] = u := by rw [List.getD_eq_getElem?_getD, hu]; rfl
      obtain ⟨dx1, tl, tk, ks, w1, w2, _⟩ := Wq.same s02
      refine ⟨rfl, yes_te ?_⟩
      refine ⟨_, rfl, q, C, dx1, _, _, rfl, sm _ _ w1, T.cl, T.nL, wf_letters, tl, rfl, ⟨_, WR.Same.seqT sm w2.sq⟩, ?_⟩
      have hft := flat_take hu
      refine lc2_in (walk_tup (xs := iv u)) (fun y => y) hD sm hDD ?_ (fun H s => ?_) ?_ ?_
      · rw [flat_to (by have := (List.getElem?_eq_some_iff.mp hu).1; omega)]
        rw [List.length_map, List.length_map]
        omega
      · exact WR.Same.seqT s w2.sq
      · intro y hy H2 s2 Qy ky Qn
        exact ⟨rfl, yes_te ⟨_, rfl, ky H2 (fun _ _ e => e)⟩⟩
      · intro H2 s2 h2
        refine kN H2 s2 ?_
        rw [h2, List.map_id', eu]
    intro D H3 hD s3 h3
    have eD : ((List.range (xs.map V.ref).length).map fun i => iv (ws.getD i [])).flatten = iv ws.flatten := by
      rw [List.length_map, lxw, flat_to (Nat.le_refl _), List.take_length]
    rw [eD] at h3
    refine at_set ?_
    try dsimp only
    have s03 := s02.trans s3
    have hp3 := s3 _ _ hp2
    have elen : ((iv ws.flatten).length : Int) = (ws.flatten.length : Int) := by rw [List.length_map]
    refine ⟨_, rfl, D, _, rfl, .inl (SqL.of h3), _, rfl, by rw [elen]; omega, ?_⟩
    refine ⟨_, rfl, D, ws.flatten, rfl, SqL.of h3, by omega, hl, hb, fun H4 s4 => ?_⟩
    have s04 := s03.trans s4
    have hp4 := s4 _ _ hp3
    have h4 := s4 _ _ h3
    -- its words
    refine ⟨_, rfl, a, _, rfl, .inl ⟨s04.seq hS, fun tw H5 s5 B5 => ?_⟩⟩
    refine ⟨_, rfl, p, CR, dx, _, rfl, s5 _ _ hp4, TC.cl, TC.n1, (by show 0 < 1000; decide), ?_⟩
    have hDp : ¬ D = p := fun c => by
      rw [c, hp4] at h4
      cases h4
    have s05 := s04.trans s5
    have h5 := s5 _ _ h4
    have hpp1 : L2.upd H5 p (.ins CR dx (putF "words" (.ref tw) [])) p = some (.ins CR dx [("words", .ref tw)]) := by rw [upd_same, pr1]
    have s06 := same_put (o := (.ins CR dx (putF "words" (.ref tw) []))) s05 p0
    have w6 := SqB.put (o := (.ins CR dx (putF "words" (.ref tw) []))) B5 (s5 _ _ hp4)
    have h6 : L2.upd H5 p (.ins CR dx (putF "words" (.ref tw) [])) D = some (.lst (iv ws.flatten)) := by rw [upd_ne (fun c => hDp c)]; exact h5
    obtain ⟨H6, eH6⟩ : ∃ H', H' = L2.upd H5 p (.ins CR dx (putF "words" (.ref tw) [])) := ⟨_, rfl⟩
    rw [← eH6] at hpp1 s06 w6 h6 ⊢
    clear eH6
    refine ⟨_, rfl, D, _, rfl, .inl ⟨SqL.of h6, fun tl H7 s7 B7 => ?_⟩⟩
    refine ⟨_, rfl, p, CR, dx, _, rfl, s7 _ _ hpp1, TC.cl, TC.n2, (by show 1 < 1000; decide), ?_⟩
    have s07 := s06.trans s7
    have w7 := SqB.same s7 w6
    have h7 := s7 _ _ h6
    have hpp2 : L2.upd H7 p (.ins CR dx (putF "letters" (.ref tl) [("words", .ref tw)])) p = some (.ins CR dx [("words", .ref tw), ("letters", .ref tl)]) := by rw [upd_same, pr2]
    have s08 := same_put (o := (.ins CR dx (putF "letters" (.ref tl) [("words", .ref tw)]))) s07 p0
    have w8 := SqB.put (o := (.ins CR dx (putF "letters" (.ref tl) [("words", .ref tw)]))) w7 (s7 _ _ hpp1)
    have b8 := SqB.put (o := (.ins CR dx (putF "letters" (.ref tl) [("words", .ref tw)]))) B7 (s7 _ _ hpp1)
    have h8 : L2.upd H7 p (.ins CR dx (putF "letters" (.ref tl) [("words", .ref tw)])) D = some (.lst (iv ws.flatten)) := by rw [upd_ne (fun c => hDp c)]; exact h7
    obtain ⟨H8, eH8⟩ : ∃ H', H' = L2.upd H7 p (.ins CR dx (putF "letters" (.ref tl) [("words", .ref tw)])) := ⟨_, rfl⟩
    rw [← eH8] at hpp2 s08 w8 b8 h8 ⊢
    clear eH8
    refine ⟨_, rfl, D, _, rfl, .inl (SqL.of h8), ?_⟩
    rw [elen]
    refine ⟨_, rfl, p, CR, dx, _, rfl, hpp2, TC.cl, TC.n3, (by show 2 < 1000; decide), ?_⟩
    have hpp3 : L2.upd H8 p (.ins CR dx (putF "many" (.int (ws.flatten.length : Nat)) [("words", .ref tw), ("letters", .ref tl)])) p = some (.ins CR dx [("words", .ref tw), ("letters", .ref tl), ("many", .int (ws.flatten.length : Nat))]) := by rw [upd_same, pr3]
    have s09 := same_put (o := (.ins CR dx (putF "many" (.int (ws.flatten.length : Nat)) [("words", .ref tw), ("letters", .ref tl)]))) s08 p0
    have w9 := SqB.put (o := (.ins CR dx (putF "many" (.int (ws.flatten.length : Nat)) [("words", .ref tw), ("letters", .ref tl)]))) w8 hpp2
    have b9 := SqB.put (o := (.ins CR dx (putF "many" (.int (ws.flatten.length : Nat)) [("words", .ref tw), ("letters", .ref tl)]))) b8 hpp2
    have h9 : L2.upd H8 p (.ins CR dx (putF "many" (.int (ws.flatten.length : Nat)) [("words", .ref tw), ("letters", .ref tl)])) D = some (.lst (iv ws.flatten)) := by rw [upd_ne (fun c => hDp c)]; exact h8
    obtain ⟨H9, eH9⟩ : ∃ H', H' = L2.upd H8 p (.ins CR dx (putF "many" (.int (ws.flatten.length : Nat)) [("words", .ref tw), ("letters", .ref tl)])) := ⟨_, rfl⟩
    rw [← eH9] at hpp3 s09 w9 b9 h9 ⊢
    clear eH9
    refine ⟨_, rfl, D, _, rfl, .inl (SqL.of h9), _, _, rfl, rfl, ⟨by decide, by decide⟩, ?_⟩
    rw [elen]
    have e2 : ((ws.flatten.length : Nat) : Int) / 2 = ((ws.flatten.length / 2 : Nat) : Int) := by omega
    try dsimp only
    rw [e2]
    refine ⟨_, rfl, p, CR, dx, _, rfl, hpp3, TC.cl, TC.n4, (by show 3 < 1000; decide), ?_⟩
    have hpp4 : L2.upd H9 p (.ins CR dx (putF "bands" (.int ((ws.flatten.length / 2) : Nat)) [("words", .ref tw), ("letters", .ref tl), ("many", .int (ws.flatten.length : Nat))])) p = some (.ins CR dx [("words", .ref tw), ("letters", .ref tl), ("many", .int (ws.flatten.length : Nat)), ("bands", .int ((ws.flatten.length / 2) : Nat))]) := by rw [upd_same, pr4]
    have s0A := same_put (o := (.ins CR dx (putF "bands" (.int ((ws.flatten.length / 2) : Nat)) [("words", .ref tw), ("letters", .ref tl), ("many", .int (ws.flatten.length : Nat))]))) s09 p0
    have wA := SqB.put (o := (.ins CR dx (putF "bands" (.int ((ws.flatten.length / 2) : Nat)) [("words", .ref tw), ("letters", .ref tl), ("many", .int (ws.flatten.length : Nat))]))) w9 hpp3
    have bA := SqB.put (o := (.ins CR dx (putF "bands" (.int ((ws.flatten.length / 2) : Nat)) [("words", .ref tw), ("letters", .ref tl), ("many", .int (ws.flatten.length : Nat))]))) b9 hpp3
    obtain ⟨HA, eHA⟩ : ∃ H', H' = L2.upd H9 p (.ins CR dx (putF "bands" (.int ((ws.flatten.length / 2) : Nat)) [("words", .ref tw), ("letters", .ref tl), ("many", .int (ws.flatten.length : Nat))])) := ⟨_, rfl⟩
    rw [← eHA] at hpp4 s0A wA bA ⊢
    clear eHA
    have sqA := s0A.seq hS
    have WA : Wds K C HA xs ws := hW.same s0A
    refine sq_fld ?_
    refine cb_lc ?_
    refine ⟨_, rfl, a, rfl, ⟨_, sqA⟩, ?_⟩
    refine lcM (walk_list (K := K) (a := a) (xs := xs.map V.ref)) ws (fun _ _ v u => v = V.bl (decide (Fr.rnd u = u))) (fun _ _ _ _ _ h _ => h) (fun _ _ _ _ _ _ _ h => h) (by rw [List.length_map]; omega) (by rw [List.length_map]; exact lxw) (fun H s => s.seq sqA) ?_ (fun x σ1 H A B k h => gName_mono k h) ?_
    · intro i x u hx hu D2 H2 hD2 _ s2 Qy ky
      obtain ⟨q, hq, rfl⟩ : ∃ q, xs[i]? = some q ∧ x = V.ref q := by
        rw [List.getElem?_map] at hx
        cases e : xs[i]? with
        | none => rw [e] at hx; cases hx
        | some q => rw [e] at hx; exact ⟨q, rfl, (Option.some.inj hx).symm⟩
      obtain ⟨u', hu', Wq⟩ := WA.at hq
      obtain rfl : u' = u := Option.some.inj (hu'.symm.trans hu)
      obtain ⟨dx1, tl1, tk, ks, w1, _⟩ := Wq.same s2
      exact ⟨rfl, _, rfl, q, C, dx1, _, _, rfl, w1, T.cl, T.nR, wf_round, ky _ H2 (fun _ _ e => e) rfl⟩
    intro D2 HB bs hD2 sB hB2 hbs
    rw [all_bl hbs] at hB2
    refine ⟨D2, _, rfl, SqL.of hB2, ?_⟩
    rw [all_map]
    have s0B := s0A.trans sB
    have wB := SqB.same sB wA
    have bB := SqB.same sB bA
    refine ⟨_, rfl, p, CR, dx, _, rfl, sB _ _ hpp4, TC.cl, TC.n5, (by show 4 < 1000; decide), ?_⟩
    have hpp5 : L2.upd HB p (.ins CR dx (putF "is_short" (.bl (ws.all fun w => decide (Fr.rnd w = w))) [("words", .ref tw), ("letters", .ref tl), ("many", .int (ws.flatten.length : Nat)), ("bands", .int ((ws.flatten.length / 2) : Nat))])) p = some (.ins CR dx [("words", .ref tw), ("letters", .ref tl), ("many", .int (ws.flatten.length : Nat)), ("bands", .int ((ws.flatten.length / 2) : Nat)), ("is_short", .bl (ws.all fun w => decide (Fr.rnd w = w)))]) := by rw [upd_same, pr5]
    have s0C := same_put (o := (.ins CR dx (putF "is_short" (.bl (ws.all fun w => decide (Fr.rnd w = w))) [("words", .ref tw), ("letters", .ref tl), ("many", .int (ws.flatten.length : Nat)), ("bands", .int ((ws.flatten.length / 2) : Nat))]))) s0B p0
    have wC := SqB.put (o := (.ins CR dx (putF "is_short" (.bl (ws.all fun w => decide (Fr.rnd w = w))) [("words", .ref tw), ("letters", .ref tl), ("many", .int (ws.flatten.length : Nat)), ("bands", .int ((ws.flatten.length / 2) : Nat))]))) wB (sB _ _ hpp4)
    have bC := SqB.put (o := (.ins CR dx (putF "is_short" (.bl (ws.all fun w => decide (Fr.rnd w = w))) [("words", .ref tw), ("letters", .ref tl), ("many", .int (ws.flatten.length : Nat)), ("bands", .int ((ws.flatten.length / 2) : Nat))]))) bB (sB _ _ hpp4)
    obtain ⟨HC, eHC⟩ : ∃ H', H' = L2.upd HB p (.ins CR dx (putF "is_short" (.bl (ws.all fun w => decide (Fr.rnd w = w))) [("words", .ref tw), ("letters", .ref tl), ("many", .int (ws.flatten.length : Nat)), ("bands", .int ((ws.flatten.length / 2) : Nat))])) := ⟨_, rfl⟩
    rw [← eHC] at hpp5 s0C wC bC ⊢
    clear eHC
    have sqC := s0C.seq hS
    have WC : Wds K C HC xs ws := hW.same s0C
    try dsimp only
    refine sq_fld ?_
    refine cb_lc2 ?_
    refine ⟨_, rfl, a, _, rfl, sqC, ?_⟩
    refine lc2_out (walk_enum (xs := xs.map V.ref)) (fun i => iv (List.replicate (ws.getD i []).length ((0 + i : Nat) : Int))) (fun H s => s.seq sqC) ?_ ?_
    · rintro i x D3 H H' hi ⟨T3, y1, y2, rfl, hT, rfl, e1, hx⟩ hD sm hDD Nx kN
      cases e1
      have hx : (xs.map V.ref)[i]? = some y2 := hx
      obtain ⟨q, hq, rfl⟩ : ∃ q, xs[i]? = some q ∧ y2 = V.ref q := by
        rw [List.getElem?_map] at hx
        cases e : xs[i]? with
        | none => rw [e] at hx; cases hx
        | some q => rw [e] at hx; exact ⟨q, rfl, (Option.some.inj hx).symm⟩
      obtain ⟨u, hu, Wq⟩ := WC.at hq
      have eu : ws.getD i [] = u := by rw [List.getD_eq_getElem?_getD, hu]; rfl
      have sT := same_upd (o := .tup [.int (i : Nat), .ref q]) hT
      have smT := sm.trans sT
      obtain ⟨dx1, tl1, tk, ks, w1, w2, _⟩ := Wq
      have hft := flat_take hu
      refine ⟨T3, _, rfl, SqT.of upd_same, rfl, _, _, rfl, _, _, rfl, rfl, ?_⟩
      refine ⟨rfl, yes_te ?_⟩
      refine ⟨_, rfl, q, C, dx1, _, _, rfl, smT _ _ w1, T.cl, T.nL, wf_letters, tl1, rfl, ⟨_, WR.Same.seqT smT w2.sq⟩, ?_⟩
      refine lc2_in (walk_tup (xs := iv u)) (fun _ => .int ((0 + i : Nat) : Int)) hD smT (sT _ _ hDD) ?_ (fun H s => WR.Same.seqT s w2.sq) ?_ ?_
      · have el : ∀ j, j ≤ ws.length → (((List.range j).map fun i => iv (List.replicate (ws.getD i []).length ((0 + i : Nat) : Int))).flatten).length = (ws.take j).flatten.length := by
          intro j
          induction j with
          | zero => intro _; rfl
          | succ j ih =>
            intro hj
            have ej : ws[j]? = some (ws.getD j []) := by
              rw [List.getD_eq_getElem?_getD, List.getElem?_eq_getElem (show j < ws.length by omega)]
              rfl
            rw [List.range_succ, List.map_append, List.flatten_append, List.length_append, ih (by omega), List.take_succ_eq_append_getElem (show j < ws.length by omega), List.flatten_append, List.length_append]
            simp only [List.map_cons, List.map_nil, List.flatten_cons, List.flatten_nil, List.append_nil, List.length_map, List.length_replicate]
            rw [List.getD_eq_getElem?_getD, List.getElem?_eq_getElem (show j < ws.length by omega)]
            rfl
        rw [el i (by have := (List.getElem?_eq_some_iff.mp hu).1; omega), List.length_map]
        omega
      · intro y hy H2 s2 Qy ky Qn
        refine ⟨rfl, yes_te ⟨_, rfl, ?_⟩⟩
        have := ky H2 (fun _ _ e => e)
        rw [Nat.zero_add] at this
        exact this
      · intro H2 s2 h2
        refine kN H2 s2 ?_
        rw [h2, eu]
        congr 3
        unfold iv
        rw [List.map_map, List.map_replicate]
        exact List.map_const ..
    intro D3 HD hD3 sD hDD
    rw [List.length_map, lxw, hm_to ws 0] at hDD
    have s0D := s0C.trans sD
    refine ⟨D3, _, rfl, .inl ⟨SqL.of hDD, fun th HE sE BE => ?_⟩⟩
    have s0E := s0D.trans sE
    have sCE := sD.trans sE
    have wE := SqB.same sCE wC
    have bE := SqB.same sCE bC
    refine ⟨_, rfl, p, CR, dx, _, rfl, sCE _ _ hpp5, TC.cl, TC.n6, (by show 5 < 1000; decide), ?_⟩
    have hpp6 : L2.upd HE p (.ins CR dx (putF "homes" (.ref th) [("words", .ref tw), ("letters", .ref tl), ("many", .int (ws.flatten.length : Nat)), ("bands", .int ((ws.flatten.length / 2) : Nat)), ("is_short", .bl (ws.all fun w => decide (Fr.rnd w = w)))])) p = some (.ins CR dx [("words", .ref tw), ("letters", .ref tl), ("many", .int (ws.flatten.length : Nat)), ("bands", .int ((ws.flatten.length / 2) : Nat)), ("is_short", .bl (ws.all fun w => decide (Fr.rnd w = w))), ("homes", .ref th)]) := by rw [upd_same, pr6]
    have s0F := same_put (o := (.ins CR dx (putF "homes" (.ref th) [("words", .ref tw), ("letters", .ref tl), ("many", .int (ws.flatten.length : Nat)), ("bands", .int ((ws.flatten.length / 2) : Nat)), ("is_short", .bl (ws.all fun w => decide (Fr.rnd w = w)))]))) s0E p0
    have wF := SqB.put (o := (.ins CR dx (putF "homes" (.ref th) [("words", .ref tw), ("letters", .ref tl), ("many", .int (ws.flatten.length : Nat)), ("bands", .int ((ws.flatten.length / 2) : Nat)), ("is_short", .bl (ws.all fun w => decide (Fr.rnd w = w)))]))) wE (sCE _ _ hpp5)
    have bF := SqB.put (o := (.ins CR dx (putF "homes" (.ref th) [("words", .ref tw), ("letters", .ref tl), ("many", .int (ws.flatten.length : Nat)), ("bands", .int ((ws.flatten.length / 2) : Nat)), ("is_short", .bl (ws.all fun w => decide (Fr.rnd w = w)))]))) bE (sCE _ _ hpp5)
    have tF := SqB.put (o := (.ins CR dx (putF "homes" (.ref th) [("words", .ref tw), ("letters", .ref tl), ("many", .int (ws.flatten.length : Nat)), ("bands", .int ((ws.flatten.length / 2) : Nat)), ("is_short", .bl (ws.all fun w => decide (Fr.rnd w = w)))]))) BE (sCE _ _ hpp5)
    obtain ⟨HF, eHF⟩ : ∃ H', H' = L2.upd HE p (.ins CR dx (putF "homes" (.ref th) [("words", .ref tw), ("letters", .ref tl), ("many", .int (ws.flatten.length : Nat)), ("bands", .int ((ws.flatten.length / 2) : Nat)), ("is_short", .bl (ws.all fun w => decide (Fr.rnd w = w)))])) := ⟨_, rfl⟩
    rw [← eHF] at hpp6 s0F wF bF tF ⊢
    clear eHF
    refine ⟨_, rfl, a, xs, ws, rfl, s0F.seq hS, hW.same s0F, l4, hne, l24, fun tn HG sG BG => ?_⟩
    have s0G := s0F.trans sG
    have wG := SqB.same sG wF
    have bG := SqB.same sG bF
    have tG := SqB.same sG tF
    refine ⟨_, rfl, p, CR, dx, _, rfl, sG _ _ hpp6, TC.cl, TC.n7, (by show 6 < 1000; decide), ?_⟩
    have hpp7 : L2.upd HG p (.ins CR dx (putF "nexts" (.ref tn) [("words", .ref tw), ("letters", .ref tl), ("many", .int (ws.flatten.length : Nat)), ("bands", .int ((ws.flatten.length / 2) : Nat)), ("is_short", .bl (ws.all fun w => decide (Fr.rnd w = w))), ("homes", .ref th)])) p = some (.ins CR dx (rf tw tl ws.flatten.length (ws.flatten.length / 2) (ws.all fun w => decide (Fr.rnd w = w)) th tn)) := by rw [upd_same, pr7]
    have s0I := same_put (o := (.ins CR dx (putF "nexts" (.ref tn) [("words", .ref tw), ("letters", .ref tl), ("many", .int (ws.flatten.length : Nat)), ("bands", .int ((ws.flatten.length / 2) : Nat)), ("is_short", .bl (ws.all fun w => decide (Fr.rnd w = w))), ("homes", .ref th)]))) s0G p0
    have wI := SqB.put (o := (.ins CR dx (putF "nexts" (.ref tn) [("words", .ref tw), ("letters", .ref tl), ("many", .int (ws.flatten.length : Nat)), ("bands", .int ((ws.flatten.length / 2) : Nat)), ("is_short", .bl (ws.all fun w => decide (Fr.rnd w = w))), ("homes", .ref th)]))) wG (sG _ _ hpp6)
    have bI := SqB.put (o := (.ins CR dx (putF "nexts" (.ref tn) [("words", .ref tw), ("letters", .ref tl), ("many", .int (ws.flatten.length : Nat)), ("bands", .int ((ws.flatten.length / 2) : Nat)), ("is_short", .bl (ws.all fun w => decide (Fr.rnd w = w))), ("homes", .ref th)]))) bG (sG _ _ hpp6)
    have tI := SqB.put (o := (.ins CR dx (putF "nexts" (.ref tn) [("words", .ref tw), ("letters", .ref tl), ("many", .int (ws.flatten.length : Nat)), ("bands", .int ((ws.flatten.length / 2) : Nat)), ("is_short", .bl (ws.all fun w => decide (Fr.rnd w = w))), ("homes", .ref th)]))) tG (sG _ _ hpp6)
    have nI := SqB.put (o := (.ins CR dx (putF "nexts" (.ref tn) [("words", .ref tw), ("letters", .ref tl), ("many", .int (ws.flatten.length : Nat)), ("bands", .int ((ws.flatten.length / 2) : Nat)), ("is_short", .bl (ws.all fun w => decide (Fr.rnd w = w))), ("homes", .ref th)]))) BG (sG _ _ hpp6)
    obtain ⟨HI, eHI⟩ : ∃ H', H' = L2.upd HG p (.ins CR dx (putF "nexts" (.ref tn) [("words", .ref tw), ("letters", .ref tl), ("many", .int (ws.flatten.length : Nat)), ("bands", .int ((ws.flatten.length / 2) : Nat)), ("is_short", .bl (ws.all fun w => decide (Fr.rnd w = w))), ("homes", .ref th)])) := ⟨_, rfl⟩
    rw [← eHI] at hpp7 s0I wI bI tI nI ⊢
    clear eHI
    exact k HI s0I ⟨dx, tw, tl, th, tn, hpp7, wI, hW.same s0I, bI, tI, nI⟩
end
end W17
set_option Elab.async false
set_option linter.all false
set_option maxRecDepth 100000
set_option maxHeartbeats 2000000
/-! t == u of tuples, whatever their items' == answers. -/
namespace TE
open PySem PySem.SeqAt PySem.Spec PyProof.Rows
open AutoSeq1 (wpAny_loadPart')
section
variable {P : Program} {w : World} {A : Around} {R : Result → Shared → Prop}
/-- the whole answer -/
abbrev ans (xs ys : Array Value) (e : Nat → Bool) : Bool := (List.range (min xs.size ys.size)).all e && xs.size == ys.size
theorem tup_eq (l b : Addr) (xs ys : Array Value) (n k : Nat) (d1 d2 : Option Addr) (o1 o2 : Array (Option Value)) (e : Nat → Bool) (I : Nat → Shared → Prop)
    (step : ∀ i (h1 : i < xs.size) (h2 : i < ys.size) t, I i t → wpAny (model P w) A.in1 (eqBool xs[i] ys[i]) (fun r t' => r = e i ∧ I (i + 1) t') (fun x t' => R (.error x) t') t)
    (out : ∀ i t, I i t → R (.ok (.ret (.bool (ans xs ys e)))) t) {s : Shared} (at1 : s.heap.get? l = some { cls := .type "tuple", dict := d1, data := .seq xs n, slots := o1 }) (at2 : s.heap.get? b = some { cls := .type "tuple", dict := d2, data := .seq ys k, slots := o2 }) (start : I 0 s) :
    wpAny (model P w) A.in1 (Builtin.«tuple.__eq__» ⟨[.ref l, .ref b], []⟩) (GQ.FinOf P w A R) (fun x t => R (.error x) t) s := by
  have sub := AutoSeq1.sub_tuple_tuple
  have len : (xs.toList.zip ys.toList).length = min xs.size ys.size := by simp
  have i0 := start
  obtain ⟨hp, g, d, tk, os⟩ := s
  wp_walk using wpAny_loadPart' at1, wpAny_loadPart' at2, wpAny_forIn_list _ (fun rest b t => b.1 = none ∧ ∃ i, rest = (xs.toList.zip ys.toList).drop i ∧ (∀ j, j < i → j < min xs.size ys.size → e j = true) ∧ I i t) _
  case turn =>
    rintro ⟨y, x⟩ rest b t ⟨hb, i, hz, before, it⟩
    have lt : i < (xs.toList.zip ys.toList).length := Nat.lt_of_not_le fun h' => by
      rw [List.drop_of_length_le h'] at hz
      cases hz
    have lm : i < min xs.size ys.size := len ▸ lt
    have h1 : i < xs.size := by omega
    have h2 : i < ys.size := by omega
    rw [List.drop_eq_getElem_cons lt] at hz
    obtain ⟨pq, more⟩ := List.cons.inj hz
    obtain rfl : y = xs[i] := by simpa using congrArg Prod.fst pq
    obtain rfl : x = ys[i] := by simpa using congrArg Prod.snd pq
    refine wpAny_bind (wpAny_mono (step i h1 h2 t it) (fun r t2 q => ?_) fun _ _ z => z)
    obtain ⟨rfl, it2⟩ := q
    cases he : e i with
    | true =>
      wp_walk
      refine ⟨rfl, i + 1, more, fun j hj lj => ?_, it2⟩
      rcases Nat.lt_succ_iff_lt_or_eq.mp hj with h | rfl
      · exact before j h lj
      · exact he
    | false =>
      wp_walk
      have no : ans xs ys e = false := by
        have : (List.range (min xs.size ys.size)).all e = false := List.all_eq_false.mpr ⟨i, List.mem_range.mpr lm, by rw [he]; decide⟩
        rw [ans, this, Bool.false_and]
      have := out _ _ it2
      rw [no] at this
      exact this
  case fin =>
    rintro ⟨b1, b2⟩ t ⟨hb, i, hz, before, it⟩
    simp only at hb
    subst hb
    have ge : min xs.size ys.size ≤ i := Nat.le_of_not_lt fun h => by
      rw [List.drop_eq_getElem_cons (len ▸ h)] at hz
      cases hz
    have yes : (List.range (min xs.size ys.size)).all e = true := List.all_eq_true.mpr fun j hj => before j (by have := List.mem_range.mp hj; omega) (List.mem_range.mp hj)
    have fin := out _ _ it
    rw [ans, yes, Bool.true_and] at fin
    wp_walk
    simpa [Builtin.Tuple.tupleCompareSizes] using fin
  case h => exact ⟨rfl, 0, rfl, fun j hj => absurd hj (Nat.not_lt_zero j), i0⟩
end
end TE
set_option Elab.async false
set_option linter.all false
set_option maxRecDepth 100000
set_option maxHeartbeats 1000000
namespace W17
open PySem L2 PySem.Spec PyProof.Rows WR WB
/-! ### tuples of words, held against one another -/
section
variable {X : Cx} {C : Addr} {pins : List (Addr × Obj)} {σ : L2.St} {H : Hp} {s : Shared}
theorem vals_ints_inj : ∀ {ns ms : List Int} {us : List Value}, Vals (iv ns) us → Vals (iv ms) us → ns = ms
  | [], [], _, _, _ => rfl
  | [], _ :: _, _, .nil, h => nomatch h
  | _ :: _, [], _, h, .nil => nomatch h
  | n :: ns, m :: ms, _, .cons h1 t1, h2 => by
    cases h2 with
    | cons h3 t3 =>
      obtain ⟨t, rfl⟩ := h1
      obtain ⟨t', e⟩ := h3
      cases e
      rw [vals_ints_inj t1 t3]
theorem word_inj (I : Inv X pins σ H s) {p : Addr} {ns ms : List Int} (h1 : WordAt X.K C H p ns) (h2 : WordAt X.K C H p ms) : ns = ms := by
  obtain ⟨dx, tl, tk, ks, a1, a2, _⟩ := h1
  obtain ⟨dy, ul, uk, js, b1, b2, _⟩ := h2
  have e := Option.some.inj (a1.symm.trans b1)
  injection e with _ _ ef
  have et : tl = ul := by
    have := List.cons.inj ef
    have := Prod.mk.inj this.1
    injection this.2
  subst et
  obtain ⟨its, v1, ⟨o1, g1, _, n1, d1⟩, _⟩ := I.tuple a2.sq
  obtain ⟨its2, v2, ⟨o2, g2, _, n2, d2⟩, _⟩ := I.tuple b2.sq
  have eo := Option.some.inj (g1.symm.trans g2)
  subst eo
  have ei : its = its2 := by
    have := d1.symm.trans d2
    injection this with this
    simpa using this
  subst ei
  exact vals_ints_inj v1 v2
theorem rcW (M : EqW X.prog X.w X.K X.mg X.base C) {A : Around} (sb : Sub X 1 A) (I : Inv X pins σ H s) {a b : Addr} {ns ms : List Int} (W1 : WordAt X.K C H a ns) (W2 : WordAt X.K C H b ms) :
    wpAny (model X.prog X.w) A (richCompare .Eq (.ref a) (.ref b)) (fun r s' => r = .bool (decide (ns = ms)) ∧ Inv X pins σ H s') X.xe s := by
  obtain ⟨f, fd, F, hs, hf, hb⟩ := M.ex
  obtain ⟨dx, tl, tk, ks, ha, _⟩ := id W1
  obtain ⟨dx', tl', tk', ks', hb', _⟩ := id W2
  obtain ⟨mA, J, _⟩ := ins_get I.hok ha
  obtain ⟨mB, J', _⟩ := ins_get I.hok hb'
  obtain ⟨od, J, _⟩ := J.look
  obtain ⟨od', J', _⟩ := J'.look
  obtain ⟨m, hF⟩ := I.fr
  refine PySem.W.cmp_K (op := .Eq) (tb := .ref C) sb.room.units0 hF I.ok.mod.kin J J'.type (by simp [PySem.W.notFirst]) hs hf ?_
  have hsp : spEq X.K C [.ref a, .ref b] H (fun v H' => v = .bl (decide (ns = ms)) ∧ H' = H) E0 := ⟨a, b, ns, ms, rfl, W1, W2, rfl, rfl⟩
  have e0 : Env0 X.prog X.w X.K X.mg X.base A X.stack s H := by
    have e := I.env0
    exact ⟨by rw [sb.fr]; exact e.frames, e.mod, e.bs, e.bsz, e.funs, e.frf, e.hok, e.bare⟩
  have hl := F.len _ _ _ _ hsp
  have r2 : Vals [V.ref a, V.ref b] [Value.ref a, Value.ref b] := .cons rfl (.cons rfl .nil)
  refine wpAny_call (codeAny_mono (F.run A X.stack s H ⟨[.ref a, .ref b], []⟩ [.ref a, .ref b] [.ref a, .ref b] _ E0 sb.room e0 (by
    have := hb s [.ref a, .ref b] I.kIn (by simpa using hl)
    simpa using this) r2 hsp) fun r s' hq => ?_)
  cases r with
  | error e => exact pass0 pins σ H s e s' I hq
  | ok fl =>
    cases fl with
    | ret w =>
      obtain ⟨z, H', I', rz, ez, eH⟩ := I.after hq
      subst ez eH
      cases rz
      exact ⟨rfl, I'⟩
    | next => exact False.elim hq
    | brk => exact False.elim hq
    | cont => exact False.elim hq
theorem ebW (M : EqW X.prog X.w X.K X.mg X.base C) {A : Around} (sb : Sub X 1 A) (I : Inv X pins σ H s) {a b : Addr} {ns ms : List Int} (W1 : WordAt X.K C H a ns) (W2 : WordAt X.K C H b ms) :
    wpAny (model X.prog X.w) A (eqBool (.ref a) (.ref b)) (fun r s' => r = decide (ns = ms) ∧ Inv X pins σ H s') X.xe s := by
  by_cases hab : a = b
  · subst hab
    have e := word_inj I W1 W2
    subst e
    exact (SeqAt.EqAt.same (A := A) (s := s) (.ref a)) X.prog X.w X.xe _ ⟨(decide_eq_true rfl).symm, I⟩
  · refine GQ.eqBool_refG hab (wpAny_mono (rcW M sb I W1 W2) (fun v s' q => ⟨_, q.1, rfl, q.2⟩) fun _ _ z => z)
end
def rEqWT (K : PySem.W.Frag) (C : Addr) : R2 := fun x y H Q => ∃ (a b : Addr) (xs ys : List Addr) (ws vs : List (List Int)), x = .ref a ∧ y = .ref b ∧ SqT K H a (xs.map V.ref) ∧ SqT K H b (ys.map V.ref) ∧ Wds K C H xs ws ∧ Wds K C H ys vs ∧ Q (.bl (decide (ws = vs))) H
theorem all_same {ws vs : List (List Int)} {n m : Nat} (hn : n = ws.length) (hm : m = vs.length) : (((List.range (min n m)).all fun i => decide (ws.getD i [] = vs.getD i [])) && n == m) = decide (ws = vs) := by
  subst hn hm
  rw [Bool.eq_iff_iff, Bool.and_eq_true, List.all_eq_true, decide_eq_true_eq, beq_iff_eq]
  constructor
  · rintro ⟨h1, h2⟩
    refine List.ext_getElem h2 fun i a b => ?_
    have := of_decide_eq_true (h1 i (List.mem_range.mpr (by omega)))
    rw [List.getD_eq_getElem?_getD, List.getD_eq_getElem?_getD, List.getElem?_eq_getElem a, List.getElem?_eq_getElem b] at this
    exact this
  · rintro rfl
    exact ⟨fun i _ => decide_eq_true rfl, rfl⟩
section
variable {X : Cx} {C : Addr}
theorem op_eqWT (M : EqW X.prog X.w X.K X.mg X.base C) {j : Nat} (hr : Room j X.A) (hj : 2 ≤ j) : OpR X (compareOp .Eq) (rEqWT X.K C) := by
  intro pins s σ H x y u v Q I rx ry d
  obtain ⟨a, b, xs, ys, ws, vs, rfl, rfl, ha, hb, hW, hV, q⟩ := d
  cases rx
  cases ry
  have rm : Room 2 X.A := hr.mono hj
  obtain ⟨its, r, ⟨⟨cls, dd, data, sl⟩, ho, hc, n, hd⟩, _⟩ := I.tuple ha
  obtain ⟨its2, r2, ⟨⟨cls2, dd2, data2, sl2⟩, ho2, hc2, n2, hd2⟩, _⟩ := I.tuple hb
  simp only at hc hd hc2 hd2
  subst hc hd hc2 hd2
  have l1 : its.toArray.size = ws.length := by rw [List.size_toArray, ← r.length, List.length_map, hW.length]
  have l2 : its2.toArray.size = vs.length := by rw [List.size_toArray, ← r2.length, List.length_map, hV.length]
  have sb : Sub X 1 X.A.in1 := ⟨rm.in1, rfl⟩
  show wpAny (model X.prog X.w) X.A (richCompare .Eq (.ref a) (.ref b)) (EP X pins σ Q) X.xe s
  refine wpAny_richCompare_same_room (op := .Eq) ⟨_, ho, rfl⟩ ⟨_, ho2, rfl⟩ PySem.F.slot_tuple_eq (GQ.call_here PySem.F.slot_tuple_eq ⟨_, ho, rfl⟩ PySem.F.entry_tuple_eq (PySem.F.args_tuple_eq_2 _ _) ?_) rm.units0
  refine TE.tup_eq a b its.toArray its2.toArray n n2 dd dd2 sl sl2 (fun i => decide (ws.getD i [] = vs.getD i [])) (fun _ t => Inv X pins σ H t) (fun i h1 h2 t It => ?_) (fun i t It => ?_) ho ho2 I
  · have k1 : i < xs.length := by rw [hW.length]; omega
    have k2 : i < ys.length := by rw [hV.length]; omega
    obtain ⟨w1, hw1, Wa⟩ := hW.at (List.getElem?_eq_getElem k1)
    obtain ⟨w2, hw2, Wb⟩ := hV.at (List.getElem?_eq_getElem k2)
    obtain ⟨u1, hu1, ru1⟩ := r.get (show (xs.map V.ref)[i]? = some (V.ref xs[i]) by rw [List.getElem?_map, List.getElem?_eq_getElem k1]; rfl)
    obtain ⟨u2, hu2, ru2⟩ := r2.get (show (ys.map V.ref)[i]? = some (V.ref ys[i]) by rw [List.getElem?_map, List.getElem?_eq_getElem k2]; rfl)
    cases ru1
    cases ru2
    have e1 : its.toArray[i] = .ref xs[i] := by
      have := (List.getElem?_eq_some_iff.mp hu1).2
      simpa using this
    have e2 : its2.toArray[i] = .ref ys[i] := by
      have := (List.getElem?_eq_some_iff.mp hu2).2
      simpa using this
    rw [e1, e2, List.getD_eq_getElem?_getD, List.getD_eq_getElem?_getD, hw1, hw2]
    exact ebW M sb It Wa Wb
  · have e : TE.ans its.toArray its2.toArray (fun i => decide (ws.getD i [] = vs.getD i [])) = decide (ws = vs) := all_same l1 l2
    rw [e]
    exact ⟨(fun z => nomatch z), .bl _, H, It, rfl, q⟩
end
end W17
set_option Elab.async false
set_option linter.all false
set_option maxRecDepth 100000
set_option maxHeartbeats 1000000
namespace W17
open PySem L2 PySem.Spec PyProof.Rows WR WB
theorem rf_words {tw tl th tn : Addr} {n b : Nat} {sh : Bool} : (rf tw tl n b sh th tn).lookup ("words" : Str) = some (.ref tw) := by
  unfold rf
  exact lk_eq
theorem rf_letters {tw tl th tn : Addr} {n b : Nat} {sh : Bool} : (rf tw tl n b sh th tn).lookup ("letters" : Str) = some (.ref tl) := by
  unfold rf
  rw [lk_ne (show ¬ (("letters" : Str) = "words") by decide +kernel)]
  exact lk_eq
theorem rf_many {tw tl th tn : Addr} {n b : Nat} {sh : Bool} : (rf tw tl n b sh th tn).lookup ("many" : Str) = some (.int (n : Int)) := by
  unfold rf
  rw [lk_ne (show ¬ (("many" : Str) = "words") by decide +kernel), lk_ne (show ¬ (("many" : Str) = "letters") by decide +kernel)]
  exact lk_eq
theorem rf_bands {tw tl th tn : Addr} {n b : Nat} {sh : Bool} : (rf tw tl n b sh th tn).lookup ("bands" : Str) = some (.int (b : Int)) := by
  unfold rf
  rw [lk_ne (show ¬ (("bands" : Str) = "words") by decide +kernel), lk_ne (show ¬ (("bands" : Str) = "letters") by decide +kernel), lk_ne (show ¬ (("bands" : Str) = "many") by decide +kernel)]
  exact lk_eq
theorem rf_homes {tw tl th tn : Addr} {n b : Nat} {sh : Bool} : (rf tw tl n b sh th tn).lookup ("homes" : Str) = some (.ref th) := by
  unfold rf
  rw [lk_ne (show ¬ (("homes" : Str) = "words") by decide +kernel), lk_ne (show ¬ (("homes" : Str) = "letters") by decide +kernel), lk_ne (show ¬ (("homes" : Str) = "many") by decide +kernel), lk_ne (show ¬ (("homes" : Str) = "bands") by decide +kernel), lk_ne (show ¬ (("homes" : Str) = "is_short") by decide +kernel)]
  exact lk_eq
theorem rf_nexts {tw tl th tn : Addr} {n b : Nat} {sh : Bool} : (rf tw tl n b sh th tn).lookup ("nexts" : Str) = some (.ref tn) := by
  unfold rf
  rw [lk_ne (show ¬ (("nexts" : Str) = "words") by decide +kernel), lk_ne (show ¬ (("nexts" : Str) = "letters") by decide +kernel), lk_ne (show ¬ (("nexts" : Str) = "many") by decide +kernel), lk_ne (show ¬ (("nexts" : Str) = "bands") by decide +kernel), lk_ne (show ¬ (("nexts" : Str) = "is_short") by decide +kernel), lk_ne (show ¬ (("nexts" : Str) = "homes") by decide +kernel)]
  exact lk_eq
theorem RimsAt.same {K : PySem.W.Frag} {C CR : Addr} {H H' : Hp} {p : Addr} {xs : List Addr} {ws : List (List Int)} (h : RimsAt K C CR H p xs ws) (s : Same H H') : RimsAt K C CR H' p xs ws := by
  obtain ⟨dx, tw, tl, th, tn, h1, h2, h3, h4, h5, h6⟩ := h
  exact ⟨dx, tw, tl, th, tn, s _ _ h1, SqB.same s h2, h3.same s, SqB.same s h4, SqB.same s h5, SqB.same s h6⟩
theorem RimsAt.tyx {K : PySem.W.Frag} {mg : Str → Option Value} {C CR : Addr} {H : Hp} {p : Addr} {xs : List Addr} {ws : List (List Int)} (h : RimsAt K C CR H p xs ws) (T : TxW K mg C) (TC : TxRC K mg CR) : TyX K H (.ref p) (.ref CR) := by
  obtain ⟨dx, tw, tl, th, tn, h1, _⟩ := h
  exact .base (.ins h1 TC.cl TC.ca T.cn T.ct TC.cm)
/-! ### rims made -/
structure MkR (P : Program) (w : World) (K : PySem.W.Frag) (mg : Str → Option Value) (base : Heap) (C CR : Addr) : Prop where
  ex : ∃ (f : Addr) (fd : FuncData), Mk K CR f ∧ FnOk P w K mg base CX0 4 f fd ["self", "words"] (spInitR K C CR) ∧ Binds K fd ["self", "words"] []
section
variable {X : Cx} {C CR : Addr} {p pos : Pos} {e : Expr} {es : List Expr} {t : TA} {j : Nat}
theorem pe_rims {mg : Str → Option Value} (M : MkR X.prog X.w X.K X.mg X.base C CR) (T : TxRC X.K X.mg CR) (hr : Room j X.A) (hkj : 5 ≤ j) (hg : Gl X "Rims") (ha : PA X (e :: es) t)
    (he : starEach (e :: es) X.env = (false, eval e X.env) :: starEach es X.env := by rfl) (hpl : (backTo pos (starEach es X.env)).any (·.1) = false := by rfl) :
    PE X (.Call (.Name "Rims" p) (e :: es) [] pos) (tMake CR (spInitR X.K C CR) [] E0 t) := by
  obtain ⟨f, fd, M, F, hb⟩ := M.ex
  exact pe_make M F (hr.mono hkj) hg T.mgR hb .nil pass0 ha (by decide) he hpl
end
theorem rims_at {K : PySem.W.Frag} {C CR : Addr} {H1 : Hp} {q x dx : Addr} {xs : List Addr} {ws : List (List Int)} {G : Hp → Prop} {E : XK} (nx : H1 x = none) (ndx : H1 dx = none) (hq : SqL K H1 q (xs.map V.ref)) (hW : Wds K C H1 xs ws) (ok : RimOk ws) (k : ∀ H', Same H1 H' → RimsAt K C CR H' x xs ws → G H') :
    spInitR K C CR [.ref x, .ref q] (L2.upd (L2.upd H1 dx (.own x)) x (.ins CR dx [])) (fun v H2 => v = .non ∧ G H2) E := by
  have s0 : Same H1 (L2.upd (L2.upd H1 dx (.own x)) x (.ins CR dx [])) := fun b o e => by
    rw [upd_ne (ne_of_none e nx), upd_ne (ne_of_none e ndx)]
    exact e
  exact ⟨H1, x, dx, q, xs, ws, rfl, s0, nx, upd_same, hq, hW, ok, fun H' s' W' => ⟨rfl, k H' s' W'⟩⟩
/-! ### rims held against one another, and their places -/
abbrev sEqR : Stmt := inClass (top 52) 1
def spEqR (K : PySem.W.Frag) (C CR : Addr) : Sp := fun vs H Q _ => ∃ (p q : Addr) (xs ys : List Addr) (ws us : List (List Int)), vs = [.ref p, .ref q] ∧ RimsAt K C CR H p xs ws ∧ RimsAt K C CR H q ys us ∧ Q (.bl (decide (ws = us))) H
theorem hmF_len : ∀ (ws : List (List Int)) (f : Nat), (hmF f ws).length = ws.flatten.length
  | [], _ => rfl
  | w :: r, f => by
    unfold hmF
    rw [List.length_append, hmF_len r, List.flatten_cons, List.length_append, List.length_replicate]
section
variable {P : Program} {w : World} {K : PySem.W.Frag} {mg : Str → Option Value} {base : Heap} {C CR : Addr}
theorem scEqR : FnScope ["self", "other"] ["self", "other"] (defScope sEqR) := ⟨rfl, rfl, rfl, by decide +kernel, rfl, by decide +kernel, by decide +kernel⟩
theorem ok_eqR {f : Addr} {fd : FuncData} (F : Fun K "__eq__" "Rims.__eq__" sEqR f fd) (T : TxW K mg C) (TC : TxRC K mg CR) (M : EqW P w K mg base C) : FnOk P w K mg base CX0 3 f fd ["self", "other"] (spEqR K C CR) := by
  refine F.ok scEqR (fun vs H Q E h => ?_) (fun cdv A outer s H vs Q E hr h => ?_)
  · obtain ⟨p, q, xs, ys, ws, us, rfl, _⟩ := h
    rfl
  · obtain ⟨p, q, xs, ys, ws, us, rfl, R1, R2, k⟩ := h
    refine ⟨_, pss_one (ps_ret (pe_and (pe_callB call_isi (by rfl) T.isin (by decide +kernel) (pa_cons (pv 1) (pa_cons (pe_glob (v := .ref CR) (by rfl) TC.mgR rfl) pa_nil)))
      (pe_one (pe_cmpR (op_eqWT M hr (by decide)) (pe_fld (pv 0) rfl) (pe_fld (pv 1) rfl) (nomark _))))), ?_⟩
    refine ⟨_, rfl, _, _, _, _, _, rfl, .own CR, R2.tyx T TC, kit_self CR, _, rfl, ?_⟩
    refine iteT ?_
    obtain ⟨dx, tw, tl, th, tn, h1, h2, h3, _⟩ := R1
    obtain ⟨dy, uw, ul, uh, un, g1, g2, g3, _⟩ := R2
    exact ⟨_, rfl, p, CR, dx, _, _, rfl, h1, TC.cl, TC.n1, rf_words, _, rfl, q, CR, dy, _, _, rfl, g1, TC.cl, TC.n1, rf_words, tw, uw, xs, ys, ws, us, rfl, rfl, h2.sq, g2.sq, h3, g3, k⟩
end
end W17
set_option Elab.async false
set_option linter.all false
set_option maxRecDepth 100000
set_option maxHeartbeats 1000000
namespace W17
open PySem L2 PySem.Spec PyProof.Rows WR WB
/-! ### rims == rims, rims != rims -/
structure EqR (P : Program) (w : World) (K : PySem.W.Frag) (mg : Str → Option Value) (base : Heap) (C CR : Addr) : Prop where
  ex : ∃ (f : Addr) (fd : FuncData), FnOk P w K mg base CX0 3 f fd ["self", "other"] (spEqR K C CR) ∧ PySem.W.findIn K (.ref CR) "__eq__" = some (some (.ref f)) ∧ PySem.W.isFn K (.ref f) = true ∧ Binds K fd ["self", "other"] []
def rEqR (K : PySem.W.Frag) (C CR : Addr) : R2 := fun x y H Q => ∃ (p q : Addr) (xs ys : List Addr) (ws us : List (List Int)), x = .ref p ∧ y = .ref q ∧ RimsAt K C CR H p xs ws ∧ RimsAt K C CR H q ys us ∧ Q (.bl (decide (ws = us))) H
section
variable {X : Cx} {C CR : Addr} {pins : List (Addr × Obj)} {σ : L2.St} {H : Hp} {s : Shared}
theorem callEqR (M : EqR X.prog X.w X.K X.mg X.base C CR) {A : Around} (sb : Sub X 3 A) (I : Inv X pins σ H s) {a b : Addr} {xs ys : List Addr} {ws us : List (List Int)} (R1 : RimsAt X.K C CR H a xs ws) (R2 : RimsAt X.K C CR H b ys us) :
    ∃ f : Addr, PySem.W.findIn X.K (.ref CR) "__eq__" = some (some (.ref f)) ∧ PySem.W.isFn X.K (.ref f) = true ∧ wpAny (model X.prog X.w) A (call (.ref f) [.ref a, .ref b]) (fun r s' => r = .bool (decide (ws = us)) ∧ Inv X pins σ H s') X.xe s := by
  obtain ⟨f, fd, F, hs, hf, hb⟩ := M.ex
  refine ⟨f, hs, hf, ?_⟩
  have hsp : spEqR X.K C CR [.ref a, .ref b] H (fun v H' => v = .bl (decide (ws = us)) ∧ H' = H) E0 := ⟨a, b, xs, ys, ws, us, rfl, R1, R2, rfl, rfl⟩
  have e0 : Env0 X.prog X.w X.K X.mg X.base A X.stack s H := by
    have e := I.env0
    exact ⟨by rw [sb.fr]; exact e.frames, e.mod, e.bs, e.bsz, e.funs, e.frf, e.hok, e.bare⟩
  have hl := F.len _ _ _ _ hsp
  have r2 : Vals [V.ref a, V.ref b] [Value.ref a, Value.ref b] := .cons rfl (.cons rfl .nil)
  refine wpAny_call (codeAny_mono (F.run A X.stack s H ⟨[.ref a, .ref b], []⟩ [.ref a, .ref b] [.ref a, .ref b] _ E0 sb.room e0 (by
    have := hb s [.ref a, .ref b] I.kIn (by simpa using hl)
    simpa using this) r2 hsp) fun r s' hq => ?_)
  cases r with
  | error e => exact pass0 pins σ H s e s' I hq
  | ok fl =>
    cases fl with
    | ret w =>
      obtain ⟨z, H', I', rz, ez, eH⟩ := I.after hq
      subst ez eH
      cases rz
      exact ⟨rfl, I'⟩
    | next => exact False.elim hq
    | brk => exact False.elim hq
    | cont => exact False.elim hq
theorem op_eqR (M : EqR X.prog X.w X.K X.mg X.base C CR) {j : Nat} (hr : Room j X.A) (hj : 3 ≤ j) : OpR X (compareOp .Eq) (rEqR X.K C CR) := by
  intro pins s σ H x y u v Q I rx ry d
  obtain ⟨a, b, xs, ys, ws, us, rfl, rfl, R1, R2, hq⟩ := d
  cases rx
  cases ry
  obtain ⟨dx, tw, tl, th, tn, ha, _⟩ := id R1
  obtain ⟨dy, uw, ul, uh, un, hb', _⟩ := id R2
  obtain ⟨mA, J, _⟩ := ins_get I.hok ha
  obtain ⟨mB, J', _⟩ := ins_get I.hok hb'
  obtain ⟨od, J, _⟩ := J.look
  obtain ⟨od', J', _⟩ := J'.look
  obtain ⟨m, hF⟩ := I.fr
  have rm : Room 3 X.A := hr.mono hj
  obtain ⟨f, hs, hf, hc⟩ := callEqR M ⟨rm, rfl⟩ I R1 R2
  show wpAny (model X.prog X.w) X.A (richCompare .Eq (.ref a) (.ref b)) (EP X pins σ Q) X.xe s
  refine PySem.W.cmp_K (op := .Eq) (tb := .ref CR) rm.units0 hF I.ok.mod.kin J J'.type (by simp [PySem.W.notFirst]) hs hf (wpAny_mono hc (fun r s' q => ?_) fun _ _ z => z)
  obtain ⟨rfl, I'⟩ := q
  exact ⟨.bl _, H, I', rfl, hq⟩
end
end W17
set_option Elab.async false
set_option linter.all false
set_option maxRecDepth 100000
set_option maxHeartbeats 1000000
namespace W17
open PySem L2 PySem.Spec PyProof.Rows WR WB
/-! ### str of rims -/
theorem Lts.word {ws : List (List Int)} (h : Lts ws.flatten) {w : List Int} (hw : w ∈ ws) : Lts w := fun x hx => h x (List.mem_flatten.mpr ⟨w, hw, hx⟩)
theorem word_le {ws : List (List Int)} {w : List Int} (hw : w ∈ ws) : w.length ≤ ws.flatten.length := by
  obtain ⟨i, hi, e⟩ := List.mem_iff_getElem.mp hw
  have := flat_take (ws := ws) (i := i) (w := w) (by rw [List.getElem?_eq_getElem hi, e])
  omega
end W17
set_option Elab.async false
set_option linter.all false
set_option maxRecDepth 100000
set_option maxHeartbeats 2000000
/-! enumerate(a tuple), and enumerate of what is a list or a tuple -/
namespace WE
open PySem PySem.W PySem.Spec PyProof.Rows L2
abbrev enObj (j : Addr) : Obj := { cls := .type "enumerate", data := .fields #[.none, .bool false, .ref j, rawInt 0, .none, .none] }
set_option maxHeartbeats 4000000 in
theorem enum_new {v : Value} {o : Obj} {G : Heap → Prop} (B : Begins v o G) :
    Meets (Builtin.«enumerate.__new__» ⟨[.type "enumerate", v], []⟩) (fun _ R t => G t.heap ∧ R (.ok (.ret (.ref (t.heap.push o).objs.size))) { t with heap := (t.heap.push o).push (enObj t.heap.objs.size) }) :=
  .of_wp fun P0 w0 A0 R t k => by
    obtain ⟨hp, gl, dr, tk, os⟩ := t
    obtain ⟨g, k⟩ := k
    have subE := sub_enumerate
    have goes : ∀ {A1 : Around} {E1 : Value → Shared → Prop} {Q1 : Value → Shared → Prop}, Q1 (.ref hp.objs.size) ⟨hp.push o, gl, dr, tk, os⟩ → wpAny (model P0 w0) A1 (pyIter v) Q1 E1 ⟨hp, gl, dr, tk, os⟩ := fun q => B.iter P0 w0 _ _ ⟨hp, gl, dr, tk, os⟩ _ g q
    wp_walk using goes
    refine wpAny_stack_any fun st => wpAny_pure ?_
    split
    · rename_i c _ _ _ _ _
      cases (c == Value.type "enumerate") <;> (wp_walk using goes; exact ⟨_, rfl, k⟩)
    · wp_walk using goes
      exact ⟨_, rfl, k⟩
section
variable {prog : Program} {w : World} {A : Around} {E : Value → Shared → Prop} {s : Shared}
theorem call_enum {v : Value} {o : Obj} {G : Heap → Prop} {Q : Value → Shared → Prop} (B : Begins v o G) (g : G s.heap)
    (k : (s.heap.push o).objs.size = s.heap.objs.size + 1 → IsEnum ((s.heap.push o).push (enObj s.heap.objs.size)) (s.heap.objs.size + 1) s.heap.objs.size 0 .none → Q (.ref (s.heap.objs.size + 1)) { s with heap := (s.heap.push o).push (enObj s.heap.objs.size) }) :
    wpAny (model prog w) A (call (.type "enumerate") [v]) Q E s := by
  refine callType_new F.called_enumerate (by decide) (F.typeCall_enumerate_1 _) (F.newCall_enumerate_1 _) (fun z => F.args_object_init_2 z _) F.entry_enumerate_new (enum_new B) ⟨g, ?_⟩
  have sz : (s.heap.push o).objs.size = s.heap.objs.size + 1 := Heap.size_push ..
  have en : IsEnum ((s.heap.push o).push (enObj s.heap.objs.size)) (s.heap.objs.size + 1) s.heap.objs.size 0 .none := by
    have at_ := Heap.get?_push_size (s.heap.push o) (o := enObj s.heap.objs.size) rfl
    rw [sz] at at_
    exact at_
  show _ ∧ _
  rw [sz]
  exact ⟨⟨_, en, rfl⟩, k sz en⟩
theorem enum_end {e j t : Addr} {i : Nat} {its : Array Value} {old : Value} {Q : Option Value → Shared → Prop} (quiet : A.handled = none) (en : IsEnum s.heap e j i old) (at_ : s.heap.IsTupleIter j t i) (tp : s.heap.IsTuple t its) (no : its[i]? = none)
    (k : ∀ h', Heap.ExtBut j s.heap h' → Q none { s with heap := h' }) : wpAny (model prog w) A (pyNext (.ref e)) Q E s := by
  have ty : s.TypeIs (.ref e) "enumerate" := ⟨_, en, rfl⟩
  unfold pyNext
  refine wpAny_bind (wpAny_attempt (wpAny_callSpecial?_slot (name := Str.ofString "__next__") ty F.slot_enumerate_next (wpAny_call_entry F.slot_enumerate_next ty F.entry_enumerate_next ?_ (F.args_enumerate_next_1 _))))
  show wpAny _ _ (field (.ref e) 2 >>= _) _ _ _
  refine wpAny_bind (wpAny_field en rfl (x := .ref j) rfl (wpAny_bind (wpAny_nextOf_tuple_end quiet at_ tp no fun h' x ext ⟨o, ho, hc⟩ => ?_)))
  exact wpAny_bind (wpAny_isInstance (T := "StopIteration") (b := true) ⟨o, ho, hc⟩ isSubtype_stop (wpAny_pure (k _ ext)))
end
/-- the tuple at a, each item in a new pair -/
def IteT (K : PySem.W.Frag) (a : Addr) : It :=
  ⟨fun i H => ∃ (xs : List V) (x : V), SqT K H a xs ∧ xs[i]? = some x, fun i H v H' => ∃ T x, v = .ref T ∧ H T = none ∧ H' = upd H T (.tup [.int (i : Nat), x]) ∧ ∀ xs, SqT K H a xs → xs[i]? = some x, fun i H => ∃ xs : List V, SqT K H a xs ∧ xs.length ≤ i⟩
theorem apart {h : Heap} {a b : Addr} {x y : String} (h1 : ∃ o, h.get? a = some o ∧ o.cls = .type x) (h2 : ∃ o, h.get? b = some o ∧ o.cls = .type y) (n : x ≠ y) : a ≠ b := by
  rintro rfl
  obtain ⟨o1, e1, c1⟩ := h1
  obtain ⟨o2, e2, c2⟩ := h2
  rw [e1] at e2
  cases e2
  rw [c1] at c2
  injection c2 with c3
  exact n c3
theorem turn_enumT {P : Program} {w : World} {K : PySem.W.Frag} {elts : List Expr} {kk : Nat} {tpos : Pos} (a e j : Addr) :
    Turn P w K (.Tuple elts kk tpos) (IteT K a) [e, j] e (fun i h => (∃ o, IsEnum h e j ((i : Nat) : Int) o) ∧ h.IsTupleIter j a i ∧ e ≠ j) where
  mem := by simp
  obj := fun i h ⟨⟨o1, h1⟩, ⟨o2, h2, c2, d2⟩, _⟩ b hb => by
    rcases List.mem_cons.mp hb with z | z
    · subst z
      exact ⟨_, h1, fun _ q => nomatch q⟩
    · rw [List.mem_singleton.mp z]
      exact ⟨o2, h2, fun _ q => by rw [d2] at q; cases q⟩
  keep := fun i h h' st k => ⟨st.1.imp fun _ z => k e (by simp) _ z, st.2.1.at fun o z => k j (by simp) o z, st.2.2⟩
  item := by
    intro X eP eW eK calm i pins s σ H E I fps st go
    subst eP eW eK
    obtain ⟨⟨o1, h1⟩, h2, ej⟩ := st
    obtain ⟨xs, x, sq, hx⟩ := go
    obtain ⟨its, rv, tp, _⟩ := I.tuple sq
    obtain ⟨u, hu, ru⟩ := rv.get hx
    have in_e : e < s.heap.objs.size := Heap.lt_size h1
    have in_j : j < s.heap.objs.size := by
      obtain ⟨_, q, _⟩ := id h2
      exact Heap.lt_size q
    have ta : ∃ o, s.heap.get? a = some o ∧ o.cls = .type "tuple" := by
      obtain ⟨o, z1, z2, _⟩ := id tp
      exact ⟨o, z1, z2⟩
    have tj : ∃ o, s.heap.get? j = some o ∧ o.cls = .type "tuple_iterator" := by
      obtain ⟨o, z1, z2, _⟩ := id h2
      exact ⟨o, z1, z2⟩
    have aj := apart ta tj (by decide)
    have ea : e ≠ a := apart ⟨_, h1, rfl⟩ ta (by decide)
    have lt : i < its.toArray.size := by
      rw [List.size_toArray]
      exact (List.getElem?_eq_some_iff.mp hu).1
    refine wpAny_pyNext_enum_itemD (Draws.tuple (A := X.A.in1) (I.ok.hd calm) j a aj its.toArray) h1 ⟨h2, tp⟩ lt ej (by simp [ej, ea]) fun y h3 tk hy out at3 new sz kp => ?_
    obtain rfl : u = y := by
      rw [List.getElem?_toArray, hu] at hy
      exact Option.some.inj hy
    refine ⟨_, rfl, wpAny_letOwnedTupleGo_enum (s := { s with heap := h3, toks := tk + 1 }) out fun h4 en4 sb => ?_⟩
    have new4 : h4.get? s.heap.objs.size = some { cls := .type "tuple", data := .seq #[.int i tk, u] } := (sb.2 _ (Nat.ne_of_gt in_e)).trans new
    have ok4 : ObjOk X.prog X.w (upd H s.heap.objs.size (.tup [.int (i : Nat), x])) h4 s.heap.objs.size (.tup [.int (i : Nat), x]) :=
      ⟨Nat.le_trans (by show 2 ≤ 16; decide) (by decide), [.int i tk, u], .cons ⟨_, rfl⟩ (.cons ru .nil), ⟨_, new4, rfl, _, rfl⟩⟩
    have I4 : Inv X pins σ (upd H s.heap.objs.size (.tup [.int (i : Nat), x])) { s with heap := h4, toks := tk + 1 } :=
      I.turnedNew (ch := [e, j]) (fun b ob hb q => (sb.2 b fun z => hb (by simp [z])).trans (kp b ob (fun z => hb (by simp [z])) (fun z => hb (by simp [z])) q)) fps (Nat.le_refl _) ok4
    refine ⟨.ref s.heap.objs.size, _, I4, rfl, ⟨_, x, rfl, I.hok.fresh (Nat.le_refl _), rfl, fun ys hy => ?_⟩, ⟨⟨u, ?_⟩, at3.1.at fun o q => (sb.2 j ej.symm).trans q, ej⟩, fun b hb => ?_⟩
    · rw [I.tuple_inj hy sq]
      exact hx
    · rw [show ((i + 1 : Nat) : Int) = (i : Int) + 1 by omega]
      exact en4
    · have lb : b < s.heap.objs.size := by
        rcases List.mem_cons.mp hb with z | z
        · rw [z]; exact in_e
        · rw [List.mem_singleton.mp z]; exact in_j
      rw [upd_ne (Nat.ne_of_lt lb)]
      exact (fps b hb).1
  done := by
    intro X eP eW eK calm i pins s σ H E I fps st go
    subst eP eW eK
    obtain ⟨⟨o1, h1⟩, h2, ej⟩ := st
    obtain ⟨xs, sq, le⟩ := go
    obtain ⟨its, rv, tp, _⟩ := I.tuple sq
    have ll := rv.length
    obtain ⟨f0, f1, f2, f3, f4, f5⟩ := fps j (by simp)
    exact enum_end (I.ok.hd calm) h1 h2 tp (by rw [List.getElem?_toArray]; exact List.getElem?_eq_none (by omega)) fun h' eb => ⟨rfl, I.turned (t' := s.toks) (fun b o hb q => eb b o hb q) f0 f1 f3 f4 f5⟩
  self := fun A i s Q E st h => let ⟨⟨_, he⟩, _⟩ := st; wpAny_pyIter_enum he h
/-- what is a list or a tuple, by any walk that goes through it -/
def iEnumA (K : PySem.W.Frag) (ta : TA) : TI := fun σ H R => ta σ H fun vs H1 => ∃ a xs, vs = [.ref a] ∧ (SqL K H1 a xs ∨ SqT K H1 a xs) ∧ ∀ J G, Walk J xs.length G (YPair (fun i => some (.int (i : Nat))) (fun i => xs[i]?)) → (∀ H, Same H1 H → G H) → R J H1
theorem walk_enumT {K : PySem.W.Frag} {a : Addr} {xs : List V} : Walk (IteT K a) xs.length (fun H => SqT K H a xs) (YPair (fun i => some (.int (i : Nat))) (fun i => xs[i]?)) := by
  refine ⟨fun i _ lt q => ⟨xs, xs[i], q, List.getElem?_eq_getElem lt⟩, fun _ q => ⟨xs, q, Nat.le_refl _⟩, fun i H v H' _ q y => ?_⟩
  obtain ⟨T, x, h1, h2, h3, h4⟩ := y
  exact ⟨T, .int (i : Nat), x, h1, h2, h3, rfl, h4 xs q⟩
theorem seqL {K : PySem.W.Frag} {H H' : Hp} {a : Addr} {xs : List V} (s : Same H H') (h : SqL K H a xs) : SqL K H' a xs := s.seq h
theorem seqT {K : PySem.W.Frag} {H H' : Hp} {a : Addr} {xs : List V} (s : Same H H') (h : SqT K H a xs) : SqT K H' a xs := WR.Same.seqT s h
theorem pi_enumA {X : Cx} {K : PySem.W.Frag} {e : Expr} {ta : TA} {p pos tpos : Pos} {elts : List Expr} {kk : Nat} (hK : X.K = K) (hg : Gl X "enumerate") (hm : X.mg "enumerate" = none) (ha : PA X [e] ta) (one : starEach [e] X.env = [(false, eval e X.env)] := by rfl) :
    PI X (.Tuple elts kk tpos) (.Call (.Name "enumerate" p) [e] [] pos) (iEnumA K ta) := by
  subst hK
  refine ⟨fun pins s σ H R I h => ?_⟩
  refine Call_ (ld_blt I hg hm boot_enumerate (PyProof.Rows.callWith_type1 (thn (ha.run pos pins s σ H _ I h) fun us s1 ⟨vs, H1, I1, rv, q1⟩ => ?_) one rfl))
  obtain ⟨a, xs, ex, sq, k⟩ := q1
  subst ex
  obtain ⟨u, rfl, ru⟩ := vals1 rv
  cases ru
  have free : ∀ b ∈ [s1.heap.objs.size + 1, s1.heap.objs.size], FpOk X pins H1 b := fun b hb => by
    have ge : s1.heap.objs.size ≤ b := by
      rcases List.mem_cons.mp hb with z | z
      · rw [z]; exact Nat.le_succ _
      · rw [List.mem_singleton.mp z]; exact Nat.le_refl _
    exact I1.fpOk ge (I1.hok.fresh ge)
  rcases sq with sq | sq
  · obtain ⟨its, rw_, pl, _⟩ := I1.list sq
    refine call_enumerate_list pl.isList fun h2 en at_ _ kp => wpAny_pyIter_enum en ?_
    exact ⟨s1.heap.objs.size + 1, [s1.heap.objs.size + 1, s1.heap.objs.size], _, _, H1, rfl, I1.kept (t' := s1.toks) kp, turn_enum a (s1.heap.objs.size + 1) s1.heap.objs.size, ⟨⟨.none, en⟩, at_, Nat.succ_ne_self _⟩, free, k _ _ walk_enum fun _ z => seqL z sq⟩
  · obtain ⟨its, rw_, tp, _⟩ := I1.tuple sq
    refine call_enum (begins_tuple a its.toArray) tp fun sz en => wpAny_pyIter_enum en ?_
    have kp : ∀ b o, s1.heap.get? b = some o → ((s1.heap.push { cls := .type "tuple_iterator", data := .fields #[.ref a, .int 0 0] }).push (enObj s1.heap.objs.size)).get? b = some o := fun b o z => Heap.get?_push_of_some _ (Heap.get?_push_of_some _ z)
    exact ⟨s1.heap.objs.size + 1, [s1.heap.objs.size + 1, s1.heap.objs.size], _, _, H1, rfl, I1.kept (t' := s1.toks) kp, turn_enumT a (s1.heap.objs.size + 1) s1.heap.objs.size, ⟨⟨.none, en⟩, ⟨_, Heap.get?_push_of_some _ (Heap.get?_push_size _ rfl), rfl, rfl⟩, Nat.succ_ne_self _⟩, free, k _ _ walk_enumT fun _ z => seqT z sq⟩
/-- a walk through what is a list or a tuple -/
def iSeqA (K : PySem.W.Frag) (te : TE) : TI := fun σ H R => te σ H fun x H1 => ∃ a xs, x = .ref a ∧ (SqL K H1 a xs ∨ SqT K H1 a xs) ∧ ∀ J G, Walk J xs.length G (YAt xs) → (∀ H, Same H1 H → G H) → R J H1
theorem pi_seqA {X : Cx} {K : PySem.W.Frag} {tg e : Expr} {te : TE} (hK : X.K = K) (he : PE X e te) : PI X tg e (iSeqA K te) := by
  subst hK
  refine ⟨fun pins s σ H R I h => ?_⟩
  refine thn (he.run pins s σ H _ I h) fun v s1 ⟨x, H1, I1, rx, q1⟩ => ?_
  obtain ⟨a, xs, ex, sq, k⟩ := q1
  subst ex
  cases rx
  have free : ∀ b ∈ [s1.heap.objs.size], FpOk X pins H1 b := fun b hb => by
    rw [List.mem_singleton.mp hb]
    exact I1.fpOk (Nat.le_refl _) (I1.hok.fresh (Nat.le_refl _))
  rcases sq with sq | sq
  · obtain ⟨its, _, pl, _⟩ := I1.list sq
    exact wpAny_pyIter_list pl.isList ⟨s1.heap.objs.size, [s1.heap.objs.size], _, _, H1, rfl, I1.kept (t' := s1.toks) fun b o e => Heap.get?_push_of_some _ e, turn_list a _, ⟨_, Heap.get?_push_size _ rfl, rfl, rfl⟩, free, k _ _ walk_list fun _ z => seqL z sq⟩
  · obtain ⟨its, _, pl, _⟩ := I1.tuple sq
    exact wpAny_pyIter_tuple (show s1.heap.IsTuple a its.toArray from pl) ⟨s1.heap.objs.size, [s1.heap.objs.size], _, _, H1, rfl, I1.kept (t' := s1.toks) fun b o e => Heap.get?_push_of_some _ e, turn_tuple a _, ⟨_, Heap.get?_push_size _ rfl, rfl, rfl⟩, free, k _ _ walk_tup fun _ z => seqT z sq⟩
/-- an item of what is a list or a tuple -/
def rIxA (K : PySem.W.Frag) : R2 := fun x y H Q => ∃ p xs i v, x = .ref p ∧ y = .int i ∧ (SqL K H p xs ∨ SqT K H p xs) ∧ atI xs i = some v ∧ Q v H
theorem ixA {X : Cx} {K : PySem.W.Frag} (hK : X.K = K) : IxR X (rIxA K) := by
  subst hK
  intro value slice pins s σ H x y v u Q I rx ry ⟨p, xs, i, w, e1, e2, sq, at_, q⟩ hs
  rcases sq with sq | sq
  · exact ix_list value slice pins s σ H x y v u Q I rx ry ⟨p, xs, i, w, e1, e2, sq, at_, q⟩ hs
  · exact ix_tup value slice pins s σ H x y v u Q I rx ry ⟨p, xs, i, w, e1, e2, sq, at_, q⟩ hs
end WE
set_option Elab.async false
set_option linter.all false
set_option maxRecDepth 100000
set_option maxHeartbeats 1000000
namespace W17
open PySem L2 PySem.Spec PyProof.Rows WR WB WE
/-! ### the corners of a sewing -/
/-- the place behind the mate of a place -/
def nxt (nx mt : List Int) (p : Nat) : Nat := (nx.getD (mt.getD p 0).toNat 0).toNat
/-- on from place to place until one was seen: all that were seen, and those of this corner -/
def orb (nx mt : List Int) : Nat → List Nat → Nat → List Nat → List Nat × List Nat
  | 0, s, _, c => (s, c)
  | k + 1, s, p, c => if p ∈ s then (s, c) else orb nx mt k (p :: s) (nxt nx mt p) (c ++ [p])
def crn (nx mt : List Int) (n : Nat) : Nat → List Nat × List (List Nat)
  | 0 => ([], [])
  | i + 1 => ((orb nx mt (n + 1) (crn nx mt n i).1 i []).1, if (orb nx mt (n + 1) (crn nx mt n i).1 i []).2 = [] then (crn nx mt n i).2 else (crn nx mt n i).2 ++ [(orb nx mt (n + 1) (crn nx mt n i).1 i []).2])
def nats (c : List Nat) : List Int := c.map fun (x : Nat) => (x : Int)
def SeenAt (w : World) (H : Hp) (a : Addr) (s : List Nat) : Prop := ∃ f : Int → Bool, H a = some (SetO w a f s.length) ∧ ∀ j, f j = true ↔ j ∈ nats s
/-- seen places: each once, none too great -/
def SeenOk (n : Nat) (s : List Nat) : Prop := s.Nodup ∧ ∀ x ∈ s, x < n
theorem SeenOk.lt {n : Nat} {s : List Nat} (h : SeenOk n s) {p : Nat} (hp : p < n) (hn : p ∉ s) : s.length < n := by
  have := L2.nat_nodup_len (p :: s) (List.range n) (List.nodup_cons.mpr ⟨hn, h.1⟩) fun x hx => by
    rcases List.mem_cons.mp hx with rfl | hx
    · exact List.mem_range.mpr hp
    · exact List.mem_range.mpr (h.2 x hx)
  rw [List.length_range, List.length_cons] at this
  omega
theorem nxF_rng : ∀ (ws : List (List Int)) (f : Nat), (∀ w ∈ ws, w ≠ []) → ∀ z ∈ nxF f ws, 0 ≤ z ∧ z < ((f + ws.flatten.length : Nat) : Int)
  | [], _, _, z, hz => nomatch hz
  | w :: r, f, hne, z, hz => by
    unfold nxF at hz
    rw [List.flatten_cons, List.length_append]
    rcases List.mem_append.mp hz with hz | hz
    · obtain ⟨t, ht, rfl⟩ := List.mem_map.mp hz
      have hl : 0 < w.length := List.length_pos_iff.mpr (hne w List.mem_cons_self)
      have := Nat.mod_lt (t + 1) hl
      omega
    · have := nxF_rng r (f + w.length) (fun u hu => hne u (List.mem_cons_of_mem _ hu)) z hz
      omega
def CornAt (K : PySem.W.Frag) (H : Hp) (a : Addr) (cs : List (List Nat)) : Prop := ∃ vs, SqB K H a vs ∧ All2 (fun v c => ∃ q, v = V.ref q ∧ SqB K H q (iv (nats c))) vs cs
abbrev sCorn : Stmt := top 59
abbrev nCorn : List Str := ["rims", "mates", "corners", "seen", "start", "corner", "place"]
def MatesOk (n : Nat) (mt : List Int) : Prop := mt.length = n ∧ ∀ z ∈ mt, 0 ≤ z ∧ z < (n : Int)
def spCorn (K : PySem.W.Frag) (C CR : Addr) : Sp := fun vs H Q _ => ∃ (p m : Addr) (xs : List Addr) (ws : List (List Int)) (mt : List Int), vs = [.ref p, .ref m] ∧ RimsAt K C CR H p xs ws ∧ RimOk ws ∧ SqE K H m (iv mt) ∧ MatesOk ws.flatten.length mt ∧
  ∀ q H', Same H H' → CornAt K H' q (crn (nxF 0 ws) mt ws.flatten.length ws.flatten.length).2 → Q (.ref q) H'
theorem SqB.keptL {K : PySem.W.Frag} {H H' : Hp} {l q : Addr} {vs xs : List V} (hl : H l = some (.lst vs)) (d : Kept l H H') (h : SqB K H q xs) : SqB K H' q xs := by
  refine ⟨SqT.keptL hl d h.sq, ?_⟩
  obtain ⟨o, u, e, z⟩ := h.bare
  refine ⟨o, u, d _ _ (fun c => ?_) e, z⟩
  subst c
  rw [hl] at e
  cases e
theorem SqB.keptS {K : PySem.W.Frag} {w : World} {H H' : Hp} {a q : Addr} {f : Int → Bool} {n : Nat} {xs : List V} (hs : H a = some (SetO w a f n)) (d : Kept a H H') (h : SqB K H q xs) : SqB K H' q xs := by
  obtain ⟨o, u, e, z⟩ := h.bare
  have nq : q ≠ a := fun c => by
    rw [c, hs] at e
    cases e
  refine ⟨?_, ⟨o, u, d _ _ nq e, z⟩⟩
  exact h.sq.elim (fun r => .inl (r.elim (fun r => .inl (d _ _ nq r)) fun ⟨o, r⟩ => .inr ⟨o, d _ _ nq r⟩)) fun r => .inr r
theorem orb_in {nx mt : List Int} {k p : Nat} {s c : List Nat} (hk : 0 < k) (h : p ∈ s) : orb nx mt k s p c = (s, c) := by
  cases k with
  | zero => exact absurd hk (by decide)
  | succ k => unfold orb; rw [if_pos h]
theorem orb_out {nx mt : List Int} {k p : Nat} {s c : List Nat} (h : p ∉ s) : orb nx mt (k + 1) s p c = orb nx mt k (p :: s) (nxt nx mt p) (c ++ [p]) := by
  conv => lhs; unfold orb
  rw [if_neg h]
section
variable {P : Program} {w : World} {K : PySem.W.Frag} {mg : Str → Option Value} {base : Heap} {C CR : Addr}
theorem scCorn : FnScope nCorn ["rims", "mates"] (defScope sCorn) := ⟨rfl, rfl, rfl, by decide +kernel, rfl, by decide +kernel, by decide +kernel⟩
theorem ok_corn {f : Addr} {fd : FuncData} (F : Fun K "corners_of" "corners_of" sCorn f fd) (TC : TxRC K mg CR) (TA : TxA mg) (R : TxR mg) (hset : mg "set" = none) : FnOk P w K mg base CX0 1 f fd ["rims", "mates"] (spCorn K C CR) := by
  refine F.ok scCorn (fun vs H Q E h => ?_) (fun cdv A outer s H vs Q E hr h => ?_)
  · obtain ⟨p, m, xs, ws, mt, rfl, _⟩ := h
    rfl
  · obtain ⟨p, m, xs, ws, mt, rfl, R1, ⟨l1, l4, hne, l24, hl, hb⟩, hM, ⟨lm, hm⟩, k⟩ := h
    refine ⟨_, pss_cons (ps_set (i := 2) scCorn.nd rfl (Or.inl rfl) (pe_lst pa_nil))
      (pss_cons (ps_set (i := 3) scCorn.nd rfl (Or.inl rfl) (pe_callTy0 cr_set0 (by rfl) hset (by decide +kernel)))
      (pss_cons (ps_for PassesOwn.never rfl (pi_range1 (by rfl) R.range (pa_cons (pe_fld (pv 0) rfl) pa_nil)) (pg_name (i := 4) scCorn.nd rfl (Or.inl rfl))
        (pss_cons (ps_set (i := 5) scCorn.nd rfl (Or.inl rfl) (pe_lst pa_nil))
        (pss_cons (ps_set (i := 6) scCorn.nd rfl (Or.inl rfl) (pv 4))
        (pss_cons (ps_while PassesOwn.never (pt_cmpR or_snotin (pv 6) (pv 3) (by rfl))
          (pss_cons (ps_expr (pe_sadd (pv 3) (pa_cons (pv 6) pa_nil)))
          (pss_cons (ps_expr (pe_bm PySem.F.plainAttrs_list PySem.F.slot_list_append PySem.F.type_list_append mt_append (pv 5) (pa_cons (pv 6) pa_nil)))
          (pss_one (ps_set (i := 6) scCorn.nd rfl (Or.inl rfl) (pe_ix ix_tup (pe_fld (pv 0) rfl) (pe_ix (ixA (K := K) rfl) (pv 1) (pv 6) (fun _ _ => rfl)) (fun _ _ => rfl)))))))
        (pss_one (ps_if (pt_truth (pv 5) (by intro _; rfl)) (pss_one (ps_expr (pe_bm PySem.F.plainAttrs_list PySem.F.slot_list_append PySem.F.type_list_append mt_append (pv 2) (pa_cons (pe_callTy call_tupB (by rfl) TA.tuple (by decide +kernel) (pa_cons (pv 5) pa_nil)) pa_nil)))) pss_nil))))))
      (pss_one (ps_ret (pe_callTy call_tupB (by rfl) TA.tuple (by decide +kernel) (pa_cons (pv 2) pa_nil)))))), ?_⟩
    obtain ⟨dx, tw, tl, th, tn, h1, h2, h3, h4, h5, h6⟩ := id R1
    obtain ⟨n, en⟩ : ∃ n, n = ws.flatten.length := ⟨_, rfl⟩
    rw [← en] at lm hm k l24
    have hnx : (nxF 0 ws).length = n := by rw [nxF_len, en]
    refine ⟨Nat.zero_le _, fun lc hlc => ?_⟩
    have s1 := same_upd (o := .lst []) hlc
    refine ⟨rfl, fun ss hss => ?_⟩
    have s2 := s1.trans (same_upd (o := SetO w ss (fun _ => false) 0) hss)
    have nss : H ss = none := s1.free hss
    have ncs : lc ≠ ss := fun e => by rw [← e, upd_same] at hss; cases hss
    have gc : L2.upd (L2.upd H lc (.lst [])) ss (SetO w ss (fun _ => false) 0) lc = some (.lst []) := by rw [upd_ne ncs, upd_same]
    have gs : L2.upd (L2.upd H lc (.lst [])) ss (SetO w ss (fun _ => false) 0) ss = some (SetO w ss (fun _ => false) 0) := upd_same
    refine ⟨_, rfl, p, CR, dx, _, _, rfl, s2 _ _ h1, TC.cl, TC.n3, rf_many, _, rfl, by omega, by omega, ?_⟩
    rw [← en]
    refine for_range (lo := 0) (n := ((n : Nat) : Int).toNat) (fun i σ H' => ∃ (v4 v5 v6 : Option V) (vs : List V), σ = [some (.ref p), some (.ref m), some (.ref lc), some (.ref ss), v4, v5, v6] ∧ Same H H' ∧ SeenAt w H' ss (crn (nxF 0 ws) mt n i).1 ∧ SeenOk n (crn (nxF 0 ws) mt n i).1 ∧ H' lc = some (.lst vs) ∧ vs.length ≤ i ∧
        All2 (fun v c => ∃ q, v = V.ref q ∧ SqB K H' q (iv (nats c))) vs (crn (nxF 0 ws) mt n i).2)
      ⟨none, none, none, [], rfl, s2, ⟨fun _ => false, gs, fun j => by simp [crn, nats]⟩, ⟨List.nodup_nil, fun _ h => nomatch h⟩, gc, Nat.le_refl _, .nil⟩ ?_ ?_
    · rintro i σ H3 hi ⟨v4, v5, v6, vs, rfl, sm, hse, hso, hlcs, lvs, hcs⟩
      rw [Int.toNat_natCast] at hi
      refine ⟨Nat.zero_le _, fun lk hlk => ?_⟩
      have kss : ss ≠ lk := fun e => by
        obtain ⟨f, hf, _⟩ := hse
        rw [e, hlk] at hf
        cases hf
      have nlk : H lk = none := sm.free hlk
      refine ⟨_, rfl, ?_⟩
      refine while_by (fun σ H4 => ∃ (k pl : Nat) (s c : List Nat), σ = [some (.ref p), some (.ref m), some (.ref lc), some (.ref ss), some (.int (0 + (i : Nat))), some (.ref lk), some (.int (pl : Int))] ∧ Kept ss H3 H4 ∧ SeenAt w H4 ss s ∧ SeenOk n s ∧ pl < n ∧ H4 lk = some (.lst (iv (nats c))) ∧ c.length ≤ s.length ∧
          orb (nxF 0 ws) mt k s pl c = orb (nxF 0 ws) mt (n + 1) (crn (nxF 0 ws) mt n i).1 i [] ∧ n - s.length < k)
        (fun _ H4 => match H4 lk with | some (.lst xs) => n + 1 - xs.length | _ => 0) ?_ ?_ ?_
      · refine ⟨n + 1, i, (crn (nxF 0 ws) mt n i).1, [], by rw [Int.zero_add]; rfl, fun b o nb e => by rw [upd_ne (ne_of_none e hlk)]; exact e, ?_, hso, hi, upd_same, Nat.zero_le _, rfl, by omega⟩
        obtain ⟨f, hf, hj⟩ := hse
        exact ⟨f, by rw [upd_ne kss]; exact hf, hj⟩
      · rintro σ H4 ⟨kk, pl, s, c, rfl, kp, ⟨f, hf, hj⟩, hok, hpl, hL, lcs, eo, hkk⟩
        have sm4 : Same H H4 := fun b o e => kp b o (fun z => by rw [z, nss] at e; cases e) (sm _ _ e)
        refine ⟨_, rfl, _, rfl, (pl : Int), ss, f, s.length, rfl, rfl, hf, _, rfl, ?_⟩
        have fpl : f (pl : Int) = true ↔ pl ∈ s := by
          rw [hj]
          unfold nats
          rw [List.mem_map]
          constructor
          · rintro ⟨x, hx, e⟩
            have : x = pl := by omega
            exact this ▸ hx
          · intro h
            exact ⟨pl, h, rfl⟩
        by_cases hin : pl ∈ s
        · refine iteF' (by rw [fpl.mpr hin]; rfl) ?_
          rw [orb_in (by omega) hin] at eo
          have f1 : (crn (nxF 0 ws) mt n (i + 1)).1 = s := by
            show (orb (nxF 0 ws) mt (n + 1) (crn (nxF 0 ws) mt n i).1 i []).1 = s
            rw [← eo]
          have f2 : (crn (nxF 0 ws) mt n (i + 1)).2 = if c = [] then (crn (nxF 0 ws) mt n i).2 else (crn (nxF 0 ws) mt n i).2 ++ [c] := by
            show (if (orb (nxF 0 ws) mt (n + 1) (crn (nxF 0 ws) mt n i).1 i []).2 = [] then _ else _ ++ [(orb (nxF 0 ws) mt (n + 1) (crn (nxF 0 ws) mt n i).1 i []).2]) = _
            rw [← eo]
          have hlc4 := kp _ _ ncs hlcs
          obtain ⟨f0, hf0, _⟩ := hse
          have hcs4 : All2 (fun v c => ∃ q, v = V.ref q ∧ SqB K H4 q (iv (nats c))) vs (crn (nxF 0 ws) mt n i).2 := hcs.imp fun _ _ ⟨a, e, r⟩ => ⟨a, e, SqB.keptS hf0 kp r⟩
          refine ⟨_, rfl, _, .inl ⟨_, SqL.of hL, rfl⟩, ?_⟩
          by_cases hc : c = []
          · subst hc
            refine iteF ?_
            refine ⟨_, _, _, vs, rfl, sm4, ?_, ?_, hlc4, by omega, ?_⟩
            · rw [f1]
              exact ⟨f, hf, hj⟩
            · rw [f1]
              exact hok
            · rw [f2, if_pos rfl]
              exact hcs4
          · have hne' : (iv (nats c)).isEmpty = false := by
              cases c with
              | nil => exact absurd rfl hc
              | cons => rfl
            refine iteT' (by rw [hne']; rfl) ?_
            refine ⟨_, rfl, .inl ⟨rfl, _, SqL.of hlc4⟩, _, rfl, lk, _, rfl, .inl ⟨SqL.of hL, fun q H5 s5 B5 => ?_⟩⟩
            have hlc5 := s5 _ _ hlc4
            refine ⟨lc, _, _, rfl, rfl, hlc5, Evl.sz_lt (by omega), ?_⟩
            have kc : Kept lc H5 (L2.upd H5 lc (.lst (vs ++ [.ref q]))) := Kept.upd
            refine ⟨_, _, _, vs ++ [.ref q], rfl, same_put (sm4.trans s5) hlc, ?_, ?_, upd_same, by rw [List.length_append]; show vs.length + 1 ≤ i + 1; omega, ?_⟩
            · rw [f1]
              exact ⟨f, kc _ _ ncs.symm (s5 _ _ hf), hj⟩
            · rw [f1]
              exact hok
            · rw [f2, if_neg hc]
              refine All2.app (hcs4.imp fun _ _ ⟨a, e, r⟩ => ⟨a, e, SqB.keptL hlc5 kc (SqB.same s5 r)⟩) (.cons ⟨q, rfl, SqB.keptL hlc5 kc B5⟩ .nil)
        · have ff : f (pl : Int) = false := by
            cases e : f (pl : Int) with
            | false => rfl
            | true => exact absurd (fpl.mp e) hin
          have hsl := hok.lt hpl hin
          refine iteT' (by rw [ff]; rfl) ?_
          refine ⟨_, rfl, ⟨ss, f, _, rfl, hf⟩, _, rfl, ss, (pl : Int), f, s.length, rfl, rfl, hf, ?_, ?_⟩
          · exact Nat.lt_of_le_of_lt (show s.length + 1 ≤ 64 by omega) (by decide)
          rw [ff]
          have hL5 : L2.upd H4 ss (SetO w ss (fun j => f j || decide (j = (pl : Int))) (s.length + 1)) lk = some (.lst (iv (nats c))) := by
            rw [upd_ne kss.symm]
            exact hL
          have kp5 : Kept ss H3 (L2.upd H4 ss (SetO w ss (fun j => f j || decide (j = (pl : Int))) (s.length + 1))) := kp.trans Kept.upd
          have hs5 : L2.upd H4 ss (SetO w ss (fun j => f j || decide (j = (pl : Int))) (s.length + 1)) ss = some (SetO w ss (fun j => f j || decide (j = (pl : Int))) (s.length + 1)) := upd_same
          obtain ⟨H5, e5⟩ : ∃ H5, H5 = L2.upd H4 ss (SetO w ss (fun j => f j || decide (j = (pl : Int))) (s.length + 1)) := ⟨_, rfl⟩
          try dsimp only
          rw [if_neg Bool.false_ne_true]
          show tSeq _ _ _ _ (L2.upd H4 ss (SetO w ss (fun j => f j || decide (j = (pl : Int))) (s.length + 1)))
          rw [← e5]
          rw [← e5] at hL5 kp5 hs5
          refine ⟨_, rfl, .inl ⟨rfl, _, SqL.of hL5⟩, _, rfl, lk, _, _, rfl, rfl, hL5, Evl.sz_lt (by unfold nats; rw [List.length_map, List.length_map]; omega), ?_⟩
          have kp6 : Kept ss H3 (L2.upd H5 lk (.lst (iv (nats c) ++ [.int (pl : Int)]))) := fun b o nb e => by
            rw [upd_ne (ne_of_none e hlk)]
            exact kp5 b o nb e
          have hs6 : L2.upd H5 lk (.lst (iv (nats c) ++ [.int (pl : Int)])) ss = some (SetO w ss (fun j => f j || decide (j = (pl : Int))) (s.length + 1)) := by
            rw [upd_ne kss]
            exact hs5
          have hL6 : L2.upd H5 lk (.lst (iv (nats c) ++ [.int (pl : Int)])) lk = some (.lst (iv (nats (c ++ [pl])))) := by
            rw [upd_same]
            unfold iv nats
            rw [List.map_append, List.map_append]
            rfl
          obtain ⟨H6, e6⟩ : ∃ H6, H6 = L2.upd H5 lk (.lst (iv (nats c) ++ [.int (pl : Int)])) := ⟨_, rfl⟩
          rw [← e6] at kp6 hs6 hL6 ⊢
          have sm6 : Same H H6 := fun b o e => kp6 b o (fun z => by rw [z, nss] at e; cases e) (sm _ _ e)
          have lpm : pl < mt.length := by omega
          obtain ⟨m0, m1⟩ := hm _ (List.getElem_mem lpm)
          have lmn : mt[pl].toNat < (nxF 0 ws).length := by omega
          obtain ⟨x0, x1⟩ := nxF_rng ws 0 hne _ (List.getElem_mem lmn)
          rw [Nat.zero_add, ← en] at x1
          have enx : nxt (nxF 0 ws) mt pl = ((nxF 0 ws)[mt[pl].toNat]).toNat := by
            unfold nxt
            rw [List.getD_eq_getElem?_getD, List.getD_eq_getElem?_getD, List.getElem?_eq_getElem lpm]
            show ((nxF 0 ws)[mt[pl].toNat]?.getD 0).toNat = _
            rw [List.getElem?_eq_getElem lmn]
            rfl
          have em : mt[pl] = ((mt[pl].toNat : Nat) : Int) := by omega
          refine ⟨_, rfl, p, CR, dx, _, _, rfl, sm6 _ _ h1, TC.cl, TC.n7, rf_nexts, _, rfl, _, rfl, m, _, _, _, rfl, rfl, hM.same sm6, atI_nat (iv_get (List.getElem?_eq_getElem lpm)), tn, _, _, _, rfl, rfl, (SqB.same sm6 h6).sq, (by rw [em]; exact atI_nat (iv_get (List.getElem?_eq_getElem lmn))), ?_⟩
          refine at_set ?_
          obtain ⟨k', rfl⟩ : ∃ k', kk = k' + 1 := ⟨kk - 1, by omega⟩
          have eo' := (orb_out hin).symm.trans eo
          have ex : ((nxt (nxF 0 ws) mt pl : Nat) : Int) = (nxF 0 ws)[mt[pl].toNat] := by
            rw [enx]
            omega
          refine ⟨⟨k', nxt (nxF 0 ws) mt pl, pl :: s, c ++ [pl], by rw [ex]; rfl, kp6, ⟨_, hs6, fun j => ?_⟩, ⟨List.nodup_cons.mpr ⟨hin, hok.1⟩, fun x hx => ?_⟩, by omega, hL6, ?_, eo', ?_⟩, ?_⟩
          · rw [Bool.or_eq_true, decide_eq_true_eq, hj]
            show _ ↔ j ∈ (pl : Int) :: nats s
            rw [List.mem_cons]
            exact or_comm
          · rcases List.mem_cons.mp hx with rfl | hx
            · exact hpl
            · exact hok.2 x hx
          · rw [List.length_append, List.length_cons]
            show c.length + 1 ≤ s.length + 1
            omega
          · rw [List.length_cons]
            omega
          · show (match H6 lk with | some (.lst xs) => n + 1 - xs.length | _ => 0) < (match H4 lk with | some (.lst xs) => n + 1 - xs.length | _ => 0)
            rw [hL6, hL]
            show n + 1 - (iv (nats (c ++ [pl]))).length < n + 1 - (iv (nats c)).length
            unfold iv nats
            simp only [List.length_map, List.length_append, List.length_cons, List.length_nil]
            omega
      · rintro σ H4 Q Q' hh ⟨v, e1, u, e2, kk, a, S, n', ex, ey, hs, c, ec, q⟩
        exact ⟨v, e1, u, e2, kk, a, S, n', ex, ey, hs, c, ec, hh c H4 q⟩
    · rintro σ H3 ⟨v4, v5, v6, vs, rfl, sm, _, _, hlcs, lvs, hcs⟩
      rw [Int.toNat_natCast] at hcs
      refine ⟨_, rfl, lc, _, rfl, .inl ⟨SqL.of hlcs, fun q H4 s4 B4 => ?_⟩⟩
      exact k q H4 (sm.trans s4) ⟨vs, B4, hcs.imp fun _ _ ⟨a, e, r⟩ => ⟨a, e, SqB.same s4 r⟩⟩
end
end W17
set_option Elab.async false
set_option linter.all false
set_option maxRecDepth 100000
set_option maxHeartbeats 1000000
namespace W17
open PySem L2 PySem.Spec PyProof.Rows WR WB WE
/-! ### mates that are mates -/
abbrev sAreI : Stmt := top 20
abbrev sPaired : Stmt := top 22
abbrev sAreM : Stmt := top 58
abbrev sNeedR : Stmt := top 49
/-- each place and its mate are mates of one another, and not the same -/
def PairOk (n : Nat) (mt : List Int) : Prop := MatesOk n mt ∧ ∀ i (h : i < mt.length), mt[i] ≠ (i : Int) ∧ mt[mt[i].toNat]? = some (i : Int)
/-- mates bear contrary letters -/
def MatOk (ls mt : List Int) : Prop := PairOk ls.length mt ∧ ∀ i (h : i < mt.length), ls.getD mt[i].toNat 0 = -ls.getD i 0
def spAreI (K : PySem.W.Frag) : Sp := fun vs H Q _ => ∃ (a : Addr) (ns : List Int), vs = [.ref a] ∧ SqE K H a (iv ns) ∧ ns.length ≤ 1000 ∧ ∀ H', Same H H' → Q (.bl true) H'
def spPaired (K : PySem.W.Frag) : Sp := fun vs H Q _ => ∃ (a : Addr) (mt : List Int) (n : Nat), vs = [.ref a, .int (n : Int)] ∧ SqE K H a (iv mt) ∧ n ≤ 1000 ∧ PairOk n mt ∧ ∀ H', Same H H' → Q (.bl true) H'
def spAreM (K : PySem.W.Frag) : Sp := fun vs H Q _ => ∃ (l a : Addr) (ls mt : List Int), vs = [.ref l, .ref a] ∧ SqB K H l (iv ls) ∧ SqE K H a (iv mt) ∧ ls.length ≤ 1000 ∧ MatOk ls mt ∧ ∀ H', Same H H' → Q (.bl true) H'
def spNeedR (K : PySem.W.Frag) (C CR : Addr) : Sp := fun vs H Q _ => ∃ (p : Addr) (z : V) (xs : List Addr) (ws : List (List Int)), vs = [.ref p, z] ∧ RimsAt K C CR H p xs ws ∧ Q .non H
theorem nx_ret_lc {r : List V → Hp → VK → Prop} {wi : TI} {g : TG} {tt : TT} {te : TE} {vs : List Nat} {D : Ends} {σ : L2.St} {H : Hp} {b1 b2 : L2.St → Hp → Prop} {rt : VK}
    (h : wi σ H fun J H1 => tLc (fun _ H R => R J H) g tt te vs σ H1 fun y H2 => r [y] H2 D.rt) : tNext { nx := tRet (tCB r (tCons (tLc wi g tt te vs) tNil)) D, rt := rt, bk := b1, ct := b2 } σ H := h
theorem lcE {J : It} {G : Hp → Prop} {xs : List V} (wk : Walk J xs.length G (YPair (fun i => some (.int (i : Nat))) (fun i => xs[i]?))) {g : TG} {tt : TT} {te : TE} {vs : List Nat} {σ : L2.St} {H1 : Hp} {Q : VK} (f : Nat → Bool) (v : Nat → V) (hz : xs.length < 40000) (hG : ∀ H, Same H1 H → G H)
    (hs : ∀ i x, xs[i]? = some x → ∀ H, Same H1 H → ∀ T, H T = none → ∀ (Qy : V → Hp → Prop) (Qn : Hp → Prop), (f i = true → ∀ H', Same H H' → Qy (v i) H') → (f i = false → ∀ H', Same H H' → Qn H') →
      g (.ref T) (wipe σ vs) (L2.upd H T (.tup [.int (i : Nat), x])) fun σ2 H2 => wipe σ2 vs = wipe σ vs ∧ tt σ2 H2 fun b H3 => if b = true then te σ2 H3 Qy else Qn H3)
    (hd : ∀ (D : Addr) H', H1 D = none → Same H1 H' → H' D = some (.lst (((List.range xs.length).filter f).map v)) → Q (.ref D) H') : tLc (fun _ H R => R J H) g tt te vs σ H1 Q := by
  intro D hD
  refine lc_it wk (fun i H => Same H1 H ∧ H D = some (.lst (((List.range i).filter f).map v))) ⟨fun b o e => by rw [upd_ne (ne_of_none e hD)]; exact e, upd_same⟩ (fun i H _ q => hG _ q.1) ?_ ?_
  · rintro i x H H' hi q ⟨T, y1, y2, rfl, hT, rfl, e1, hx⟩
    cases e1
    refine hs i y2 hx H q.1 T hT _ _ (fun hf H2 s2 => ⟨_, s2 _ _ q.2, ?_, ?_, ?_⟩) (fun hf H2 s2 => ⟨fun b o e => s2 b o (q.1 b o e), ?_⟩)
    · refine Evl.sz_lt ?_
      rw [List.length_map]
      have := List.length_filter_le f (List.range i)
      rw [List.length_range] at this
      omega
    · intro b o e
      rw [upd_ne (ne_of_none e hD)]
      exact s2 b o (q.1 b o e)
    · rw [upd_same, List.range_succ, List.filter_append, List.map_append, List.filter_cons, if_pos hf]
      rfl
    · rw [List.range_succ, List.filter_append, List.filter_cons, if_neg (by rw [hf]; decide)]
      show H2 D = some (.lst (((List.range i).filter f ++ []).map v))
      rw [List.append_nil]
      exact s2 _ _ q.2
  · intro H q
    exact hd D H hD q.1 q.2
theorem ixt {X : Cx} {K : PySem.W.Frag} (h : X.K = K) : IxR X (rIxT K) := h ▸ ix_tup
section
variable {P : Program} {w : World} {K : PySem.W.Frag} {mg : Str → Option Value} {base : Heap} {C CR : Addr}
theorem scNeedR : FnScope ["value", "part"] ["value", "part"] (defScope sNeedR) := ⟨rfl, rfl, rfl, by decide +kernel, rfl, by decide +kernel, by decide +kernel⟩
theorem ok_needR {f : Addr} {fd : FuncData} (F : Fun K "need_rims" "need_rims" sNeedR f fd) (T : TxW K mg C) (TC : TxRC K mg CR) : FnOk P w K mg base CX0 1 f fd ["value", "part"] (spNeedR K C CR) := by
  refine F.ok scNeedR (fun vs H Q E h => ?_) (fun cdv A outer s H vs Q E hr h => ?_)
  · obtain ⟨p, z, xs, ws, rfl, _⟩ := h
    rfl
  · obtain ⟨p, z, xs, ws, rfl, R1, k⟩ := h
    refine ⟨_, pss_one (ps_if (pt_not (pt_val (pe_callB call_isi (by rfl) T.isin (by decide +kernel) (pa_cons (pv 0) (pa_cons (pe_glob (v := .ref CR) (by rfl) TC.mgR rfl) pa_nil))))) (pss_one ps_never) pss_nil), ?_⟩
    exact ⟨_, rfl, _, _, _, _, _, rfl, .own CR, R1.tyx T TC, kit_self CR, _, rfl, iteF k⟩
theorem scAreI : FnScope ["value", "part"] ["value"] (defScope sAreI) := ⟨rfl, rfl, rfl, by decide +kernel, rfl, by decide +kernel, by decide +kernel⟩
theorem ok_areI {f : Addr} {fd : FuncData} (F : Fun K "are_integers" "are_integers" sAreI f fd) (hall : mg "all" = none) (GL : Cal P w K mg base "is_listed" 1 ["value"] (spListE K)) (GI : Cal P w K mg base "is_integer" 1 ["value"] spIsInt) : FnOk P w K mg base CX0 2 f fd ["value"] (spAreI K) := by
  refine F.ok scAreI (fun vs H Q E h => ?_) (fun cdv A outer s H vs Q E hr h => ?_)
  · obtain ⟨a, ns, rfl, _⟩ := h
    rfl
  · obtain ⟨a, ns, rfl, hA, ln, k⟩ := h
    refine ⟨_, pss_one (ps_ret (pe_and (pe_cal GL hr (by decide) (by rfl) (pa_cons (pv 0) pa_nil)) (pe_one (pe_callB (cr_all rfl) (by rfl) hall (by decide +kernel) (pa_cons (pe_lc (own := [("part", 1)]) (g := gName 1) (tt := tYes) rfl scAreI.nd (pi_seqA (K := K) rfl (pv 0))
      (blkOk_by (N := ["value", "part"]) (sc := defScope sAreI) (by decide +kernel)) (fun _ _ _ _ _ => pg_name (i := 1) scAreI.nd rfl (Or.inl rfl)) (fun _ _ _ _ _ => pts_nil)
      (fun _ _ _ _ _ => pe_cal GI hr (by decide) (by rfl) (pa_cons (pv 1) pa_nil))) pa_nil))))), ?_⟩
    refine ⟨_, rfl, a, _, rfl, hA, fun H1 s1 => ⟨_, rfl, iteT ?_⟩⟩
    refine cb_lc ?_
    refine ⟨_, rfl, a, _, rfl, hA.same s1, fun J G wk hG => ?_⟩
    refine lcp wk (fun _ => true) (fun _ => .bl true) (by rw [List.length_map]; omega) hG ?_ ?_
    · intro x hx H2 s2 Qy Qn ky kn
      obtain ⟨i, hi, rfl⟩ := List.mem_map.mp hx
      exact ⟨rfl, yes_te ⟨_, rfl, .int i, _, rfl, .int i, ky rfl H2 (fun _ _ e => e)⟩⟩
    · intro D H2 hD s2 h2
      refine ⟨D, ns.map fun _ => true, rfl, SqL.of (by
        rw [h2, List.filter_eq_self.mpr (fun _ _ => rfl), List.map_map, List.map_map]
        rfl), ?_⟩
      have e : (ns.map fun _ => true).all id = true := by
        rw [List.all_eq_true]
        intro b hb
        obtain ⟨_, _, rfl⟩ := List.mem_map.mp hb
        rfl
      rw [e]
      exact k H2 (s1.trans s2)
theorem scPaired : FnScope ["value", "many", "place", "mate"] ["value", "many"] (defScope sPaired) := ⟨rfl, rfl, rfl, by decide +kernel, rfl, by decide +kernel, by decide +kernel⟩
theorem ok_paired {f : Addr} {fd : FuncData} (F : Fun K "are_paired" "are_paired" sPaired f fd) (TA : TxA mg) (R : TxR mg) (GI : Cal P w K mg base "are_integers" 2 ["value"] (spAreI K)) : FnOk P w K mg base CX0 3 f fd ["value", "many"] (spPaired K) := by
  refine F.ok scPaired (fun vs H Q E h => ?_) (fun cdv A outer s H vs Q E hr h => ?_)
  · obtain ⟨a, mt, n, rfl, _⟩ := h
    rfl
  · obtain ⟨a, mt, n, rfl, hA, hn, ⟨⟨lm, hm⟩, hp⟩, k⟩ := h
    refine ⟨_, pss_cons (ps_if (PW.pt (pw_or (pt_not (pt_val (pe_cal GI hr (by decide) (by rfl) (pa_cons (pv 0) pa_nil)))) (pw_or1 (pt_cmpR op_ne (pe_callB call_len_seq (by rfl) TA.len PySem.boot_len (pa_cons (pv 0) pa_nil)) (pv 1) (nomark _))))) (pss_one (ps_ret pe_bl)) pss_nil)
      (pss_cons (ps_for PassesOwn.never rfl (pi_enumA (K := K) rfl (by rfl) R.enum (pa_cons (pv 0) pa_nil)) (pg_tup (n := 2) rfl (pgs_cons (pg_name (i := 2) scPaired.nd rfl (Or.inl rfl)) (pgs_cons (pg_name (i := 3) scPaired.nd rfl (Or.inl rfl)) pgs_nil)))
        (pss_one (ps_if (PW.pt (pw_or (pt_not (pt_chain op_le op_lt pe_int (pv 3) (pv 1))) (pw_or (pt_cmpR op_eq (pv 3) (pv 2) (nomark _)) (pw_or1 (pt_cmpR op_ne (pe_ix (ixA (K := K) rfl) (pv 0) (pv 3) (fun _ _ => rfl)) (pv 2) (nomark _)))))) (pss_one (ps_ret pe_bl)) pss_nil)))
      (pss_one (ps_ret pe_bl))), ?_⟩
    refine ⟨_, rfl, a, mt, rfl, hA, by omega, fun H1 s1 => ⟨_, rfl, iteF ?_⟩⟩
    have hA1 := hA.same s1
    refine ⟨_, rfl, a, _, rfl, hA1, _, rfl, rfl, _, rfl, no_ne (decide_eq_true (by rw [List.length_map, lm])) ?_⟩
    refine ⟨_, rfl, a, _, rfl, hA1, fun J G wk hG => ?_⟩
    refine for_it wk (fun i σ H' => ∃ v2 v3 : Option V, σ = [some (.ref a), some (.int (n : Int)), v2, v3] ∧ Same H1 H') ⟨none, none, rfl, Same.refl _⟩ (fun i σ H' _ ⟨_, _, _, s⟩ => hG _ s) ?_ ?_
    · rintro i x σ H3 H4 hi ⟨v2, v3, rfl, sm⟩ ⟨T0, xi, yi, rfl, hT0, rfl, hx, hy⟩
      have hin : i < mt.length := by rw [List.length_map] at hi; exact hi
      obtain rfl := Option.some.inj hx
      have ey : yi = V.int mt[i] := by
        have hy : (iv mt)[i]? = some yi := hy
        rw [List.getElem?_map, List.getElem?_eq_getElem hin] at hy
        exact (Option.some.inj hy).symm
      subst ey
      obtain ⟨z0, z1⟩ := hm _ (List.getElem_mem hin)
      obtain ⟨p0, p1⟩ := hp i hin
      have sT := sm.trans (same_upd (o := .tup [.int (i : Nat), .int mt[i]]) hT0)
      have em : mt[i] = ((mt[i].toNat : Nat) : Int) := by omega
      refine ⟨T0, _, rfl, SqT.of upd_same, rfl, _, _, rfl, _, _, rfl, rfl, ?_⟩
      refine ⟨_, rfl, _, _, rfl, rfl, _, rfl, iteT' (decide_eq_true z0) ⟨_, rfl, _, _, rfl, rfl, _, rfl, no_ne (decide_eq_true z1) ?_⟩⟩
      refine ⟨_, rfl, _, rfl, rfl, _, rfl, iteF' (decide_eq_false fun z => p0 (by injection z)) ?_⟩
      refine ⟨_, rfl, _, rfl, a, _, _, _, rfl, rfl, hA1.same sT, (by rw [em]; exact atI_nat (iv_get p1)), _, rfl, rfl, _, rfl, no_ne (decide_eq_true rfl) ?_⟩
      exact ⟨_, _, rfl, sT⟩
    · rintro σ H' ⟨v2, v3, rfl, sm⟩
      exact k _ (s1.trans sm)
abbrev nAreM : List Str := ["letters", "value", "place", "mate"]
theorem scAreM : FnScope nAreM ["letters", "value"] (defScope sAreM) := ⟨rfl, rfl, rfl, by decide +kernel, rfl, by decide +kernel, by decide +kernel⟩
theorem ok_areM {f : Addr} {fd : FuncData} (F : Fun K "are_mates" "are_mates" sAreM f fd) (TA : TxA mg) (R : TxR mg) (hall : mg "all" = none) (GP : Cal P w K mg base "are_paired" 3 ["value", "many"] (spPaired K)) : FnOk P w K mg base CX0 4 f fd ["letters", "value"] (spAreM K) := by
  refine F.ok scAreM (fun vs H Q E h => ?_) (fun cdv A outer s H vs Q E hr h => ?_)
  · obtain ⟨l, a, ls, mt, rfl, _⟩ := h
    rfl
  · obtain ⟨l, a, ls, mt, rfl, hL, hA, ln, ⟨hp, hm⟩, k⟩ := h
    have lm := hp.1.1
    refine ⟨_, pss_cons (ps_if (pt_not (pt_val (pe_cal GP hr (by decide) (by rfl) (pa_cons (pv 1) (pa_cons (pe_callB call_len_seq (by rfl) TA.len PySem.boot_len (pa_cons (pv 0) pa_nil)) pa_nil))))) (pss_one (ps_ret pe_bl)) pss_nil)
      (pss_one (ps_ret (pe_callB (cr_all rfl) (by rfl) hall (by decide +kernel) (pa_cons (pe_lc (own := [("place", 2), ("mate", 3)]) (g := gTup K 2 (gCons (gName 2) (gCons (gName 3) gNil))) (tt := tYes) rfl scAreM.nd (pi_enumA (K := K) rfl (by rfl) R.enum (pa_cons (pv 1) pa_nil))
        (blkOk_by (N := nAreM) (sc := defScope sAreM) (by decide +kernel)) (fun _ _ _ _ _ => pg_tup (n := 2) rfl (pgs_cons (pg_name (i := 2) scAreM.nd rfl (Or.inl rfl)) (pgs_cons (pg_name (i := 3) scAreM.nd rfl (Or.inl rfl)) pgs_nil))) (fun _ _ _ _ _ => pts_nil)
        (fun _ _ _ _ _ => pe_cmpR op_eq (pe_ix (ixt (K := K) rfl) (pv 0) (pv 3) (fun _ _ => rfl)) (pe_un un_neg (pe_ix (ixt (K := K) rfl) (pv 0) (pv 2) (fun _ _ => rfl))) (nomark _))) pa_nil)))), ?_⟩
    refine ⟨_, rfl, _, rfl, l, _, rfl, .inr hL.sq, a, mt, ls.length, congrArg (fun z => [V.ref a, V.int z]) (by rw [List.length_map]), hA, ln, hp, fun H1 s1 => ⟨_, rfl, iteF ?_⟩⟩
    refine nx_ret_lc ?_
    refine ⟨_, rfl, a, _, rfl, hA.same s1, fun J G wk hG => ?_⟩
    refine lcE wk (fun _ => true) (fun _ => .bl true) (by rw [List.length_map]; omega) hG ?_ ?_
    · intro i x hx H2 s2 T0 hT Qy Qn ky kn
      have hin : i < mt.length := by
        have := (List.getElem?_eq_some_iff.mp hx).1
        rwa [List.length_map] at this
      obtain rfl : x = V.int mt[i] := by
        rw [List.getElem?_map, List.getElem?_eq_getElem hin] at hx
        exact (Option.some.inj hx).symm
      obtain ⟨z0, z1⟩ := hp.1.2 _ (List.getElem_mem hin)
      have sT := same_upd (o := .tup [.int (i : Nat), .int mt[i]]) hT
      have hL2 := (SqB.same ((s1.trans s2).trans sT) hL).sq
      have em : mt[i] = ((mt[i].toNat : Nat) : Int) := by omega
      have l1 : mt[i].toNat < ls.length := by omega
      have l2 : i < ls.length := by omega
      have eq := hm i hin
      rw [List.getD_eq_getElem?_getD, List.getD_eq_getElem?_getD, List.getElem?_eq_getElem l1, List.getElem?_eq_getElem l2] at eq
      have eq : ls[mt[i].toNat] = -ls[i] := eq
      refine ⟨T0, _, rfl, SqT.of upd_same, rfl, _, _, rfl, _, _, rfl, rfl, ?_⟩
      refine ⟨rfl, yes_te ?_⟩
      refine ⟨_, rfl, _, rfl, l, _, _, _, rfl, rfl, hL2, (by rw [em]; exact atI_nat (iv_get (List.getElem?_eq_getElem l1))), _, rfl, _, rfl, l, _, _, _, rfl, rfl, hL2, atI_nat (iv_get (List.getElem?_eq_getElem l2)), _, rfl, rfl, ?_⟩
      have e : decide (V.int ls[mt[i].toNat] = V.int (-ls[i])) = true := decide_eq_true (by rw [eq])
      show Qy (.bl (decide (V.int ls[mt[i].toNat] = V.int (-ls[i])))) _
      rw [e]
      exact ky rfl _ sT
    · intro D H2 hD s2 h2
      refine ⟨D, (List.range (iv mt).length).map fun _ => true, rfl, SqL.of (by
        rw [h2, List.filter_eq_self.mpr (fun _ _ => rfl), List.map_map]
        rfl), ?_⟩
      have e : ((List.range (iv mt).length).map fun _ => true).all id = true := by
        rw [List.all_eq_true]
        intro b hb
        obtain ⟨_, _, rfl⟩ := List.mem_map.mp hb
        rfl
      rw [e]
      exact k H2 (s1.trans s2)
end
end W17
set_option Elab.async false
set_option linter.all false
set_option maxRecDepth 100000
set_option maxHeartbeats 1000000
namespace W17
open PySem L2 PySem.Spec PyProof.Rows WR WB WE
/-! ### numbers joined by pairs -/
abbrev sJoined : Stmt := top 24
/-- on to where a number leads, at most k times -/
def rt (ab : List Nat) : Nat → Nat → Nat
  | 0, x => x
  | k + 1, x => if ab.getD x 0 = x then x else rt ab k (ab.getD x 0)
def jnS (ab : List Nat) (p : Nat × Nat) : List Nat := ab.set (max (rt ab p.1 p.1) (rt ab p.2 p.2)) (min (rt ab p.1 p.1) (rt ab p.2 p.2))
def jn : List Nat → List (Nat × Nat) → List Nat
  | ab, [] => ab
  | ab, p :: r => jn (jnS ab p) r
/-- the number i put to the row of r -/
def putR : List (Nat × List Nat) → Nat → Nat → List (Nat × List Nat)
  | [], r, i => [(r, [i])]
  | (k, m) :: t, r, i => if k = r then (k, m ++ [i]) :: t else (k, m) :: putR t r i
def flr (ab : List Nat) : Nat → List Nat × List (Nat × List Nat)
  | 0 => (ab, [])
  | i + 1 => ((flr ab i).1.set i ((flr ab i).1.getD ((flr ab i).1.getD i 0) 0), putR (flr ab i).2 ((flr ab i).1.getD ((flr ab i).1.getD i 0) 0) i)
def joinF (n : Nat) (ps : List (Nat × Nat)) : List (List Nat) := (flr (jn (List.range n) ps) n).2.map (·.2)
/-- each leads to none that is greater -/
def DnOk (n : Nat) (ab : List Nat) : Prop := ab.length = n ∧ ∀ i, i < n → ab.getD i 0 ≤ i
theorem DnOk.rt_le {n : Nat} {ab : List Nat} (h : DnOk n ab) : ∀ (k x : Nat), x < n → rt ab k x ≤ x
  | 0, x, _ => Nat.le_refl _
  | k + 1, x, hx => by
    unfold rt
    split
    · exact Nat.le_refl _
    · exact Nat.le_trans (h.rt_le k _ (by have := h.2 x hx; omega)) (h.2 x hx)
theorem getD_set {l : List Nat} {i j v : Nat} (h : i < l.length) : (l.set i v).getD j 0 = if j = i then v else l.getD j 0 := by
  rw [List.getD_eq_getElem?_getD, List.getD_eq_getElem?_getD, List.getElem?_set]
  by_cases e : i = j
  · subst e
    rw [if_pos rfl, if_pos rfl, if_pos h]
    rfl
  · rw [if_neg e, if_neg (fun z => e z.symm)]
theorem DnOk.set {n : Nat} {ab : List Nat} (h : DnOk n ab) {i v : Nat} (hi : i < n) (hv : v ≤ i) : DnOk n (ab.set i v) := by
  refine ⟨by rw [List.length_set, h.1], fun j hj => ?_⟩
  rw [getD_set (by rw [h.1]; exact hi)]
  split
  · omega
  · exact h.2 j hj
theorem DnOk.jnS {n : Nat} {ab : List Nat} (h : DnOk n ab) {p : Nat × Nat} (h1 : p.1 < n) (h2 : p.2 < n) : DnOk n (jnS ab p) := by
  have a := h.rt_le p.1 p.1 h1
  have b := h.rt_le p.2 p.2 h2
  exact h.set (by omega) (by omega)
theorem dn_range (n : Nat) : DnOk n (List.range n) := by
  refine ⟨List.length_range, fun i hi => ?_⟩
  rw [List.getD_eq_getElem?_getD, List.getElem?_range hi]
  exact Nat.le_refl _
theorem DnOk.jn {n : Nat} : ∀ (ps : List (Nat × Nat)) {ab : List Nat}, DnOk n ab → (∀ p ∈ ps, p.1 < n ∧ p.2 < n) → DnOk n (W17.jn ab ps)
  | [], _, h, _ => h
  | p :: r, _, h, hp => DnOk.jn r (h.jnS (hp p List.mem_cons_self).1 (hp p List.mem_cons_self).2) fun q hq => hp q (List.mem_cons_of_mem _ hq)
theorem DnOk.flr {n : Nat} {ab : List Nat} (h : DnOk n ab) : ∀ i, i ≤ n → DnOk n (W17.flr ab i).1
  | 0, _ => h
  | i + 1, hi => by
    have d := DnOk.flr h i (by omega)
    have a := d.2 i (by omega)
    have b := d.2 ((W17.flr ab i).1.getD i 0) (by omega)
    exact d.set (by omega) (by omega)
/-- where numbers lead stays the same for any k that is great enough -/
theorem DnOk.rt_end {n : Nat} {ab : List Nat} (h : DnOk n ab) {x : Nat} (k : Nat) (e : ab.getD x 0 = x) : rt ab k x = x := by
  cases k with
  | zero => rfl
  | succ k => unfold rt; rw [if_pos e]
theorem DnOk.rt_step {n : Nat} {ab : List Nat} (h : DnOk n ab) {x k : Nat} (hx : x < n) (hk : x ≤ k) (e : ab.getD x 0 ≠ x) : ∃ k', k = k' + 1 ∧ ab.getD x 0 ≤ k' ∧ rt ab k x = rt ab k' (ab.getD x 0) := by
  have a := h.2 x hx
  obtain ⟨k', rfl⟩ : ∃ k', k = k' + 1 := ⟨k - 1, by omega⟩
  refine ⟨k', rfl, by omega, ?_⟩
  conv => lhs; unfold rt
  rw [if_neg e]
theorem nats_get {l : List Nat} {i : Nat} (h : i < l.length) : atI (iv (nats l)) ((i : Nat) : Int) = some (V.int ((l.getD i 0 : Nat) : Int)) := by
  refine atI_nat (iv_get ?_)
  unfold nats
  rw [List.getElem?_map, List.getElem?_eq_getElem h, List.getD_eq_getElem?_getD, List.getElem?_eq_getElem h]
  rfl
theorem nats_set {l : List Nat} {i v : Nat} : (iv (nats l)).set i (V.int (v : Int)) = iv (nats (l.set i v)) := by
  unfold nats
  rw [List.map_set, ← List.map_set, ← List.map_set]
theorem nats_len (l : List Nat) : (iv (nats l)).length = l.length := by
  unfold nats
  rw [List.length_map, List.length_map]
theorem ixN_nat {n i : Nat} (h : i < n) : ixN n ((i : Nat) : Int) = some i := by
  unfold ixN
  rw [if_pos (by omega), if_pos (by omega), Int.toNat_natCast]
/-- rows of a dict: each key a number, its value a list of numbers -/
def RowsAt (H : Hp) (kvs : List (L2.Key × V)) (rs : List (Nat × List Nat)) : Prop := All2 (fun kv r => kv.1 = Sum.inl ((r.1 : Nat) : Int) ∧ ∃ q, kv.2 = V.ref q ∧ H q = some (.lst (iv (nats r.2)))) kvs rs
theorem rows_none {H : Hp} {kvs : List (L2.Key × V)} {rs : List (Nat × List Nat)} (h : RowsAt H kvs rs) {r i : Nat} (e : valV kvs (Sum.inl ((r : Nat) : Int)) = none) : putR rs r i = rs ++ [(r, [i])] := by
  induction h with
  | nil => rfl
  | @cons kv p kvs rs hp _ ih =>
    have n : ¬ kv.1 = Sum.inl ((r : Nat) : Int) := fun z => by
      rw [valV_pos z] at e
      cases e
    rw [valV_neg n] at e
    have n2 : ¬ p.1 = r := fun z => n (by rw [hp.1, z])
    obtain ⟨k, m⟩ := p
    unfold putR
    rw [if_neg n2, ih e]
    rfl
theorem rows_some {H : Hp} {kvs : List (L2.Key × V)} {rs : List (Nat × List Nat)} (h : RowsAt H kvs rs) {r i : Nat} {v : V} (e : valV kvs (Sum.inl ((r : Nat) : Int)) = some v) :
    ∃ K1 K2 R1 R2 m, kvs = K1 ++ (Sum.inl ((r : Nat) : Int), v) :: K2 ∧ rs = R1 ++ (r, m) :: R2 ∧ RowsAt H K1 R1 ∧ RowsAt H K2 R2 ∧ (∃ q, v = V.ref q ∧ H q = some (.lst (iv (nats m)))) ∧ putR rs r i = R1 ++ (r, m ++ [i]) :: R2 := by
  induction h with
  | nil => cases e
  | @cons kv p kvs rs hp t ih =>
    obtain ⟨k, m⟩ := p
    by_cases z : kv.1 = Sum.inl ((r : Nat) : Int)
    · rw [valV_pos z] at e
      obtain rfl : k = r := by
        have := hp.1.symm.trans z
        injection this with this
        omega
      cases e
      refine ⟨[], kvs, [], rs, m, ?_, rfl, .nil, t, hp.2, ?_⟩
      · rw [← z]
        rfl
      · unfold putR
        rw [if_pos rfl]
        rfl
    · rw [valV_neg z] at e
      have n2 : ¬ k = r := fun y => z (by rw [hp.1, y])
      obtain ⟨K1, K2, R1, R2, m2, e1, e2, h1, h2, h3, e3⟩ := ih e
      refine ⟨kv :: K1, K2, (k, m) :: R1, R2, m2, by rw [e1]; rfl, by rw [e2]; rfl, .cons hp h1, h2, h3, ?_⟩
      unfold putR
      rw [if_neg n2, e3]
      rfl
end W17
set_option Elab.async false
set_option linter.all false
set_option maxRecDepth 100000
set_option maxHeartbeats 1000000
namespace W17
open PySem L2 PySem.Spec PyProof.Rows WR WB WE
theorem call_tupNw {X : Cx} {K : PySem.W.Frag} (hK : X.K = K) : CallR X (.type "tuple") (fun xs H Q => ∃ p ys, xs = [.ref p] ∧ SqL K H p ys ∧ ∀ q (o : Obj), H q = none → o.dict = none → Q (.ref q) (L2.upd H q (.frz o (.tup ys)))) := by
  subst hK
  intro pins s σ H vs us Q I r h
  obtain ⟨p, ys, rfl, hq, k⟩ := h
  obtain ⟨u, rfl, rx⟩ := vals1 r
  cases rx
  obtain ⟨its, rv, pl, hz⟩ := I.list hq
  refine call_tuple_list pl.isList (fun h1 kp => ?_) (by rw [List.size_toArray, ← rv.length]; exact hz)
  have J : Inv X pins σ H { s with heap := h1 } := I.kept (t' := s.toks) kp
  have new : (h1.push { cls := .type "tuple", data := .seq its.toArray }).get? h1.objs.size = some { cls := .type "tuple", data := .seq its.toArray } := Heap.get?_push_size _ rfl
  exact ⟨.ref _, _, J.laid (t' := s.toks) (o := .frz { cls := .type "tuple", data := .seq its.toArray } (.tup ys)) (fun _ _ e => Heap.get?_push_of_some _ e) (Nat.le_refl _) ⟨new, hz, its, rv, IsTup.new _ _⟩, rfl, k _ _ (J.hok.fresh (Nat.le_refl _)) rfl⟩
def PrN (K : PySem.W.Frag) (H : Hp) (v : V) (p : Nat × Nat) : Prop := ∃ q : Addr, v = .ref q ∧ SqT K H q [.int (p.1 : Int), .int (p.2 : Int)]
theorem PrN.same {K : PySem.W.Frag} {H H' : Hp} {v : V} {p : Nat × Nat} (h : PrN K H v p) (s : Same H H') : PrN K H' v p := by
  obtain ⟨q, e, t⟩ := h
  exact ⟨q, e, WR.Same.seqT s t⟩
def spJoined (K : PySem.W.Frag) : Sp := fun vs H Q _ => ∃ (n : Nat) (a : Addr) (us : List V) (ps : List (Nat × Nat)), vs = [.int (n : Int), .ref a] ∧ H a = some (.lst us) ∧ All2 (PrN K H) us ps ∧ n ≤ 40 ∧ us.length ≤ 1000 ∧ (∀ p ∈ ps, p.1 < n ∧ p.2 < n) ∧
  ∀ q H', Same H H' → CornAt K H' q (joinF n ps) → Q (.ref q) H'
abbrev nJoined : List Str := ["many", "pairs", "above", "one", "other", "rows", "at", "row"]
theorem rgV_nats (n : Nat) : rgV 0 (n : Int) = iv (nats (List.range n)) := by
  unfold rgV nats
  show _ = ((List.range n).map fun (x : Nat) => (x : Int)).map V.int
  rw [List.map_map, show ((n : Int) - 0).toNat = n by omega]
  refine List.map_congr_left fun i _ => ?_
  show V.int (0 + (i : Nat)) = V.int ((i : Nat) : Int)
  rw [Int.zero_add]
theorem wk_vals {d : Addr} {o : Obj} {kvs : List (L2.Key × V)} : Walk (Itd d o kvs) (kvs.map (·.2)).length (fun H => H d = some (.frz o (.dK kvs))) (YAt (kvs.map (·.2))) := by
  have w := walk_values (d := d) (o := o) (kvs := kvs)
  rw [List.length_map]
  refine ⟨w.goes, w.stops, fun i H x H' hi g y => ?_⟩
  obtain ⟨e, k, hk⟩ := w.yields i H x H' hi g y
  refine ⟨e, ?_⟩
  rw [List.getElem?_map, hk]
  rfl
def slotN (i : Nat) (σ : L2.St) : Nat := match σ[i]? with | some (some (V.int y)) => y.toNat | _ => 0
theorem ret_cb_lock {r : List V → Hp → VK → Prop} {t : TE} {D : Ends} {σ : L2.St} {H : Hp} (h : tLockE t σ H fun y H2 => r [y] H2 D.rt) : tRet (tCB r (tCons (tLockE t) tNil)) D σ H := h
theorem flr_rows_len (ab : List Nat) : ∀ i, (∀ p ∈ (flr ab i).2, p.2.length ≤ i)
  | 0, p, h => nomatch h
  | i + 1, p, h => by
    have ih := flr_rows_len ab i
    have key : ∀ (rs : List (Nat × List Nat)) (r : Nat), (∀ p ∈ rs, p.2.length ≤ i) → ∀ p ∈ putR rs r i, p.2.length ≤ i + 1 := by
      intro rs r
      induction rs with
      | nil =>
        intro _ p hp
        unfold putR at hp
        rw [List.mem_singleton.mp hp]
        show 1 ≤ i + 1
        omega
      | cons x t iht =>
        intro hx p hp
        obtain ⟨k, m⟩ := x
        unfold putR at hp
        split at hp
        · rcases List.mem_cons.mp hp with rfl | hp
          · have := hx (k, m) List.mem_cons_self
            show (m ++ [i]).length ≤ i + 1
            rw [List.length_append]
            show m.length + 1 ≤ i + 1
            have this : m.length ≤ i := this
            omega
          · have := hx p (List.mem_cons_of_mem _ hp)
            omega
        · rcases List.mem_cons.mp hp with rfl | hp
          · have := hx (k, m) List.mem_cons_self
            have this : m.length ≤ i := this
            show m.length ≤ i + 1
            omega
          · exact iht (fun q hq => hx q (List.mem_cons_of_mem _ hq)) p hp
    exact key _ _ ih p h
section
variable {P : Program} {w : World} {K : PySem.W.Frag} {mg : Str → Option Value} {base : Heap} {C CR : Addr}
theorem scJoined : FnScope nJoined ["many", "pairs"] (defScope sJoined) := ⟨rfl, rfl, rfl, by decide +kernel, rfl, by decide +kernel, by decide +kernel⟩
theorem ok_joined {f : Addr} {fd : FuncData} (F : Fun K "joined" "joined" sJoined f fd) (TA : TxA mg) (R : TxR mg) (hlist : mg "list" = none) (hmax : mg "max" = none) (hmin : mg "min" = none) : FnOk P w K mg base CX0 1 f fd ["many", "pairs"] (spJoined K) := by
  refine F.ok scJoined (fun vs H Q E h => ?_) (fun cdv A outer s H vs Q E hr h => ?_)
  · obtain ⟨n, a, us, ps, rfl, _⟩ := h
    rfl
  · obtain ⟨n, a, us, ps, rfl, hA, hP, hn, hu, hps, k⟩ := h
    refine ⟨_, pss_cons (ps_set (i := 2) scJoined.nd rfl (Or.inl rfl) (pe_listRg rfl (by rfl) hlist (prg_1 (by rfl) R.range (pv 0))))
      (pss_cons (ps_for PassesOwn.never rfl (pi_list (pv 1)) (pg_tup (n := 2) rfl (pgs_cons (pg_name (i := 3) scJoined.nd rfl (Or.inl rfl)) (pgs_cons (pg_name (i := 4) scJoined.nd rfl (Or.inl rfl)) pgs_nil)))
        (pss_cons (ps_while PassesOwn.never (pt_cmpR op_ne (pe_ix ix_list (pv 2) (pv 3) (fun _ _ => rfl)) (pv 3) (nomark _)) (pss_one (ps_set (i := 3) scJoined.nd rfl (Or.inl rfl) (pe_ix ix_list (pv 2) (pv 3) (fun _ _ => rfl)))))
        (pss_cons (ps_while PassesOwn.never (pt_cmpR op_ne (pe_ix ix_list (pv 2) (pv 4) (fun _ _ => rfl)) (pv 4) (nomark _)) (pss_one (ps_set (i := 4) scJoined.nd rfl (Or.inl rfl) (pe_ix ix_list (pv 2) (pv 4) (fun _ _ => rfl)))))
        (pss_one (ps_asg (pe_callB (call_min2 rfl) (by rfl) hmin (by decide +kernel) (pa_cons (pv 3) (pa_cons (pv 4) pa_nil))) (pg_sub (pv 2) (pe_callB (call_max2 rfl) (by rfl) hmax (by decide +kernel) (pa_cons (pv 3) (pa_cons (pv 4) pa_nil))) set_list))))))
      (pss_cons (ps_set (i := 5) scJoined.nd rfl (Or.inl rfl) pe_dnewK)
      (pss_cons (ps_for PassesOwn.never rfl (pi_range1 (by rfl) R.range (pa_cons (pv 0) pa_nil)) (pg_name (i := 6) scJoined.nd rfl (Or.inl rfl))
        (pss_cons (ps_asg (pe_ix ix_list (pv 2) (pe_ix ix_list (pv 2) (pv 6) (fun _ _ => rfl)) (fun _ _ => rfl)) (pg_sub (pv 2) (pv 6) set_list))
        (pss_one (ps_expr (pe_bm PySem.F.plainAttrs_list PySem.F.slot_list_append PySem.F.type_list_append mt_append (pe_dsetd (pv 5) (pe_ix ix_list (pv 2) (pv 6) (fun _ _ => rfl)) (pe_lst pa_nil) ⟨rfl, rfl, rfl, rfl⟩) (pa_cons (pv 6) pa_nil))))))
      (pss_one (ps_ret (pe_callTy call_tupB (by rfl) TA.tuple (by decide +kernel) (pa_cons (pe_lock (pe_lc (own := [("row", 7)]) (g := gName 7) (tt := tYes) rfl scJoined.nd (pi_values (pv 5))
        (blkOk_by (N := nJoined) (sc := defScope sJoined) (by decide +kernel)) (fun _ _ _ _ _ => pg_name (i := 7) scJoined.nd rfl (Or.inl rfl)) (fun _ _ _ _ _ => pts_nil)
        (fun _ _ _ _ _ => pe_callTy (call_tupNw (K := K) rfl) (by rfl) TA.tuple (by decide +kernel) (pa_cons (pv 7) pa_nil)))) pa_nil))))))), ?_⟩
    refine ⟨_, rfl, n, rfl, RgOk.of_le (by omega) (by omega) (by omega) (by omega), fun lc hlc => ?_⟩
    rw [rgV_nats]
    have na : a ≠ lc := ne_of_none hA hlc
    refine ⟨_, rfl, a, rfl, ⟨us, SqL.of (by rw [upd_ne na]; exact hA)⟩, ?_⟩
    have lps := hP.length
    refine for_it (walk_list (K := K) (a := a) (xs := us)) (fun i σ H' => ∃ (v3 v4 : Option V) (ab : List Nat), σ = [some (.int (n : Int)), some (.ref a), some (.ref lc), v3, v4, none, none, none] ∧ Kept lc H H' ∧ H' lc = some (.lst (iv (nats ab))) ∧ DnOk n ab ∧ jn ab (ps.drop i) = jn (List.range n) ps)
      ⟨none, none, List.range n, rfl, fun b o nb e => by rw [upd_ne nb]; exact e, upd_same, dn_range n, rfl⟩ (fun i σ H' _ ⟨_, _, _, _, kp, _⟩ => SqL.of (kp _ _ na hA)) ?_ ?_
    · rintro i x σ H3 H4 hi ⟨v3, v4, ab, rfl, kp, hL, dn, ej⟩ ⟨rfl, hx⟩
      obtain ⟨⟨o1, o2⟩, hp, q, rfl, hq⟩ := hP.at hx
      have hq3 : SqT K H4 q [.int (o1 : Int), .int (o2 : Int)] := by
        refine hq.elim (fun r => .inl (r.elim (fun r => .inl (kp _ _ (ne_of_none r hlc) r)) fun ⟨o, r⟩ => .inr ⟨o, kp _ _ (ne_of_none r hlc) r⟩)) fun r => .inr r
      obtain ⟨b1, b2⟩ := hps (o1, o2) (List.mem_of_getElem? hp)
      have b1 : o1 < n := b1
      have b2 : o2 < n := b2
      refine ⟨q, _, rfl, hq3, rfl, _, _, rfl, _, _, rfl, rfl, ?_⟩
      refine while_by (fun σ H5 => ∃ (kk y : Nat), σ = [some (.int (n : Int)), some (.ref a), some (.ref lc), some (.int (y : Int)), some (.int (o2 : Int)), none, none, none] ∧ H4 = H5 ∧ y < n ∧ y ≤ kk ∧ rt ab kk y = rt ab o1 o1)
        (fun σ _ => slotN 3 σ) ⟨o1, o1, rfl, rfl, b1, Nat.le_refl _, rfl⟩ ?_ ?_
      · rintro σ H5 ⟨kk, y, rfl, rfl, hy, hyk, ey⟩
        have hyl : y < ab.length := by rw [dn.1]; exact hy
        refine ⟨_, rfl, _, rfl, lc, _, _, _, rfl, rfl, SqL.of hL, nats_get hyl, _, rfl, rfl, _, rfl, ?_⟩
        by_cases e : ab.getD y 0 = y
        · refine iteF' (by rw [e]; show (!decide (V.int (y : Int) = V.int (y : Int))) = false; rw [decide_eq_true rfl]; rfl) ?_
          rw [dn.rt_end _ e] at ey
          refine while_by (fun σ H5 => ∃ (kk y2 : Nat), σ = [some (.int (n : Int)), some (.ref a), some (.ref lc), some (.int (y : Int)), some (.int (y2 : Int)), none, none, none] ∧ H4 = H5 ∧ y2 < n ∧ y2 ≤ kk ∧ rt ab kk y2 = rt ab o2 o2)
            (fun σ _ => slotN 4 σ) ⟨o2, o2, rfl, rfl, b2, Nat.le_refl _, rfl⟩ ?_ ?_
          · rintro σ H5 ⟨kk2, y2, rfl, rfl, hy2, hyk2, ey2⟩
            have hyl2 : y2 < ab.length := by rw [dn.1]; exact hy2
            refine ⟨_, rfl, _, rfl, lc, _, _, _, rfl, rfl, SqL.of hL, nats_get hyl2, _, rfl, rfl, _, rfl, ?_⟩
            by_cases e2 : ab.getD y2 0 = y2
            · refine iteF' (by rw [e2]; show (!decide (V.int (y2 : Int) = V.int (y2 : Int))) = false; rw [decide_eq_true rfl]; rfl) ?_
              rw [dn.rt_end _ e2] at ey2
              have hmx : max y y2 < ab.length := by omega
              have e3 : (if (y2 : Int) < (y : Int) then (y2 : Int) else (y : Int)) = ((min y y2 : Nat) : Int) := by split <;> omega
              have e4 : (if (y2 : Int) > (y : Int) then (y2 : Int) else (y : Int)) = ((max y y2 : Nat) : Int) := by split <;> omega
              refine ⟨_, rfl, _, rfl, _, _, rfl, ?_⟩
              refine ⟨_, rfl, _, rfl, _, rfl, _, _, rfl, ?_⟩
              rw [e4]
              refine ⟨lc, _, _, max y y2, rfl, rfl, hL, by rw [nats_len]; exact ixN_nat hmx, ?_⟩
              rw [e3, nats_set]
              have ejs : ab.set (max y y2) (min y y2) = jnS ab (o1, o2) := by
                unfold jnS
                rw [← ey, ← ey2]
              rw [ejs]
              refine ⟨_, _, jnS ab (o1, o2), rfl, kp.trans Kept.upd, upd_same, dn.jnS b1 b2, ?_⟩
              rw [← ej]
              have ed : ps.drop i = (o1, o2) :: ps.drop (i + 1) := by
                have hil : i < ps.length := (List.getElem?_eq_some_iff.mp hp).1
                rw [List.drop_eq_getElem_cons hil]
                congr 1
                exact Option.some.inj ((List.getElem?_eq_getElem hil).symm.trans hp)
              rw [ed]
              rfl
            · have hle2 := dn.2 y2 hy2
              obtain ⟨k', ek, hk', er⟩ := dn.rt_step hy2 hyk2 e2
              refine iteT' (by show (!decide (V.int ((ab.getD y2 0 : Nat) : Int) = V.int (y2 : Int))) = true; rw [decide_eq_false (fun z => e2 (by injection z with z; omega))]; rfl) ?_
              refine ⟨_, rfl, _, rfl, lc, _, _, _, rfl, rfl, SqL.of hL, nats_get hyl2, ?_⟩
              refine ⟨⟨k', ab.getD y2 0, rfl, rfl, by omega, hk', er.symm.trans ey2⟩, ?_⟩
              show ((ab.getD y2 0 : Nat) : Int).toNat < ((y2 : Nat) : Int).toNat
              omega
          · rintro σ H5 Q Q' hh ⟨v, e1, u, e2, p, xs, z, v', ex, ey, hs, ha, u', e3, fl, c, ec, q⟩
            exact ⟨v, e1, u, e2, p, xs, z, v', ex, ey, hs, ha, u', e3, fl, c, ec, hh c H5 q⟩
        · have hle := dn.2 y hy
          obtain ⟨k', ek, hk', er⟩ := dn.rt_step hy hyk e
          refine iteT' (by show (!decide (V.int ((ab.getD y 0 : Nat) : Int) = V.int (y : Int))) = true; rw [decide_eq_false (fun z => e (by injection z with z; omega))]; rfl) ?_
          refine ⟨_, rfl, _, rfl, lc, _, _, _, rfl, rfl, SqL.of hL, nats_get hyl, ?_⟩
          refine ⟨⟨k', ab.getD y 0, rfl, rfl, by omega, hk', er.symm.trans ey⟩, ?_⟩
          show ((ab.getD y 0 : Nat) : Int).toNat < ((y : Nat) : Int).toNat
          omega
      · rintro σ H5 Q Q' hh ⟨v, e1, u, e2, p, xs, z, v', ex, ey, hs, ha, u', e3, fl, c, ec, q⟩
        exact ⟨v, e1, u, e2, p, xs, z, v', ex, ey, hs, ha, u', e3, fl, c, ec, hh c H5 q⟩
    · rintro σ H3 ⟨v3, v4, ab, rfl, kp, hL, dn, ej⟩
      rw [lps, List.drop_length] at ej
      have ej : ab = jn (List.range n) ps := ej
      have sm3 : Same H H3 := fun b o e => kp _ _ (ne_of_none e hlc) e
      refine fun dd hdd => ?_
      have nLd : lc ≠ dd := ne_of_none hL hdd
      have nHd : H dd = none := sm3.free hdd
      refine ⟨_, rfl, _, rfl, by omega, by omega, ?_⟩
      refine for_range (lo := 0) (n := ((n : Nat) : Int).toNat) (fun i σ H' => ∃ (v6 : Option V) (kvs : List (L2.Key × V)), σ = [some (.int (n : Int)), some (.ref a), some (.ref lc), v3, v4, some (.ref dd), v6, none] ∧ Same H H' ∧ H' lc = some (.lst (iv (nats (flr ab i).1))) ∧
          H' dd = some (.dK kvs) ∧ RowsAt H' kvs (flr ab i).2 ∧ (kvs.map (·.2)).Nodup ∧ kvs.length ≤ i ∧ ∀ q, V.ref q ∈ kvs.map (·.2) → H q = none ∧ q ≠ lc)
        ⟨none, [], rfl, sm3.trans (same_upd hdd), by rw [upd_ne nLd]; exact hL, upd_same, .nil, List.nodup_nil, Nat.le_refl _, fun _ h => nomatch h⟩ ?_ ?_
      · rintro i σ H4 hi ⟨v6, kvs, rfl, sm, hL4, hd4, hR4, nd, lk, new4⟩
        rw [Int.toNat_natCast] at hi
        rw [Int.zero_add]
        have dF := dn.flr i (by omega)
        have dG := dn.flr (i + 1) (by omega)
        obtain ⟨fl, efl⟩ : ∃ fl, fl = (flr ab i).1 := ⟨_, rfl⟩
        obtain ⟨fg, efg⟩ : ∃ fg, fg = (flr ab (i + 1)).1 := ⟨_, rfl⟩
        rw [← efl] at hL4 dF
        rw [← efg] at dG
        have eg : fg = fl.set i (fl.getD (fl.getD i 0) 0) := by rw [efg, efl]; rfl
        have hil : i < fl.length := by rw [dF.1]; exact hi
        have hjl : fl.getD i 0 < fl.length := by have := dF.2 i hi; omega
        refine ⟨_, rfl, _, rfl, _, rfl, lc, _, _, _, rfl, rfl, SqL.of hL4, nats_get hil, lc, _, _, _, rfl, rfl, SqL.of hL4, nats_get hjl, _, rfl, _, rfl, lc, _, _, i, rfl, rfl, hL4, by rw [nats_len]; exact ixN_nat hil, ?_⟩
        rw [nats_set, ← eg]
        obtain ⟨H5, e5⟩ : ∃ H5, H5 = L2.upd H4 lc (.lst (iv (nats fg))) := ⟨_, rfl⟩
        rw [← e5]
        have hL5 : H5 lc = some (.lst (iv (nats fg))) := by rw [e5, upd_same]
        have k45 : Kept lc H4 H5 := by rw [e5]; exact Kept.upd
        have sm5 : Same H H5 := by rw [e5]; exact same_put sm hlc
        have hd5 : H5 dd = some (.dK kvs) := k45 _ _ nLd.symm hd4
        have hR5 : RowsAt H5 kvs (flr ab i).2 := by
          have g : ∀ (xs : List (L2.Key × V)) (rs : List (Nat × List Nat)), RowsAt H4 xs rs → (∀ q, V.ref q ∈ xs.map (·.2) → q ≠ lc) → RowsAt H5 xs rs := by
            intro xs rs h
            induction h with
            | nil => intro _; exact .nil
            | cons r _ ih =>
              intro hn
              obtain ⟨r1, q, r2, r3⟩ := r
              refine .cons ⟨r1, q, r2, k45 _ _ (hn q (by rw [← r2]; exact List.mem_cons_self)) r3⟩ (ih fun q hq => hn q (List.mem_cons_of_mem _ hq))
          exact g _ _ hR4 fun q hq => (new4 q hq).2
        have hig : i < fg.length := by rw [dG.1]; exact hi
        have eri : fg.getD i 0 = fl.getD (fl.getD i 0) 0 := by rw [eg, getD_set hil, if_pos rfl]
        have er2 : (flr ab (i + 1)).2 = putR (flr ab i).2 (fg.getD i 0) i := by
          rw [eri, efl]
          rfl
        obtain ⟨r, er⟩ : ∃ r, r = fg.getD i 0 := ⟨_, rfl⟩
        refine ⟨_, rfl, dd, rfl, .inl ⟨kvs, .inl hd5⟩, _, rfl, _, rfl, lc, _, _, _, rfl, rfl, SqL.of hL5, nats_get hig, Nat.zero_le _, fun q hq => ?_⟩
        rw [← er] at er2 ⊢
        have ndq : dd ≠ q := ne_of_none hd5 hq
        have nlq : lc ≠ q := ne_of_none hL5 hq
        have nHq : H q = none := sm5.free hq
        obtain ⟨H6, e6⟩ : ∃ H6, H6 = L2.upd H5 q (.lst []) := ⟨_, rfl⟩
        rw [← e6]
        have s56 : Same H5 H6 := by rw [e6]; exact same_upd hq
        have hd6 := s56 _ _ hd5
        have hL6 := s56 _ _ hL5
        have hq6 : H6 q = some (.lst []) := by rw [e6, upd_same]
        have hR6 : RowsAt H6 kvs (flr ab i).2 := hR5.imp fun _ _ ⟨r1, q, r2, r3⟩ => ⟨r1, q, r2, s56 _ _ r3⟩
        have sm6 := sm5.trans s56
        refine ⟨kvs, Sum.inl ((r : Nat) : Int), hd6, rfl, Evl.sz_lt (by omega), fun v ev => ?_, fun ev => ?_⟩
        · obtain ⟨K1, K2, R1, R2, m, ek, eR, h1, h2, ⟨q0, rfl, hq0⟩, ep⟩ := rows_some (i := i) hR6 ev
          have hml : m.length ≤ i := flr_rows_len ab i (r, m) (by rw [eR]; simp)
          have mem0 : V.ref q0 ∈ kvs.map (·.2) := by rw [ek]; simp
          obtain ⟨n0, n0l⟩ := new4 q0 mem0
          have n0d : q0 ≠ dd := fun z => by
            rw [z, hd6] at hq0
            cases hq0
          refine ⟨.inl ⟨rfl, _, SqL.of hq0⟩, _, rfl, q0, _, _, rfl, rfl, hq0, Evl.sz_lt (by rw [nats_len]; omega), ?_⟩
          have k67 : Kept q0 H6 (L2.upd H6 q0 (.lst (iv (nats m) ++ [.int (i : Int)]))) := Kept.upd
          have nd1 := nd
          rw [ek, List.map_append, List.map_cons, List.nodup_append] at nd1
          obtain ⟨nd1, nd2, nd3⟩ := nd1
          rw [List.nodup_cons] at nd2
          have g : ∀ (xs : List (L2.Key × V)) (rs : List (Nat × List Nat)), RowsAt H6 xs rs → V.ref q0 ∉ xs.map (·.2) → RowsAt (L2.upd H6 q0 (.lst (iv (nats m) ++ [.int (i : Int)]))) xs rs := by
            intro xs rs h
            induction h with
            | nil => intro _; exact .nil
            | cons r _ ih =>
              intro hn
              obtain ⟨r1, q, r2, r3⟩ := r
              refine .cons ⟨r1, q, r2, k67 _ _ (fun z => hn (by rw [List.map_cons, r2, z]; exact List.mem_cons_self)) r3⟩ (ih fun z => hn (List.mem_cons_of_mem _ z))
          refine ⟨_, kvs, rfl, same_put sm6 n0, ?_, k67 _ _ n0d.symm hd6, ?_, nd, by omega, new4⟩
          · rw [← efg]
            exact k67 _ _ n0l.symm hL6
          · rw [er2, ep, ek]
            refine All2.app (g _ _ h1 fun z => nd3 _ z _ List.mem_cons_self rfl) (.cons ⟨rfl, q0, rfl, ?_⟩ (g _ _ h2 nd2.1))
            rw [upd_same]
            unfold nats iv
            rw [List.map_append, List.map_append]
            rfl
        · have eK := putK_new (V.ref q) ev
          rw [eK]
          obtain ⟨H7, e7⟩ : ∃ H7, H7 = L2.upd H6 dd (.dK (kvs ++ [(Sum.inl ((r : Nat) : Int), V.ref q)])) := ⟨_, rfl⟩
          rw [← e7]
          have k67 : Kept dd H6 H7 := by rw [e7]; exact Kept.upd
          have hd7 : H7 dd = some (.dK (kvs ++ [(Sum.inl ((r : Nat) : Int), V.ref q)])) := by rw [e7, upd_same]
          have hq7 := k67 _ _ ndq.symm hq6
          have hL7 := k67 _ _ nLd hL6
          have sm7 : Same H H7 := by rw [e7]; exact same_put sm6 nHd
          have hR7 : RowsAt H7 kvs (flr ab i).2 := hR6.imp fun _ _ ⟨r1, q, r2, r3⟩ => ⟨r1, q, r2, k67 _ _ (fun z => by rw [z, hd6] at r3; cases r3) r3⟩
          refine ⟨.inl ⟨rfl, _, SqL.of hq7⟩, _, rfl, q, _, _, rfl, rfl, hq7, Evl.sz_lt (by show 0 < 100000; omega), ?_⟩
          have k78 : Kept q H7 (L2.upd H7 q (.lst ([] ++ [.int (i : Int)]))) := Kept.upd
          have nq : V.ref q ∉ kvs.map (·.2) := fun z => by
            obtain ⟨kv, hkv, ekv⟩ := List.mem_map.mp z
            obtain ⟨p, _, _, q1, e1, h1⟩ := All2.mem hR5 hkv
            have : q1 = q := by
              rw [e1] at ekv
              injection ekv
            rw [this, hq] at h1
            cases h1
          have g : ∀ (xs : List (L2.Key × V)) (rs : List (Nat × List Nat)), RowsAt H7 xs rs → V.ref q ∉ xs.map (·.2) → RowsAt (L2.upd H7 q (.lst ([] ++ [.int (i : Int)]))) xs rs := by
            intro xs rs h
            induction h with
            | nil => intro _; exact .nil
            | cons r _ ih =>
              intro hn
              obtain ⟨r1, q2, r2, r3⟩ := r
              refine .cons ⟨r1, q2, r2, k78 _ _ (fun z => hn (by rw [List.map_cons, r2, z]; exact List.mem_cons_self)) r3⟩ (ih fun z => hn (List.mem_cons_of_mem _ z))
          refine ⟨_, _, rfl, same_put sm7 nHq, ?_, k78 _ _ ndq hd7, ?_, ?_, by rw [List.length_append]; show kvs.length + 1 ≤ i + 1; omega, ?_⟩
          · rw [← efg]
            exact k78 _ _ nlq hL7
          · rw [er2, rows_none hR7 ev]
            exact All2.app (g _ _ hR7 nq) (.cons ⟨rfl, q, rfl, upd_same⟩ .nil)
          · rw [List.map_append, List.nodup_append]
            refine ⟨nd, by simp, ?_⟩
            rintro x hx y hy rfl
            rw [List.map_cons, List.map_nil, List.mem_singleton] at hy
            have hy : x = V.ref q := hy
            exact nq (by rw [← hy]; exact hx)
          · intro z hz
            rw [List.map_append, List.mem_append] at hz
            rcases hz with hz | hz
            · exact new4 z hz
            · rw [List.map_cons, List.map_nil, List.mem_singleton] at hz
              injection hz with hz
              rw [hz]
              exact ⟨nHq, nlq.symm⟩
      · rintro σ H4 ⟨v6, kvs, rfl, sm, hL4, hd4, hR4, nd, lk, new4⟩
        rw [Int.toNat_natCast] at hR4 lk
        dsimp only
        refine ret_cb_lock ?_
        refine ⟨dd, .dK kvs, hd4, trivial, fun od => ?_⟩
        refine lc_in ?_
        refine ⟨_, rfl, dd, od, kvs, rfl, upd_same, ?_⟩
        have rows : All2 (fun (v : V) (r : Nat × List Nat) => ∃ q, v = V.ref q ∧ H4 q = some (.lst (iv (nats r.2)))) (kvs.map (·.2)) (flr ab n).2 := by
          have g : ∀ (xs : List (L2.Key × V)) (rs : List (Nat × List Nat)), RowsAt H4 xs rs → All2 (fun (v : V) (r : Nat × List Nat) => ∃ q, v = V.ref q ∧ H4 q = some (.lst (iv (nats r.2)))) (xs.map (·.2)) rs := by
            intro xs rs h
            induction h with
            | nil => exact .nil
            | cons r _ ih => exact .cons r.2 ih
          exact g _ _ hR4
        have lrow := rows.length
        have nH1 : ∀ q xs, H4 q = some (.lst xs) → q ≠ dd := fun q xs e z => by
          rw [z, hd4] at e
          cases e
        refine lcM (wk_vals (d := dd) (o := od) (kvs := kvs)) (flr ab n).2 (fun D H5 v r => ∃ q, v = V.ref q ∧ q ≠ dd ∧ SqB K H5 q (iv (nats r.2))) (fun D H5 H6 v b ⟨q, e, nq, h⟩ s => ⟨q, e, nq, SqB.same s h⟩) (fun D H5 ws o v b hD ⟨q, e, nq, h⟩ => ⟨q, e, nq, SqB.keptL hD Kept.upd h⟩)
          (by rw [List.length_map]; omega) lrow (fun H5 s => s _ _ upd_same) ?_ (fun _ _ _ _ _ => gName_mono) ?_
        · intro i x b hx hb D H5 hD hDD s5 Qy ky
          obtain ⟨r, hr2, q, rfl, hq⟩ := rows.at hx
          obtain rfl : r = b := Option.some.inj (hr2.symm.trans hb)
          have nqd := nH1 q _ hq
          have hq5 : H5 q = some (.lst (iv (nats r.2))) := s5 _ _ (by rw [upd_ne nqd]; exact hq)
          have hd5 : H5 dd = some (.frz od (.dK kvs)) := s5 _ _ upd_same
          refine ⟨rfl, _, rfl, q, _, rfl, SqL.of hq5, fun q2 o h2 ho => ?_⟩
          refine ky _ _ (same_upd h2) ⟨q2, rfl, (ne_of_none hd5 h2).symm, ⟨.inl (.inr ⟨o, upd_same⟩), ⟨o, _, upd_same, ho⟩⟩⟩
        · intro D H5 ws hD s5 hDD hW
          have hd5 : H5 dd = some (.frz od (.dK kvs)) := s5 _ _ upd_same
          have nDd : D ≠ dd := fun z => by
            rw [z, hd5] at hDD
            cases hDD
          refine ⟨hd5, D, ws, rfl, .inl ⟨SqL.of (by rw [upd_ne nDd]; exact hDD), fun q H6 s6 B6 => ?_⟩⟩
          have sm5 : Same H4 (L2.upd H5 dd (.dK kvs)) := fun b o e => by
            by_cases z : b = dd
            · rw [z, hd4] at e
              rw [z, upd_same, e]
            · rw [upd_ne z]
              exact s5 _ _ (by rw [upd_ne z]; exact e)
          have kd5 : ∀ q xs, q ≠ dd → SqB K H5 q xs → SqB K (L2.upd H5 dd (.dK kvs)) q xs := fun q xs nq ⟨h1, o, u, h2, h3⟩ => by
            refine ⟨?_, ⟨o, u, by rw [upd_ne nq]; exact h2, h3⟩⟩
            exact h1.elim (fun r => .inl (r.elim (fun r => .inl (by rw [upd_ne nq]; exact r)) fun ⟨o, r⟩ => .inr ⟨o, by rw [upd_ne nq]; exact r⟩)) fun r => .inr r
          refine k q H6 ((sm.trans sm5).trans s6) ⟨ws, B6, ?_⟩
          have fin : All2 (fun v c => ∃ q, v = V.ref q ∧ SqB K H6 q (iv (nats c))) ws ((flr ab n).2.map (·.2)) := by
            have g : ∀ (xs : List V) (rs : List (Nat × List Nat)), All2 (fun v (r : Nat × List Nat) => ∃ q, v = V.ref q ∧ q ≠ dd ∧ SqB K H5 q (iv (nats r.2))) xs rs → All2 (fun v c => ∃ q, v = V.ref q ∧ SqB K H6 q (iv (nats c))) xs (rs.map (·.2)) := by
              intro xs rs h
              induction h with
              | nil => exact .nil
              | cons r _ ih =>
                obtain ⟨q, e, nq, h⟩ := r
                exact .cons ⟨q, e, SqB.same s6 (kd5 q _ nq h)⟩ ih
            exact g _ _ hW
          rw [ej] at fin
          exact fin
end
end W17
set_option Elab.async false
set_option linter.all false
set_option maxRecDepth 100000
set_option maxHeartbeats 1000000
namespace W17
open PySem L2 PySem.Spec PyProof.Rows WR WB WE
/-! ### pieces, and the class Sewing -/
abbrev sPieces : Stmt := top 60
abbrev sInitS : Stmt := inClass (top 61) 0
theorem lcY {β : Type} {J : It} {n : Nat} {G : Hp → Prop} {Y : Nat → Hp → V → Hp → Prop} (w : Walk J n G Y) (hY : ∀ i H x H', Y i H x H' → Same H H') (ys : List β) (R : Addr → Hp → V → β → Prop) (hst : ∀ D H H' v b, R D H v b → Same H H' → R D H' v b) (hput : ∀ D H ws o v b, H D = some (.lst ws) → R D H v b → R D (L2.upd H D o) v b)
    (hz : n < 40000) (hl : n = ys.length) {g : TG} {te : TE} {vs : List Nat} {σ : L2.St} {H1 : Hp} {Q : VK} (hG : ∀ H, Same H1 H → G H)
    (hs : ∀ (i : Nat) (x : V) (b : β) (H H' : Hp), ys[i]? = some b → Same H1 H → Y i H x H' → ∀ D, H1 D = none → (∃ ws, H' D = some (.lst ws)) → ∀ (Qy : V → Hp → Prop), (∀ v H2, Same H' H2 → R D H2 v b → Qy v H2) →
      g x (wipe σ vs) H' fun σ2 H2 => wipe σ2 vs = wipe σ vs ∧ te σ2 H2 Qy)
    (hg : ∀ x σ1 H A B, (∀ σ2 H2, A σ2 H2 → B σ2 H2) → g x σ1 H A → g x σ1 H B)
    (hd : ∀ (D : Addr) H' ws, H1 D = none → Same H1 H' → H' D = some (.lst ws) → All2 (R D H') ws ys → Q (.ref D) H') : tLc (fun _ H R => R J H) g tYes te vs σ H1 Q := by
  intro D hD
  refine lc_it w (fun i H => Same H1 H ∧ ∃ ws, H D = some (.lst ws) ∧ All2 (R D H) ws (ys.take i)) ⟨fun b o e => by rw [upd_ne (ne_of_none e hD)]; exact e, [], upd_same, by simp only [List.take_zero]; exact .nil⟩ (fun i H _ q => hG H q.1) ?_ ?_
  · rintro i x H H' hi ⟨sm, ws, hw, h2⟩ y
    have hi2 : i < ys.length := by omega
    have sY := hY _ _ _ _ y
    refine hg _ _ _ _ _ (fun σ2 H2 q => ⟨q.1, yes_te q.2⟩) (hs i x ys[i] H H' (List.getElem?_eq_getElem hi2) sm y D hD ⟨ws, sY _ _ hw⟩ _ fun v H2 s2 r => ?_)
    have s3 := sY.trans s2
    have hw2 := s3 _ _ hw
    have hlen := h2.length
    rw [List.length_take] at hlen
    refine ⟨ws, hw2, Evl.sz_lt (by omega), fun b o e => ?_, ws ++ [v], upd_same, ?_⟩
    · rw [upd_ne (ne_of_none e hD)]
      exact s3 _ _ (sm _ _ e)
    · rw [List.take_succ_eq_append_getElem hi2]
      exact (h2.imp fun v b r => hput D H2 ws _ v b hw2 (hst D _ _ v b r s3)).app (.cons (hput D H2 ws _ v _ hw2 r) .nil)
  · rintro H ⟨sm, ws, hw, h2⟩
    rw [List.take_of_length_le (by omega)] at h2
    exact hd D H ws hD sm hw h2
theorem yp_same {f g : Nat → Option V} {i : Nat} {H H' : Hp} {x : V} (y : YPair f g i H x H') : Same H H' := by
  obtain ⟨T, _, _, _, hT, e, _⟩ := y
  rw [e]
  exact same_upd hT
theorem ar_lcA {wi : TI} {g : TG} {tt : TT} {te : TE} {vs : List Nat} {σ : L2.St} {H : Hp} {Q : List V → Hp → Prop}
    (h : wi σ H fun J H1 => tLc (fun _ H R => R J H) g tt te vs σ H1 fun y H2 => Q [y] H2) : tCons (tLc wi g tt te vs) tNil σ H Q := h
/-- the number of the word of a place -/
def home (ws : List (List Int)) (i : Nat) : Nat := ((hmF 0 ws).getD i 0).toNat
def pcP (ws : List (List Int)) (mt : List Int) : List (Nat × Nat) := (List.range mt.length).map fun i => (home ws i, home ws (mt.getD i 0).toNat)
def pcF (ws : List (List Int)) (mt : List Int) : List (List Nat) := joinF ws.length (pcP ws mt)
theorem hmF_rng : ∀ (ws : List (List Int)) (f : Nat), ∀ z ∈ hmF f ws, (f : Int) ≤ z ∧ z < ((f + ws.length : Nat) : Int)
  | [], _, z, h => nomatch h
  | w :: r, f, z, h => by
    unfold hmF at h
    rw [List.mem_append] at h
    rw [List.length_cons]
    rcases h with h | h
    · have := (List.mem_replicate.mp h).2
      omega
    · have := hmF_rng r (f + 1) z h
      omega
theorem home_at {ws : List (List Int)} {i : Nat} (h : i < ws.flatten.length) : (hmF 0 ws)[i]? = some ((home ws i : Nat) : Int) ∧ home ws i < ws.length := by
  have hl : i < (hmF 0 ws).length := by rw [hmF_len]; exact h
  have r := hmF_rng ws 0 _ (List.getElem_mem hl)
  have e : home ws i = ((hmF 0 ws)[i]).toNat := by
    unfold home
    rw [List.getD_eq_getElem?_getD, List.getElem?_eq_getElem hl]
    rfl
  rw [e, List.getElem?_eq_getElem hl]
  refine ⟨?_, by omega⟩
  congr 1
  omega
def spPieces (K : PySem.W.Frag) (C CR : Addr) : Sp := fun vs H Q _ => ∃ (p m : Addr) (xs : List Addr) (ws : List (List Int)) (mt : List Int), vs = [.ref p, .ref m] ∧ RimsAt K C CR H p xs ws ∧ RimOk ws ∧ SqE K H m (iv mt) ∧ MatesOk ws.flatten.length mt ∧
  ∀ q H', Same H H' → CornAt K H' q (pcF ws mt) → Q (.ref q) H'
abbrev nPieces : List Str := ["rims", "mates", "place", "mate"]
theorem PrN.put {K : PySem.W.Frag} {D : Addr} {H : Hp} {ws : List V} {o : HO} {v : V} {p : Nat × Nat} (hD : H D = some (.lst ws)) (h : PrN K H v p) : PrN K (L2.upd H D o) v p := by
  obtain ⟨q, e, t⟩ := h
  exact ⟨q, e, SqT.keptL hD Kept.upd t⟩
section
variable {P : Program} {w : World} {K : PySem.W.Frag} {mg : Str → Option Value} {base : Heap} {C CR CS : Addr}
theorem scPieces : FnScope nPieces ["rims", "mates"] (defScope sPieces) := ⟨rfl, rfl, rfl, by decide +kernel, rfl, by decide +kernel, by decide +kernel⟩
theorem ok_pieces {f : Addr} {fd : FuncData} (F : Fun K "pieces_of" "pieces_of" sPieces f fd) (TC : TxRC K mg CR) (TA : TxA mg) (R : TxR mg) (GJ : Cal P w K mg base "joined" 1 ["many", "pairs"] (spJoined K)) : FnOk P w K mg base CX0 2 f fd ["rims", "mates"] (spPieces K C CR) := by
  refine F.ok scPieces (fun vs H Q E h => ?_) (fun cdv A outer s H vs Q E hr h => ?_)
  · obtain ⟨p, m, xs, ws, mt, rfl, _⟩ := h
    rfl
  · obtain ⟨p, m, xs, ws, mt, rfl, R1, ⟨l1, l4, hne, l24, hl, hb⟩, hM, ⟨lm, hm⟩, k⟩ := h
    refine ⟨_, pss_one (ps_ret (pe_cal GJ hr (by decide) (by rfl) (pa_cons (pe_callB call_len_seq (by rfl) TA.len PySem.boot_len (pa_cons (pe_fld (pv 0) rfl) pa_nil)) (pa_cons (pe_lc (own := [("place", 2), ("mate", 3)]) (g := gTup K 2 (gCons (gName 2) (gCons (gName 3) gNil))) (tt := tYes) rfl scPieces.nd (pi_enumA (K := K) rfl (by rfl) R.enum (pa_cons (pv 1) pa_nil))
        (blkOk_by (N := nPieces) (sc := defScope sPieces) (by decide +kernel)) (fun _ _ _ _ _ => pg_tup (n := 2) rfl (pgs_cons (pg_name (i := 2) scPieces.nd rfl (Or.inl rfl)) (pgs_cons (pg_name (i := 3) scPieces.nd rfl (Or.inl rfl)) pgs_nil))) (fun _ _ _ _ _ => pts_nil)
        (fun _ _ _ _ _ => pe_tup (pa_cons (pe_ix (ixt (K := K) rfl) (pe_fldK (K := K) rfl (pv 0) rfl) (pv 2) (fun _ _ => rfl)) (pa_cons (pe_ix (ixt (K := K) rfl) (pe_fldK (K := K) rfl (pv 0) rfl) (pv 3) (fun _ _ => rfl)) pa_nil)))) pa_nil)))), ?_⟩
    have lxw : xs.length = ws.length := R1.choose_spec.choose_spec.choose_spec.choose_spec.choose_spec.2.2.1.length
    obtain ⟨dx, tw, tl, th, tn, h1, h2, h3, h4, h5, h6⟩ := id R1
    refine ⟨_, rfl, p, CR, dx, _, _, rfl, h1, TC.cl, TC.n1, rf_words, tw, _, rfl, .inr h2.sq, ?_⟩
    refine ar_lcA ?_
    refine ⟨_, rfl, m, _, rfl, hM, fun J G wk hG => ?_⟩
    refine lcY wk (fun _ _ _ _ => yp_same) (pcP ws mt) (fun _ H v b => PrN K H v b) (fun _ _ _ _ _ h s => h.same s) (fun _ _ _ _ _ _ hD h => h.put hD) (by rw [List.length_map]; omega) (by rw [List.length_map]; unfold pcP; rw [List.length_map, List.length_range]) hG ?_ (fun _ _ _ _ _ => gTup_mono) ?_
    · rintro i x b H2 H3 hb sm ⟨T, y1, y2, rfl, hT, rfl, e1, e2⟩ D hD _ Qy ky
      cases e1
      have hin : i < mt.length := by
        have := (List.getElem?_eq_some_iff.mp hb).1
        unfold pcP at this
        rwa [List.length_map, List.length_range] at this
      obtain rfl : y2 = V.int mt[i] := by
        have e2 : (iv mt)[i]? = some y2 := e2
        rw [List.getElem?_map, List.getElem?_eq_getElem hin] at e2
        exact (Option.some.inj e2).symm
      obtain ⟨z0, z1⟩ := hm _ (List.getElem_mem hin)
      have em : mt[i] = ((mt[i].toNat : Nat) : Int) := by omega
      obtain ⟨a1, b1⟩ := home_at (ws := ws) (i := i) (by omega)
      obtain ⟨a2, b2⟩ := home_at (ws := ws) (i := mt[i].toNat) (by omega)
      have eb : b = (home ws i, home ws mt[i].toNat) := by
        unfold pcP at hb
        rw [List.getElem?_map, List.getElem?_range hin] at hb
        have this : b = (home ws i, home ws (mt.getD i 0).toNat) := (Option.some.inj hb).symm
        rw [List.getD_eq_getElem?_getD, List.getElem?_eq_getElem hin] at this
        exact this
      have sT := sm.trans (same_upd (o := .tup [.int (i : Nat), .int mt[i]]) hT)
      refine ⟨T, _, rfl, SqT.of upd_same, rfl, _, _, rfl, _, _, rfl, rfl, rfl, ?_⟩
      refine ⟨_, rfl, p, CR, dx, _, _, rfl, sT _ _ h1, TC.cl, TC.n6, rf_homes, _, rfl, th, _, _, _, rfl, rfl, (SqB.same sT h5).sq, atI_nat (iv_get a1), ?_⟩
      refine ⟨_, rfl, p, CR, dx, _, _, rfl, sT _ _ h1, TC.cl, TC.n6, rf_homes, _, rfl, th, _, _, _, rfl, rfl, (SqB.same sT h5).sq, (by rw [em]; exact atI_nat (iv_get a2)), ?_⟩
      refine ⟨by show 2 ≤ sizeLine; decide, fun q hq => ?_⟩
      refine ky _ _ (same_upd hq) ⟨q, rfl, ?_⟩
      rw [eb]
      exact SqT.of upd_same
    · intro D H2 us hD s2 h2 hA
      have lu := hA.length
      refine ⟨ws.length, D, us, pcP ws mt, by rw [List.length_map, lxw]; rfl, h2, hA, by omega, ?_, ?_, fun q H3 s3 c3 => k q H3 (s2.trans s3) c3⟩
      · rw [lu]
        unfold pcP
        rw [List.length_map, List.length_range]
        omega
      · intro b hb
        unfold pcP at hb
        obtain ⟨i, hi, rfl⟩ := List.mem_map.mp hb
        rw [List.mem_range] at hi
        obtain ⟨z0, z1⟩ := hm _ (List.getElem_mem hi)
        have e : mt.getD i 0 = mt[i] := by
          rw [List.getD_eq_getElem?_getD, List.getElem?_eq_getElem hi]
          rfl
        rw [e]
        exact ⟨(home_at (by omega)).2, (home_at (by omega)).2⟩
end
end W17
set_option Elab.async false
set_option linter.all false
set_option maxRecDepth 100000
set_option maxHeartbeats 1000000
namespace W17
open PySem L2 PySem.Spec PyProof.Rows WR WB WE
theorem CornAt.same {K : PySem.W.Frag} {H H' : Hp} {a : Addr} {cs : List (List Nat)} (h : CornAt K H a cs) (s : Same H H') : CornAt K H' a cs := by
  obtain ⟨vs, h1, h2⟩ := h
  exact ⟨vs, SqB.same s h1, h2.imp fun _ _ ⟨q, e, r⟩ => ⟨q, e, SqB.same s r⟩⟩
theorem CornAt.put {K : PySem.W.Frag} {H : Hp} {a p C dx : Addr} {fs : List (Str × V)} {o : HO} {cs : List (List Nat)} (h : CornAt K H a cs) (hp : H p = some (.ins C dx fs)) : CornAt K (L2.upd H p o) a cs := by
  obtain ⟨vs, h1, h2⟩ := h
  exact ⟨vs, SqB.put h1 hp, h2.imp fun _ _ ⟨q, e, r⟩ => ⟨q, e, SqB.put r hp⟩⟩
def cornF (ws : List (List Int)) (mt : List Int) : List (List Nat) := (crn (nxF 0 ws) mt ws.flatten.length ws.flatten.length).2
def costF (ws : List (List Int)) (mt : List Int) : Int := ((ws.flatten.length / 2 : Nat) : Int) - ((cornF ws mt).length : Int)
def handF (ws : List (List Int)) (mt : List Int) : Int := (2 * ((pcF ws mt).length : Int) - (ws.length : Int) + costF ws mt) / 2
def sf (rp tm tc : Addr) (c : Int) (tp : Addr) (g : Int) : List (Str × V) := [("rims", .ref rp), ("mates", .ref tm), ("corners", .ref tc), ("cost", .int c), ("pieces", .ref tp), ("handles", .int g)]
theorem ps1 {rp : Addr} : putF "rims" (.ref rp) ([] : List (Str × V)) = ([("rims", .ref rp)] : List (Str × V)) := rfl
theorem ps2 {rp tm : Addr} : putF "mates" (.ref tm) ([("rims", .ref rp)] : List (Str × V)) = ([("rims", .ref rp), ("mates", .ref tm)] : List (Str × V)) := by
  rw [pf_ne (show ¬ (("rims" : Str) = "mates") by decide +kernel)]
  rfl
theorem ps3 {rp tm tc : Addr} : putF "corners" (.ref tc) ([("rims", .ref rp), ("mates", .ref tm)] : List (Str × V)) = ([("rims", .ref rp), ("mates", .ref tm), ("corners", .ref tc)] : List (Str × V)) := by
  rw [pf_ne (show ¬ (("rims" : Str) = "corners") by decide +kernel), pf_ne (show ¬ (("mates" : Str) = "corners") by decide +kernel)]
  rfl
theorem ps4 {rp tm tc : Addr} {c : Int} : putF "cost" (.int c) ([("rims", .ref rp), ("mates", .ref tm), ("corners", .ref tc)] : List (Str × V)) = ([("rims", .ref rp), ("mates", .ref tm), ("corners", .ref tc), ("cost", .int c)] : List (Str × V)) := by
  rw [pf_ne (show ¬ (("rims" : Str) = "cost") by decide +kernel), pf_ne (show ¬ (("mates" : Str) = "cost") by decide +kernel), pf_ne (show ¬ (("corners" : Str) = "cost") by decide +kernel)]
  rfl
theorem ps5 {rp tm tc tp : Addr} {c : Int} : putF "pieces" (.ref tp) ([("rims", .ref rp), ("mates", .ref tm), ("corners", .ref tc), ("cost", .int c)] : List (Str × V)) = ([("rims", .ref rp), ("mates", .ref tm), ("corners", .ref tc), ("cost", .int c), ("pieces", .ref tp)] : List (Str × V)) := by
  rw [pf_ne (show ¬ (("rims" : Str) = "pieces") by decide +kernel), pf_ne (show ¬ (("mates" : Str) = "pieces") by decide +kernel), pf_ne (show ¬ (("corners" : Str) = "pieces") by decide +kernel), pf_ne (show ¬ (("cost" : Str) = "pieces") by decide +kernel)]
  rfl
theorem ps6 {rp tm tc tp : Addr} {c g : Int} : putF "handles" (.int g) ([("rims", .ref rp), ("mates", .ref tm), ("corners", .ref tc), ("cost", .int c), ("pieces", .ref tp)] : List (Str × V)) = sf rp tm tc c tp g := by
  rw [pf_ne (show ¬ (("rims" : Str) = "handles") by decide +kernel), pf_ne (show ¬ (("mates" : Str) = "handles") by decide +kernel), pf_ne (show ¬ (("corners" : Str) = "handles") by decide +kernel), pf_ne (show ¬ (("cost" : Str) = "handles") by decide +kernel), pf_ne (show ¬ (("pieces" : Str) = "handles") by decide +kernel)]
  rfl
theorem sf_rims {rp tm tc tp : Addr} {c g : Int} : (sf rp tm tc c tp g).lookup ("rims" : Str) = some (.ref rp) := lk_eq
theorem sf_mates {rp tm tc tp : Addr} {c g : Int} : (sf rp tm tc c tp g).lookup ("mates" : Str) = some (.ref tm) := by
  unfold sf
  rw [lk_ne (by decide +kernel)]
  exact lk_eq
theorem sf_cost {rp tm tc tp : Addr} {c g : Int} : (sf rp tm tc c tp g).lookup ("cost" : Str) = some (.int c) := by
  unfold sf
  rw [lk_ne (by decide +kernel), lk_ne (by decide +kernel), lk_ne (by decide +kernel)]
  exact lk_eq
theorem sf_handles {rp tm tc tp : Addr} {c g : Int} : (sf rp tm tc c tp g).lookup ("handles" : Str) = some (.int g) := by
  unfold sf
  rw [lk_ne (by decide +kernel), lk_ne (by decide +kernel), lk_ne (by decide +kernel), lk_ne (by decide +kernel), lk_ne (by decide +kernel)]
  exact lk_eq
def SewAt (K : PySem.W.Frag) (C CR CS : Addr) (H : Hp) (p rp : Addr) (xs : List Addr) (ws : List (List Int)) (mt : List Int) : Prop :=
  ∃ dx tm tc tp, H p = some (.ins CS dx (sf rp tm tc (costF ws mt) tp (handF ws mt))) ∧ RimsAt K C CR H rp xs ws ∧ SqB K H tm (iv mt) ∧ CornAt K H tc (cornF ws mt) ∧ CornAt K H tp (pcF ws mt)
theorem SewAt.same {K : PySem.W.Frag} {C CR CS : Addr} {H H' : Hp} {p rp : Addr} {xs : List Addr} {ws : List (List Int)} {mt : List Int} (h : SewAt K C CR CS H p rp xs ws mt) (s : Same H H') : SewAt K C CR CS H' p rp xs ws mt := by
  obtain ⟨dx, tm, tc, tp, h1, h2, h3, h4, h5⟩ := h
  exact ⟨dx, tm, tc, tp, s _ _ h1, h2.same s, SqB.same s h3, h4.same s, h5.same s⟩
theorem tup_of {K : PySem.W.Frag} {H : Hp} {m : Addr} {xs : List V} {Q : VK} (h : SqW K H m xs) (k : NewB K H Q xs) : (SqL K H m xs ∧ NewB K H Q xs) ∨ (SqB K H m xs ∧ Q (.ref m) H) :=
  h.elim (fun a => .inl ⟨a, k⟩) fun b => .inr ⟨b, k.self b⟩
structure TxSC (K : PySem.W.Frag) (mg : Str → Option Value) (CS : Addr) : Prop where
  cl : Cls K CS
  n1 : NoAttr K CS "rims"
  n2 : NoAttr K CS "mates"
  n3 : NoAttr K CS "corners"
  n4 : NoAttr K CS "cost"
  n5 : NoAttr K CS "pieces"
  n6 : NoAttr K CS "handles"
  mgS : mg "Sewing" = some (.ref CS)
  ca : PySem.W.findIn K (.ref CS) "__class__" = some (some (.builtin "object.__class__"))
  cm : PySem.W.mroIn K CS (.type "object") = some true
def spInitS (K : PySem.W.Frag) (C CR CS : Addr) : Sp := fun vs H Q _ => ∃ (H0 : Hp) (p dx rp m : Addr) (xs : List Addr) (ws : List (List Int)) (mt : List Int), vs = [.ref p, .ref rp, .ref m] ∧ Same H0 H ∧ H0 p = none ∧ H p = some (.ins CS dx []) ∧ RimsAt K C CR H0 rp xs ws ∧ RimOk ws ∧ SqW K H0 m (iv mt) ∧ MatOk ws.flatten mt ∧
  ∀ H', Same H0 H' → SewAt K C CR CS H' p rp xs ws mt → Q .non H'
abbrev nInitS : List Str := ["self", "rims", "mates"]
section
variable {P : Program} {w : World} {K : PySem.W.Frag} {mg : Str → Option Value} {base : Heap} {C CR CS : Addr}
theorem scInitS : FnScope nInitS ["self", "rims", "mates"] (defScope sInitS) := ⟨rfl, rfl, rfl, by decide +kernel, rfl, by decide +kernel, by decide +kernel⟩
theorem ok_initS {f : Addr} {fd : FuncData} (F : Fun K "__init__" "Sewing.__init__" sInitS f fd) (TC : TxRC K mg CR) (TS : TxSC K mg CS) (TA : TxA mg) (GR : Cal P w K mg base "need_rims" 1 ["value", "part"] (spNeedR K C CR)) (GM : Cal P w K mg base "are_mates" 4 ["letters", "value"] (spAreM K))
    (GC : Cal P w K mg base "corners_of" 1 ["rims", "mates"] (spCorn K C CR)) (GP : Cal P w K mg base "pieces_of" 2 ["rims", "mates"] (spPieces K C CR)) : FnOk P w K mg base CX0 5 f fd ["self", "rims", "mates"] (spInitS K C CR CS) := by
  refine F.ok scInitS (fun vs H Q E h => ?_) (fun cdv A outer s H vs Q E hr h => ?_)
  · obtain ⟨H0, p, dx, rp, m, xs, ws, mt, rfl, _⟩ := h
    rfl
  · obtain ⟨H0, p, dx, rp, m, xs, ws, mt, rfl, s0, p0, hp, R0, ok, hM, mk, k⟩ := h
    refine ⟨_, pss_cons (ps_expr (pe_cal GR hr (by decide) (by rfl) (pa_cons (pv 1) (pa_cons pe_str pa_nil))))
      (pss_cons (ps_if (pt_not (pt_val (pe_cal GM hr (by decide) (by rfl) (pa_cons (pe_fld (pv 1) rfl) (pa_cons (pv 2) pa_nil))))) (pss_one ps_never) pss_nil)
      (pss_cons (ps_fld (pv 0) (pv 1) rfl)
      (pss_cons (ps_fld (pv 0) (pe_callTy call_tupB (by rfl) TA.tuple (by decide +kernel) (pa_cons (pv 2) pa_nil)) rfl)
      (pss_cons (ps_fld (pv 0) (pe_cal GC hr (by decide) (by rfl) (pa_cons (pv 1) (pa_cons (pv 2) pa_nil))) rfl)
      (pss_cons (ps_fld (pv 0) (pe_op op_sub (pe_fld (pv 1) rfl) (pe_callB call_len_seq (by rfl) TA.len PySem.boot_len (pa_cons (pe_fld (pv 0) rfl) pa_nil))) rfl)
      (pss_cons (ps_fld (pv 0) (pe_cal GP hr (by decide) (by rfl) (pa_cons (pv 1) (pa_cons (pv 2) pa_nil))) rfl)
      (pss_one (ps_fld (pv 0) (pe_op op_fdiv (pe_op op_add (pe_op op_sub (pe_op op_mul pe_int (pe_callB call_len_seq (by rfl) TA.len PySem.boot_len (pa_cons (pe_fld (pv 0) rfl) pa_nil))) (pe_callB call_len_seq (by rfl) TA.len PySem.boot_len (pa_cons (pe_fld (pv 1) rfl) pa_nil))) (pe_fld (pv 0) rfl)) pe_int) rfl)))))))), ?_⟩
    have l24 := ok.2.2.2.1
    obtain ⟨dr, tw, tl, th, tn, h1, h2, h3, h4, h5, h6⟩ := id R0
    have lxw : xs.length = ws.length := h3.length
    refine ⟨_, rfl, rp, _, xs, ws, rfl, R0.same s0, ?_⟩
    refine ⟨_, rfl, rp, CR, dr, _, _, rfl, s0 _ _ h1, TC.cl, TC.n2, rf_letters, _, rfl, tl, m, ws.flatten, mt, rfl, SqB.same s0 h4, hM.e.same s0, by omega, mk, fun H1 s1 => ⟨_, rfl, iteF ?_⟩⟩
    have s01 := s0.trans s1
    have hp1 := s1 _ _ hp
    -- its rims
    refine ⟨_, rfl, _, rfl, p, CS, dx, _, rfl, hp1, TS.cl, TS.n1, (by show 0 < 1000; decide), ?_⟩
    have s02 := same_put (o := (.ins CS dx (putF "rims" (.ref rp) []))) s01 p0
    have hp2 : L2.upd H1 p (.ins CS dx (putF "rims" (.ref rp) [])) p = some (.ins CS dx [("rims", .ref rp)]) := by rw [upd_same, ps1]
    obtain ⟨H2, e2⟩ : ∃ H', H' = L2.upd H1 p (.ins CS dx (putF "rims" (.ref rp) [])) := ⟨_, rfl⟩
    rw [← e2] at s02 hp2 ⊢
    clear e2
    -- its mates
    refine ⟨_, rfl, m, iv mt, rfl, tup_of (hM.same s02) fun tm H3 s3 B3 => ?_⟩
    have hp3 := s3 _ _ hp2
    have s03 := s02.trans s3
    refine ⟨_, rfl, p, CS, dx, _, rfl, hp3, TS.cl, TS.n2, (by show 1 < 1000; decide), ?_⟩
    have s04 := same_put (o := (.ins CS dx (putF "mates" (.ref tm) [("rims", .ref rp)]))) s03 p0
    have hp4 : L2.upd H3 p (.ins CS dx (putF "mates" (.ref tm) [("rims", .ref rp)])) p = some (.ins CS dx [("rims", .ref rp), ("mates", .ref tm)]) := by rw [upd_same, ps2]
    have B4 := SqB.put (o := (.ins CS dx (putF "mates" (.ref tm) [("rims", .ref rp)]))) B3 hp3
    obtain ⟨H4, e4⟩ : ∃ H', H' = L2.upd H3 p (.ins CS dx (putF "mates" (.ref tm) [("rims", .ref rp)])) := ⟨_, rfl⟩
    rw [← e4] at s04 hp4 B4 ⊢
    clear e4
    -- its corners
    refine ⟨_, rfl, _, rfl, rp, m, xs, ws, mt, rfl, R0.same s04, ok, hM.e.same s04, mk.1.1, fun tc H5 s5 C5 => ?_⟩
    have hp5 := s5 _ _ hp4
    have s05 := s04.trans s5
    have B5 := SqB.same s5 B4
    refine ⟨_, rfl, p, CS, dx, _, rfl, hp5, TS.cl, TS.n3, (by show 2 < 1000; decide), ?_⟩
    have s06 := same_put (o := (.ins CS dx (putF "corners" (.ref tc) [("rims", .ref rp), ("mates", .ref tm)]))) s05 p0
    have hp6 : L2.upd H5 p (.ins CS dx (putF "corners" (.ref tc) [("rims", .ref rp), ("mates", .ref tm)])) p = some (.ins CS dx [("rims", .ref rp), ("mates", .ref tm), ("corners", .ref tc)]) := by rw [upd_same, ps3]
    have B6 := SqB.put (o := (.ins CS dx (putF "corners" (.ref tc) [("rims", .ref rp), ("mates", .ref tm)]))) B5 hp5
    have C6 := CornAt.put (o := (.ins CS dx (putF "corners" (.ref tc) [("rims", .ref rp), ("mates", .ref tm)]))) C5 hp5
    obtain ⟨H6, e6⟩ : ∃ H', H' = L2.upd H5 p (.ins CS dx (putF "corners" (.ref tc) [("rims", .ref rp), ("mates", .ref tm)])) := ⟨_, rfl⟩
    rw [← e6] at s06 hp6 B6 C6 ⊢
    clear e6
    -- its cost
    have C6' : CornAt K H6 tc (cornF ws mt) := C6
    obtain ⟨vc, c1, c2⟩ := id C6'
    have lvc : vc.length = (cornF ws mt).length := c2.length
    refine ⟨_, rfl, rp, CR, dr, _, _, rfl, s06 _ _ h1, TC.cl, TC.n4, rf_bands, _, rfl, p, CS, dx, _, _, rfl, hp6, TS.cl, TS.n3, ?_, tc, _, rfl, .inr c1.sq, _, _, rfl, rfl, ?_⟩
    · rw [lk_ne (by decide +kernel), lk_ne (by decide +kernel)]
      exact lk_eq
    have ec : ((ws.flatten.length / 2 : Nat) : Int) - ((vc.length : Nat) : Int) = costF ws mt := by
      unfold costF
      rw [lvc]
    try dsimp only
    rw [ec]
    refine ⟨_, rfl, p, CS, dx, _, rfl, hp6, TS.cl, TS.n4, (by show 3 < 1000; decide), ?_⟩
    have s07 := same_put (o := (.ins CS dx (putF "cost" (.int (costF ws mt)) [("rims", .ref rp), ("mates", .ref tm), ("corners", .ref tc)]))) s06 p0
    have hp7 : L2.upd H6 p (.ins CS dx (putF "cost" (.int (costF ws mt)) [("rims", .ref rp), ("mates", .ref tm), ("corners", .ref tc)])) p = some (.ins CS dx [("rims", .ref rp), ("mates", .ref tm), ("corners", .ref tc), ("cost", .int (costF ws mt))]) := by rw [upd_same, ps4]
    have B7 := SqB.put (o := (.ins CS dx (putF "cost" (.int (costF ws mt)) [("rims", .ref rp), ("mates", .ref tm), ("corners", .ref tc)]))) B6 hp6
    have C7 := CornAt.put (o := (.ins CS dx (putF "cost" (.int (costF ws mt)) [("rims", .ref rp), ("mates", .ref tm), ("corners", .ref tc)]))) C6' hp6
    obtain ⟨H7, e7⟩ : ∃ H', H' = L2.upd H6 p (.ins CS dx (putF "cost" (.int (costF ws mt)) [("rims", .ref rp), ("mates", .ref tm), ("corners", .ref tc)])) := ⟨_, rfl⟩
    rw [← e7] at s07 hp7 B7 C7 ⊢
    clear e7
    -- its pieces
    refine ⟨_, rfl, _, rfl, rp, m, xs, ws, mt, rfl, R0.same s07, ok, hM.e.same s07, mk.1.1, fun tp H8 s8 P8 => ?_⟩
    have hp8 := s8 _ _ hp7
    have s08 := s07.trans s8
    have B8 := SqB.same s8 B7
    have C8 := C7.same s8
    refine ⟨_, rfl, p, CS, dx, _, rfl, hp8, TS.cl, TS.n5, (by show 4 < 1000; decide), ?_⟩
    have s09 := same_put (o := (.ins CS dx (putF "pieces" (.ref tp) [("rims", .ref rp), ("mates", .ref tm), ("corners", .ref tc), ("cost", .int (costF ws mt))]))) s08 p0
    have hp9 : L2.upd H8 p (.ins CS dx (putF "pieces" (.ref tp) [("rims", .ref rp), ("mates", .ref tm), ("corners", .ref tc), ("cost", .int (costF ws mt))])) p = some (.ins CS dx [("rims", .ref rp), ("mates", .ref tm), ("corners", .ref tc), ("cost", .int (costF ws mt)), ("pieces", .ref tp)]) := by rw [upd_same, ps5]
    have B9 := SqB.put (o := (.ins CS dx (putF "pieces" (.ref tp) [("rims", .ref rp), ("mates", .ref tm), ("corners", .ref tc), ("cost", .int (costF ws mt))]))) B8 hp8
    have C9 := CornAt.put (o := (.ins CS dx (putF "pieces" (.ref tp) [("rims", .ref rp), ("mates", .ref tm), ("corners", .ref tc), ("cost", .int (costF ws mt))]))) C8 hp8
    have P9 := CornAt.put (o := (.ins CS dx (putF "pieces" (.ref tp) [("rims", .ref rp), ("mates", .ref tm), ("corners", .ref tc), ("cost", .int (costF ws mt))]))) P8 hp8
    obtain ⟨H9, e9⟩ : ∃ H', H' = L2.upd H8 p (.ins CS dx (putF "pieces" (.ref tp) [("rims", .ref rp), ("mates", .ref tm), ("corners", .ref tc), ("cost", .int (costF ws mt))])) := ⟨_, rfl⟩
    rw [← e9] at s09 hp9 B9 C9 P9 ⊢
    clear e9
    -- its handles
    obtain ⟨vp, q1, q2⟩ := id P9
    have lvp : vp.length = (pcF ws mt).length := q2.length
    have k5 : List.lookup ("pieces" : Str) ([("rims", .ref rp), ("mates", .ref tm), ("corners", .ref tc), ("cost", .int (costF ws mt)), ("pieces", .ref tp)] : List (Str × V)) = some (.ref tp) := by
      rw [lk_ne (by decide +kernel), lk_ne (by decide +kernel), lk_ne (by decide +kernel), lk_ne (by decide +kernel)]
      exact lk_eq
    have k4 : List.lookup ("cost" : Str) ([("rims", .ref rp), ("mates", .ref tm), ("corners", .ref tc), ("cost", .int (costF ws mt)), ("pieces", .ref tp)] : List (Str × V)) = some (.int (costF ws mt)) := by
      rw [lk_ne (by decide +kernel), lk_ne (by decide +kernel), lk_ne (by decide +kernel)]
      exact lk_eq
    refine ⟨_, rfl, p, CS, dx, _, _, rfl, hp9, TS.cl, TS.n5, k5, tp, _, rfl, .inr q1.sq, _, _, rfl, rfl, .inl ⟨by decide, by decide⟩, ?_⟩
    refine ⟨_, rfl, rp, CR, dr, _, _, rfl, s09 _ _ h1, TC.cl, TC.n1, rf_words, tw, _, rfl, .inr (SqB.same s09 h2).sq, _, _, rfl, rfl, ?_⟩
    refine ⟨_, rfl, p, CS, dx, _, _, rfl, hp9, TS.cl, TS.n4, k4, _, _, rfl, rfl, ?_⟩
    refine ⟨_, _, rfl, rfl, ⟨by decide, by decide⟩, ?_⟩
    have eg : (2 * ((vp.length : Nat) : Int) - (((xs.map V.ref).length : Nat) : Int) + costF ws mt) / 2 = handF ws mt := by
      unfold handF
      rw [lvp, List.length_map, lxw]
    try dsimp only
    rw [eg]
    refine ⟨_, rfl, p, CS, dx, _, rfl, hp9, TS.cl, TS.n6, (by show 5 < 1000; decide), ?_⟩
    have s10 := same_put (o := (.ins CS dx (putF "handles" (.int (handF ws mt)) [("rims", .ref rp), ("mates", .ref tm), ("corners", .ref tc), ("cost", .int (costF ws mt)), ("pieces", .ref tp)]))) s09 p0
    refine k _ s10 ⟨dx, tm, tc, tp, by rw [upd_same, ps6], R0.same s10, SqB.put B9 hp9, C9.put hp9, P9.put hp9⟩
end
end W17
set_option Elab.async false
set_option linter.all false
set_option maxRecDepth 100000
set_option maxHeartbeats 2000000
/-! try with several except clauses, each with a name or without. -/
namespace TM
open PySem PySem.Spec PyProof.Rows L2
/-- a clause: its class, the slot of its name if it has one, what its suite says -/
structure Cla where
  of : Value
  slot : Option Nat
  say : Addr → Value → Option Addr → TS
def offS : Option Nat → L2.St → L2.St
  | none, σ => σ
  | some i, σ => σ.set i none
def onS : Option Nat → Addr → L2.St → L2.St
  | none, _, σ => σ
  | some i, a, σ => σ.set i (some (.ref a))
def endsS (o : Option Nat) (D : Ends) : Ends := { nx := fun σ H => D.nx (offS o σ) H, rt := D.rt, bk := fun σ H => D.bk (offS o σ) H, ct := fun σ H => D.ct (offS o σ) H }
/-- the first clause that fits takes it -/
def wish (K : PySem.W.Frag) (out : WX) (D : Ends) : List Cla → WX
  | [] => out
  | q :: r => fun cls d σ H => ∃ b, PySem.W.exmOne K cls q.of = some b ∧ (b = true → ∀ a, H a = none → q.say a cls d (endsS q.slot D) (onS q.slot a σ) H) ∧ (b = false → wish K out D r cls d σ H)
def Says (X : Cx) (bs : List Stmt) (say : Addr → Value → Option Addr → TS) : Prop :=
  ∀ (a : Addr) (o : Obj) (cls : Value) (d : Option Addr) (pn : List (Addr × Obj)), Zc cls d o → (∃ vs, o.data = .fields vs) → PSs (X.suite a ((a, o) :: pn)) bs (say a cls d)
inductive Fit (X : Cx) : ExceptHandler → Cla → Prop
  | bare {x : Str} {c : Value} {say : Addr → Value → Option Addr → TS} {b : Stmt} {bs : List Stmt} {p1 p2 : Pos} (hc : Names X x c) (hs : Says X (b :: bs) say) : Fit X (.ExceptHandler (some (.Name x p1)) none (b :: bs) p2) ⟨c, none, say⟩
  | named {x n : Str} {i : Nat} {c : Value} {say : Addr → Value → Option Addr → TS} {b : Stmt} {bs : List Stmt} {p1 p2 : Pos} (hN : X.N.Nodup) (hi : X.N[i]? = some n) (hl : X.env.kindOf n = some .local) (hc : Names X x c) (hs : Says X (b :: bs) say) :
      Fit X (.ExceptHandler (some (.Name x p1)) (some n) (b :: bs) p2) ⟨c, some i, say⟩
inductive Fits (X : Cx) : List ExceptHandler → List Cla → Prop
  | nil : Fits X [] []
  | cons {h : ExceptHandler} {q : Cla} {hs : List ExceptHandler} {l : List Cla} (f : Fit X h q) (r : Fits X hs l) : Fits X (h :: hs) (q :: l)
/-- an exception that flies over X's frame, with the state that it left -/
structure Held (X : Cx) (pins : List (Addr × Obj)) (σ : L2.St) (H : Hp) (cls : Value) (d : Option Addr) (a : Addr) (B : Heap) (s0 s : Shared) : Prop where
  inv : Inv X pins σ H s0
  old : ∀ b o, s0.heap.get? b = some o → b ∉ frs X.stack → B.get? b = some o
  up : s0.heap.UpToSlots s.heap
  fly : HandSPX.FlyingZ B (X.env :: X.outer) a (Zc cls d) s.heap
  os : s.os = s0.os
  bare : AllBare s.gens
  free : H a = none
section
variable {X : Cx} {pins : List (Addr × Obj)} {σ : L2.St} {H : Hp} {D : Ends} {out : WX} {cls : Value} {d : Option Addr} {a : Addr} {B : Heap} {s0 s : Shared}
theorem Held.now (h : Held X pins σ H cls d a B s0 s) : Inv X pins σ H s := h.inv.landed h.old h.fly.1 h.up h.os h.bare
theorem Held.pinned (h : Held X pins σ H cls d a B s0 s) (hf : X.env.frame = some X.env.locals) : ∃ o : Obj, s.heap.get? a = some o ∧ Zc cls d o ∧ (∃ vs, o.data = .fields vs) ∧ Inv (X.suite a ((a, o) :: (X.pn ++ pins))) [] σ H s := by
  obtain ⟨o, vs, ea, z, ed⟩ := h.fly.there
  have out_ : a ∉ frs (X.env :: X.outer) := fun hm => by
    obtain ⟨_, o', e', nf⟩ := h.fly.2.2.1.mem hm
    rw [ea] at e'
    cases e'
    exact nf _ ed
  have n1 : a ≠ X.env.locals := fun z => out_ (List.mem_filterMap.mpr ⟨X.env, List.mem_cons_self, by rw [hf, z]⟩)
  have n2 : a ∉ X.fs := fun hm => by
    obtain ⟨e, he, q⟩ := List.mem_filterMap.mp hm
    exact out_ (List.mem_filterMap.mpr ⟨e, List.mem_cons_of_mem _ he, q⟩)
  exact ⟨o, ea, z, ⟨vs, ed⟩, h.now.suite ea ed h.free n1 n2⟩
theorem Held.pass (h : Held X pins σ H cls d a B s0 s) (hs : X.stack = X.env :: X.outer) (hf : X.env.frame = some X.env.locals) (tk : Takes X out) (w : out cls d σ H) : wpAny (model X.prog X.w) X.A (handleBy (.ref a) X.env []) (SP X pins D) X.xe s := by
  obtain ⟨_, _, _, oe, vs, T, oT, ts', he, hz, hd, h1, _⟩ := id h.fly
  refine wpAny_handleBy_nil ?_
  unfold PySem.passOn
  refine wpAny_bind (wpAny_field he hd h1 ?_)
  rw [if_neg (show ¬ ((Value.ref T == Value.none) = true) from by simp)]
  have last : wpAny (model X.prog X.w) X.A (setFlight (.ref a) X.env.frame) (fun _ s4 => wpAny (model X.prog X.w) X.A (throw (.ref a) : Sem Flow) (SP X pins D) X.xe s4) X.xe s := by
    rw [hf]
    exact HandSPX.setFlight_upZ h.fly fun h4 hh4 up4 => wpAny_throw (tk _ _ ⟨a, B, s0, pins, σ, H, cls, d, rfl, h.inv, h.old, h.up.trans up4, .inr (.inr (by rw [hs]; exact hh4)), h.free, h.os, h.bare, w⟩)
  first
    | exact wpAny_bind (wpAny_pure (wpAny_bind last))
    | exact wpAny_bind last
end
end TM
set_option Elab.async false
set_option linter.all false
set_option maxRecDepth 100000
set_option maxHeartbeats 600000
/-! Rounds of a permutation of 0 to n - 1: how many there are, and what an exchange of two places does to that. -/
namespace Cy
/-- f goes from below n to below n, no two to one -/
structure Bij (n : Nat) (f : Nat → Nat) : Prop where
  lt : ∀ i, i < n → f i < n
  inj : ∀ i j, i < n → j < n → f i = f j → i = j
/-- the greatest place passed over -/
def byp (n : Nat) (f : Nat → Nat) : Nat → Nat := fun x => if f x = n then f n else f x
def cyc : Nat → (Nat → Nat) → Nat
  | 0, _ => 0
  | n + 1, f => (if f n = n then 1 else 0) + cyc n (byp n f)
def swp (a b x : Nat) : Nat := if x = a then b else if x = b then a else x
theorem swp_l (a b : Nat) : swp a b a = b := if_pos rfl
theorem swp_r (a b : Nat) : swp a b b = a := by
  unfold swp
  split
  · rename_i h; exact h
  · rw [if_pos rfl]
theorem swp_o {a b x : Nat} (h1 : x ≠ a) (h2 : x ≠ b) : swp a b x = x := by
  unfold swp
  rw [if_neg h1, if_neg h2]
theorem swp_comm (a b x : Nat) : swp a b x = swp b a x := by
  by_cases h1 : x = a
  · subst h1
    rw [swp_l, swp_r]
  · by_cases h2 : x = b
    · subst h2
      rw [swp_l, swp_r]
    · rw [swp_o h1 h2, swp_o h2 h1]
theorem swp_swp (a b x : Nat) : swp a b (swp a b x) = x := by
  by_cases h1 : x = a
  · subst h1
    rw [swp_l, swp_r]
  · by_cases h2 : x = b
    · subst h2
      rw [swp_r, swp_l]
    · rw [swp_o h1 h2, swp_o h1 h2]
theorem swp_lt {n a b x : Nat} (ha : a < n) (hb : b < n) (hx : x < n) : swp a b x < n := by
  unfold swp
  split
  · exact hb
  · split
    · exact ha
    · exact hx
theorem Bij.swp {n : Nat} {f : Nat → Nat} (h : Bij n f) {a b : Nat} (ha : a < n) (hb : b < n) : Bij n fun x => f (Cy.swp a b x) :=
  ⟨fun i hi => h.lt _ (swp_lt ha hb hi), fun i j hi hj e => by
    have := h.inj _ _ (swp_lt ha hb hi) (swp_lt ha hb hj) e
    rw [← swp_swp a b i, this, swp_swp]⟩
theorem Bij.byp {n : Nat} {f : Nat → Nat} (h : Bij (n + 1) f) : Bij n (Cy.byp n f) := by
  refine ⟨fun i hi => ?_, fun i j hi hj e => ?_⟩
  · unfold Cy.byp
    split
    · rename_i hf
      have h1 := h.lt n (by omega)
      have : f n ≠ n := fun q => by
        have := h.inj i n (by omega) (by omega) (hf.trans q.symm)
        omega
      omega
    · have h1 := h.lt i (by omega)
      omega
  · unfold Cy.byp at e
    split at e
    · rename_i hf
      split at e
      · rename_i hg
        exact h.inj i j (by omega) (by omega) (hf.trans hg.symm)
      · have := h.inj n j (by omega) (by omega) e
        omega
    · split at e
      · have := h.inj i n (by omega) (by omega) e
        omega
      · exact h.inj i j (by omega) (by omega) e
theorem cyc_congr : ∀ (n : Nat) (f g : Nat → Nat), (∀ i, i < n → f i = g i) → Bij n f → cyc n f = cyc n g
  | 0, _, _, _, _ => rfl
  | n + 1, f, g, h, hb => by
    unfold cyc
    rw [h n (by omega)]
    congr 1
    refine cyc_congr n _ _ (fun i hi => ?_) hb.byp
    unfold byp
    rw [h n (by omega), h i (by omega)]
/-- a place that is hit -/
theorem Bij.hit {n : Nat} {f : Nat → Nat} (h : Bij n f) {y : Nat} (hy : y < n) : ∃ x, x < n ∧ f x = y := by
  refine Decidable.byContradiction fun no => ?_
  have nd : (y :: (List.range n).map f).Nodup := by
    refine List.nodup_cons.mpr ⟨fun hm => ?_, ?_⟩
    · obtain ⟨x, hx, e⟩ := List.mem_map.mp hm
      exact no ⟨x, List.mem_range.mp hx, e⟩
    · refine List.pairwise_map.mpr ((List.nodup_range (n := n)).imp_of_mem fun {a b} ha hb ne e => ?_)
      exact ne (h.inj a b (List.mem_range.mp ha) (List.mem_range.mp hb) e)
  have := L2.nat_nodup_len _ (List.range n) nd fun x hx => by
    rcases List.mem_cons.mp hx with rfl | hx
    · exact List.mem_range.mpr hy
    · obtain ⟨z, hz, rfl⟩ := List.mem_map.mp hx
      exact List.mem_range.mpr (h.lt z (List.mem_range.mp hz))
  rw [List.length_cons, List.length_map, List.length_range] at this
  omega
/-- two places exchanged: one round more or one less -/
theorem cyc_swp : ∀ (n : Nat) (f : Nat → Nat) (a b : Nat), Bij n f → a < n → b < n → a ≠ b → cyc n (fun x => f (swp a b x)) = cyc n f + 1 ∨ cyc n f = cyc n (fun x => f (swp a b x)) + 1
  | 0, _, _, _, _, h, _, _ => absurd h (Nat.not_lt_zero _)
  | n + 1, f, a, b, hB, ha, hb, ne => by
    have main : ∀ a, a < n → cyc (n + 1) (fun x => f (swp a n x)) = cyc (n + 1) f + 1 ∨ cyc (n + 1) f = cyc (n + 1) (fun x => f (swp a n x)) + 1 := by
      intro a ha
      have hf' : Bij (n + 1) (fun x => f (swp a n x)) := hB.swp (by omega) (by omega)
      have ean : (fun x => f (swp a n x)) n = f a := by show f (swp a n n) = f a; rw [swp_r]
      have eaa : f (swp a n a) = f n := by rw [swp_l]
      have eo : ∀ x, x ≠ a → x < n → f (swp a n x) = f x := fun x h1 h2 => by rw [swp_o h1 (by omega)]
      by_cases h1 : f n = n
      · right
        have hfa : f a ≠ n := fun q => by
          have := hB.inj a n (by omega) (by omega) (q.trans h1.symm)
          omega
        unfold cyc
        rw [if_pos h1, if_neg (by rw [ean]; exact hfa)]
        have : cyc n (byp n fun x => f (swp a n x)) = cyc n (byp n f) := by
          refine cyc_congr n _ _ (fun i hi => ?_) hf'.byp
          unfold byp
          show (if f (swp a n i) = n then f (swp a n n) else f (swp a n i)) = _
          rw [swp_r]
          by_cases hi' : i = a
          · subst hi'
            rw [swp_l, if_pos h1, if_neg hfa]
          · rw [eo i hi' hi]
            have : f i ≠ n := fun q => by
              have := hB.inj i n (by omega) (by omega) (q.trans h1.symm)
              omega
            rw [if_neg this, if_neg this]
        omega
      · by_cases h2 : f a = n
        · left
          unfold cyc
          rw [if_neg h1, if_pos (by rw [ean]; exact h2)]
          have : cyc n (byp n fun x => f (swp a n x)) = cyc n (byp n f) := by
            refine cyc_congr n _ _ (fun i hi => ?_) hf'.byp
            unfold byp
            show (if f (swp a n i) = n then f (swp a n n) else f (swp a n i)) = _
            rw [swp_r]
            by_cases hi' : i = a
            · subst hi'
              rw [swp_l, if_neg h1, if_pos h2]
            · rw [eo i hi' hi]
              have : f i ≠ n := fun q => by
                have := hB.inj i a (by omega) (by omega) (q.trans h2.symm)
                omega
              rw [if_neg this, if_neg this]
          omega
        · obtain ⟨c, hc, ec⟩ := hB.hit (y := n) (by omega)
          have hcn : c ≠ n := fun q => h1 (by rw [q] at ec; exact ec)
          have hca : c ≠ a := fun q => h2 (by rw [q] at ec; exact ec)
          have hc' : c < n := by omega
          unfold cyc
          rw [if_neg h1, if_neg (by rw [ean]; exact h2)]
          have : cyc n (byp n fun x => f (swp a n x)) = cyc n (fun x => byp n f (swp a c x)) := by
            refine cyc_congr n _ _ (fun i hi => ?_) hf'.byp
            unfold byp
            show (if f (swp a n i) = n then f (swp a n n) else f (swp a n i)) = (if f (swp a c i) = n then f n else f (swp a c i))
            rw [swp_r]
            by_cases hi' : i = a
            · subst hi'
              rw [swp_l, swp_l, if_neg h1, if_pos ec]
            · rw [eo i hi' hi]
              by_cases hic : i = c
              · subst hic
                rw [swp_r, if_pos ec, if_neg h2]
              · rw [swp_o hi' hic]
                have : f i ≠ n := fun q => hic (hB.inj i c (by omega) hc (q.trans ec.symm))
                rw [if_neg this, if_neg this]
          rw [this]
          have ih := cyc_swp n (byp n f) a c hB.byp ha hc' (Ne.symm hca)
          omega
    by_cases hbn : b = n
    · subst hbn
      exact main a (by omega)
    · by_cases han : a = n
      · subst han
        have e : (fun x => f (swp a b x)) = fun x => f (swp b a x) := by
          funext x
          rw [swp_comm]
        rw [e]
        exact main b (by omega)
      · have hf' : Bij (n + 1) (fun x => f (swp a b x)) := hB.swp ha hb
        have e1 : f (swp a b n) = f n := by rw [swp_o (by omega) (by omega)]
        unfold cyc
        show ((if f (swp a b n) = n then 1 else 0) + _ = _ + 1) ∨ (_ = (if f (swp a b n) = n then 1 else 0) + _ + 1)
        rw [e1]
        have : cyc n (byp n fun x => f (swp a b x)) = cyc n (fun x => byp n f (swp a b x)) := by
          refine cyc_congr n _ _ (fun i hi => ?_) hf'.byp
          unfold byp
          show (if f (swp a b i) = n then f (swp a b n) else f (swp a b i)) = _
          rw [e1]
        rw [this]
        have ih := cyc_swp n (byp n f) a b hB.byp (by omega) (by omega) ne
        omega
/-! ### the rounds, by what one place leads to -/
def it (f : Nat → Nat) : Nat → Nat → Nat
  | 0, x => x
  | k + 1, x => it f k (f x)
def Rch (f : Nat → Nat) (i j : Nat) : Prop := ∃ k, it f k i = j
/-- no place ahead leads to i -/
def New (f : Nat → Nat) (i : Nat) : Prop := ∀ i', i' < i → ¬ Rch f i' i
open Classical in
noncomputable def cnt (f : Nat → Nat) : Nat → Nat
  | 0 => 0
  | n + 1 => cnt f n + if New f n then 1 else 0
theorem it_lt {n : Nat} {f : Nat → Nat} (h : ∀ i, i < n → f i < n) : ∀ (k x : Nat), x < n → it f k x < n
  | 0, _, hx => hx
  | k + 1, x, hx => it_lt h k (f x) (h x hx)
theorem it_add (f : Nat → Nat) : ∀ (j k x : Nat), it f (j + k) x = it f k (it f j x)
  | 0, k, x => by rw [Nat.zero_add]; rfl
  | j + 1, k, x => by
    rw [show j + 1 + k = (j + k) + 1 by omega]
    exact it_add f j k (f x)
theorem Rch.refl (f : Nat → Nat) (i : Nat) : Rch f i i := ⟨0, rfl⟩
theorem Rch.trans {f : Nat → Nat} {i j k : Nat} (h : Rch f i j) (h2 : Rch f j k) : Rch f i k := by
  obtain ⟨a, rfl⟩ := h
  obtain ⟨b, rfl⟩ := h2
  exact ⟨a + b, it_add f a b i⟩
theorem Rch.step (f : Nat → Nat) (i : Nat) : Rch f i (f i) := ⟨1, rfl⟩
theorem byp_to {n : Nat} {f : Nat → Nat} (h : Bij (n + 1) f) : ∀ (k x : Nat), x < n → ∀ y, y < n → it f k x = y → Rch (byp n f) x y
  | 0, x, _, y, _, e => ⟨0, e⟩
  | k + 1, x, hx, y, hy, e => by
    by_cases hn : f x = n
    · cases k with
      | zero =>
        have : f x = y := e
        omega
      | succ k =>
        have e2 : it f k (f n) = y := by
          have : it f k (f (f x)) = y := e
          rw [hn] at this
          exact this
        have hfn : f n < n := by
          have h1 := h.lt n (by omega)
          have : f n ≠ n := fun q => by
            have := h.inj x n (by omega) (by omega) (hn.trans q.symm)
            omega
          omega
        have := byp_to h k (f n) hfn y hy e2
        refine Rch.trans ?_ this
        have e3 : byp n f x = f n := if_pos hn
        rw [← e3]
        exact Rch.step _ _
    · have hfx : f x < n := by
        have := h.lt x (by omega)
        omega
      have := byp_to h k (f x) hfx y hy e
      refine Rch.trans ?_ this
      have e3 : byp n f x = f x := if_neg hn
      rw [← e3]
      exact Rch.step _ _
theorem byp_of {n : Nat} {f : Nat → Nat} : ∀ (k x y : Nat), it (byp n f) k x = y → Rch f x y
  | 0, x, y, e => ⟨0, e⟩
  | k + 1, x, y, e => by
    refine Rch.trans ?_ (byp_of k _ y e)
    unfold byp
    split
    · rename_i h
      refine Rch.trans (Rch.step f x) ?_
      rw [h]
      exact Rch.step f n
    · exact Rch.step f x
theorem New.byp {n : Nat} {f : Nat → Nat} (h : Bij (n + 1) f) {i : Nat} (hi : i < n) : New f i ↔ New (Cy.byp n f) i := by
  refine ⟨fun hn i' h' ⟨k, e⟩ => hn i' h' (byp_of k i' i e), fun hn i' h' ⟨k, e⟩ => hn i' h' (byp_to h k i' (by omega) i hi e)⟩
theorem New.last {n : Nat} {f : Nat → Nat} (h : Bij (n + 1) f) : New f n ↔ f n = n := by
  refine ⟨fun hn => ?_, fun e i' h' ⟨k, ek⟩ => ?_⟩
  · refine Decidable.byContradiction fun q => ?_
    obtain ⟨x, hx, ex⟩ := h.hit (y := n) (by omega)
    have : x ≠ n := fun z => q (by rw [z] at ex; exact ex)
    exact hn x (by omega) ⟨1, ex⟩
  · have : ∀ (k x : Nat), x < n → it f k x < n := by
      intro k
      induction k with
      | zero => exact fun x hx => hx
      | succ k ih =>
        intro x hx
        refine ih (f x) ?_
        have h1 := h.lt x (by omega)
        have : f x ≠ n := fun q => by
          have := h.inj x n (by omega) (by omega) (q.trans e.symm)
          omega
        omega
    have := this k i' h'
    omega
theorem cnt_byp {n : Nat} {f : Nat → Nat} (h : Bij (n + 1) f) : ∀ m, m ≤ n → cnt f m = cnt (byp n f) m
  | 0, _ => rfl
  | m + 1, hm => by
    unfold cnt
    rw [cnt_byp h m (by omega)]
    congr 1
    have := New.byp h (i := m) (by omega)
    by_cases hn : New f m
    · rw [if_pos hn, if_pos (this.mp hn)]
    · rw [if_neg hn, if_neg fun q => hn (this.mpr q)]
theorem cnt_cyc : ∀ (n : Nat) (f : Nat → Nat), Bij n f → cnt f n = cyc n f
  | 0, _, _ => rfl
  | n + 1, f, h => by
    unfold cnt cyc
    rw [cnt_byp h n (Nat.le_refl _), cnt_cyc n _ h.byp, Nat.add_comm]
    congr 1
    have := New.last h
    by_cases hn : New f n
    · rw [if_pos hn, if_pos (this.mp hn)]
    · rw [if_neg hn, if_neg fun q => hn (this.mpr q)]
end Cy
set_option Elab.async false
set_option linter.all false
set_option maxRecDepth 100000
set_option maxHeartbeats 600000
namespace W17
open PySem L2 PySem.Spec PyProof.Rows WR WB WE
/-! ### how many corners there are -/
theorem orb_all {nx mt : List Int} {n : Nat} (hlt : ∀ x, x < n → nxt nx mt x < n) : ∀ (k p : Nat) (s c : List Nat), SeenOk n s → p < n → n - s.length < k → (∀ x ∈ s, nxt nx mt x ∈ s ∨ nxt nx mt x = p) →
    SeenOk n (orb nx mt k s p c).1 ∧ (∀ x ∈ (orb nx mt k s p c).1, nxt nx mt x ∈ (orb nx mt k s p c).1) ∧ p ∈ (orb nx mt k s p c).1 ∧ (∀ x ∈ s, x ∈ (orb nx mt k s p c).1) ∧ (∀ j ∈ (orb nx mt k s p c).1, j ∈ s ∨ Cy.Rch (nxt nx mt) p j) ∧ ∃ t, (orb nx mt k s p c).2 = c ++ t ∧ (t = [] ↔ p ∈ s)
  | 0, _, s, _, _, _, hk, _ => absurd hk (Nat.not_lt_zero _)
  | k + 1, p, s, c, ok, hp, hk, hc => by
    by_cases h : p ∈ s
    · rw [orb_in (by omega) h]
      exact ⟨ok, fun x hx => (hc x hx).elim id fun e => e ▸ h, h, fun _ h => h, fun _ h => .inl h, [], (List.append_nil _).symm, by simp [h]⟩
    · rw [orb_out h]
      have hl := ok.lt hp h
      have ok2 : SeenOk n (p :: s) := ⟨List.nodup_cons.mpr ⟨h, ok.1⟩, fun x hx => by
        rcases List.mem_cons.mp hx with rfl | hx
        · exact hp
        · exact ok.2 x hx⟩
      obtain ⟨i1, i2, i3, i4, i5, t, i6, _⟩ := orb_all hlt k (nxt nx mt p) (p :: s) (c ++ [p]) ok2 (hlt p hp) (by rw [List.length_cons]; omega) fun x hx => by
        rcases List.mem_cons.mp hx with rfl | hx
        · exact .inr rfl
        · rcases hc x hx with e | e
          · exact .inl (List.mem_cons_of_mem _ e)
          · exact .inl (e ▸ List.mem_cons_self)
      refine ⟨i1, i2, i4 p List.mem_cons_self, fun x hx => i4 x (List.mem_cons_of_mem _ hx), fun j hj => ?_, p :: t, by rw [i6, List.append_assoc]; rfl, by simp [h]⟩
      rcases i5 j hj with hj | hj
      · rcases List.mem_cons.mp hj with rfl | hj
        · exact .inr (Cy.Rch.refl _ _)
        · exact .inl hj
      · exact .inr ((Cy.Rch.step _ p).trans hj)
theorem crn_all {nx mt : List Int} {n : Nat} (hlt : ∀ x, x < n → nxt nx mt x < n) : ∀ m, m ≤ n → SeenOk n (crn nx mt n m).1 ∧ (∀ x ∈ (crn nx mt n m).1, nxt nx mt x ∈ (crn nx mt n m).1) ∧ (∀ j, j ∈ (crn nx mt n m).1 ↔ ∃ i, i < m ∧ Cy.Rch (nxt nx mt) i j) ∧ (crn nx mt n m).2.length = Cy.cnt (nxt nx mt) m
  | 0, _ => ⟨⟨List.nodup_nil, fun _ h => nomatch h⟩, (fun _ h => nomatch h), fun j => ⟨(fun h => nomatch h), fun ⟨i, h, _⟩ => absurd h (Nat.not_lt_zero _)⟩, rfl⟩
  | m + 1, hm => by
    obtain ⟨h1, h2, h3, h4⟩ := crn_all hlt m (by omega)
    obtain ⟨i1, i2, i3, i4, i5, t, i6, i7⟩ := orb_all (mt := mt) hlt (n + 1) m (crn nx mt n m).1 [] h1 (by omega) (by omega) fun x hx => .inl (h2 x hx)
    refine ⟨i1, i2, fun j => ⟨fun hj => ?_, fun ⟨i, hi, hr⟩ => ?_⟩, ?_⟩
    · rcases i5 j hj with hj | hj
      · obtain ⟨i, hi, hr⟩ := (h3 j).mp hj
        exact ⟨i, by omega, hr⟩
      · exact ⟨m, by omega, hj⟩
    · have cl : ∀ (k x : Nat), x ∈ (crn nx mt n (m + 1)).1 → Cy.it (nxt nx mt) k x ∈ (crn nx mt n (m + 1)).1 := by
        intro k
        induction k with
        | zero => exact fun x hx => hx
        | succ k ih => exact fun x hx => ih _ (i2 x hx)
      obtain ⟨k, rfl⟩ := hr
      refine cl k i ?_
      by_cases he : i = m
      · subst he
        exact i3
      · exact i4 i ((h3 i).mpr ⟨i, by omega, Cy.Rch.refl _ _⟩)
    · have e : (crn nx mt n (m + 1)).2 = if (orb nx mt (n + 1) (crn nx mt n m).1 m []).2 = [] then (crn nx mt n m).2 else (crn nx mt n m).2 ++ [(orb nx mt (n + 1) (crn nx mt n m).1 m []).2] := rfl
      have hn : Cy.New (nxt nx mt) m ↔ ¬ m ∈ (crn nx mt n m).1 := by
        rw [h3]
        exact ⟨fun h ⟨i, hi, hr⟩ => h i hi hr, fun h i hi hr => h ⟨i, hi, hr⟩⟩
      rw [e, i6, List.nil_append]
      unfold Cy.cnt
      by_cases hs : m ∈ (crn nx mt n m).1
      · rw [if_pos (i7.mpr hs), if_neg (fun q => hn.mp q hs), h4]
        rfl
      · rw [if_neg (fun q => hs (i7.mp q)), if_pos (hn.mpr hs), List.length_append, h4]
        rfl
theorem nxF_nodup : ∀ (ws : List (List Int)) (f : Nat), (∀ w ∈ ws, w ≠ []) → (nxF f ws).Nodup
  | [], _, _ => List.nodup_nil
  | w :: r, f, hne => by
    unfold nxF
    have hl : 0 < w.length := List.length_pos_iff.mpr (hne w List.mem_cons_self)
    refine List.nodup_append.mpr ⟨?_, nxF_nodup r _ fun u hu => hne u (List.mem_cons_of_mem _ hu), fun a ha b hb e => ?_⟩
    · refine List.pairwise_map.mpr ((List.nodup_range (n := w.length)).imp_of_mem fun {a b} ha hb ne e => ne ?_)
      have ha := List.mem_range.mp ha
      have hb := List.mem_range.mp hb
      have e2 : (a + 1) % w.length = (b + 1) % w.length := by omega
      by_cases h1 : a + 1 = w.length
      · by_cases h2 : b + 1 = w.length
        · omega
        · rw [h1, Nat.mod_self, Nat.mod_eq_of_lt (by omega)] at e2
          omega
      · by_cases h2 : b + 1 = w.length
        · rw [h2, Nat.mod_self, Nat.mod_eq_of_lt (by omega)] at e2
          omega
        · rw [Nat.mod_eq_of_lt (by omega), Nat.mod_eq_of_lt (by omega)] at e2
          omega
    · obtain ⟨t, ht, rfl⟩ := List.mem_map.mp ha
      have h1 := Nat.mod_lt (t + 1) hl
      have h2 := nxF_lo r (f + w.length) b hb
      omega
where
  nxF_lo : ∀ (ws : List (List Int)) (f : Nat), ∀ z ∈ nxF f ws, (f : Int) ≤ z
    | [], _, z, h => nomatch h
    | w :: r, f, z, h => by
      unfold nxF at h
      rcases List.mem_append.mp h with h | h
      · obtain ⟨t, ht, rfl⟩ := List.mem_map.mp h
        omega
      · have := nxF_lo r (f + w.length) z h
        omega
theorem getD_lt {xs : List Int} {i : Nat} (h : i < xs.length) : xs.getD i 0 = xs[i] := by
  rw [List.getD_eq_getElem?_getD, List.getElem?_eq_getElem h]
  rfl
theorem nodup_inj {xs : List Int} (h : xs.Nodup) {i j : Nat} (hi : i < xs.length) (hj : j < xs.length) (e : xs[i] = xs[j]) : i = j := by
  have hp := List.pairwise_iff_getElem.mp h
  rcases Nat.lt_trichotomy i j with l | l | l
  · exact absurd e (hp i j hi hj l)
  · exact l
  · exact absurd e.symm (hp j i hj hi l)
/-- a mate is a place -/
def mtn (mt : List Int) (i : Nat) : Nat := (mt.getD i 0).toNat
theorem mtn_at {n : Nat} {mt : List Int} (h : MatesOk n mt) {i : Nat} (hi : i < n) : mtn mt i < n ∧ mt[i]? = some ((mtn mt i : Nat) : Int) ∧ mt.getD i 0 = ((mtn mt i : Nat) : Int) := by
  have hl : i < mt.length := by rw [h.1]; exact hi
  have hz := h.2 _ (List.getElem_mem hl)
  have e : mt.getD i 0 = ((mtn mt i : Nat) : Int) := by
    unfold mtn
    rw [getD_lt hl]
    omega
  refine ⟨?_, ?_, e⟩
  · unfold mtn
    rw [getD_lt hl]
    omega
  · rw [List.getElem?_eq_getElem hl, ← e, getD_lt hl]
theorem pair_inv {n : Nat} {mt : List Int} (h : PairOk n mt) {i : Nat} (hi : i < n) : mtn mt (mtn mt i) = i ∧ mtn mt i ≠ i := by
  have hl : i < mt.length := by rw [h.1.1]; exact hi
  obtain ⟨a1, a2, a3⟩ := mtn_at h.1 hi
  obtain ⟨p1, p2⟩ := h.2 i hl
  have e : mt[i] = ((mtn mt i : Nat) : Int) := by rw [← getD_lt hl]; exact a3
  rw [e] at p1 p2
  rw [Int.toNat_natCast] at p2
  refine ⟨?_, fun q => p1 (by rw [q])⟩
  have := (mtn_at h.1 a1).2.1
  rw [p2] at this
  have := Option.some.inj this
  omega
theorem bij_nxt {ws : List (List Int)} (hne : ∀ w ∈ ws, w ≠ []) {mt : List Int} (h : PairOk ws.flatten.length mt) : Cy.Bij ws.flatten.length (nxt (nxF 0 ws) mt) := by
  have hx : (nxF 0 ws).length = ws.flatten.length := nxF_len ws 0
  have rng : ∀ i (hi : i < (nxF 0 ws).length), 0 ≤ (nxF 0 ws)[i] ∧ (nxF 0 ws)[i] < (ws.flatten.length : Int) := fun i hi => by
    have := nxF_rng ws 0 hne _ (List.getElem_mem hi)
    omega
  have val : ∀ i (hi : i < ws.flatten.length), ((nxt (nxF 0 ws) mt i : Nat) : Int) = (nxF 0 ws)[mtn mt i]'(by rw [hx]; exact (mtn_at h.1 hi).1) := fun i hi => by
    have h1 := (mtn_at h.1 hi).1
    have hl : mtn mt i < (nxF 0 ws).length := by rw [hx]; exact h1
    show (((nxF 0 ws).getD (mtn mt i) 0).toNat : Int) = _
    rw [getD_lt hl]
    have := rng _ hl
    omega
  refine ⟨fun i hi => ?_, fun i j hi hj e => ?_⟩
  · have := val i hi
    have := rng (mtn mt i) (by rw [hx]; exact (mtn_at h.1 hi).1)
    omega
  · have e2 : ((nxt (nxF 0 ws) mt i : Nat) : Int) = ((nxt (nxF 0 ws) mt j : Nat) : Int) := by rw [e]
    rw [val i hi, val j hj] at e2
    have := nodup_inj (nxF_nodup ws 0 hne) _ _ e2
    have h1 := (pair_inv h hi).1
    rw [this, (pair_inv h hj).1] at h1
    exact h1.symm
theorem corn_cyc {ws : List (List Int)} (hne : ∀ w ∈ ws, w ≠ []) {mt : List Int} (h : PairOk ws.flatten.length mt) : (cornF ws mt).length = Cy.cyc ws.flatten.length (nxt (nxF 0 ws) mt) := by
  have hb := bij_nxt hne h
  rw [← Cy.cnt_cyc _ _ hb]
  exact (crn_all hb.lt ws.flatten.length (Nat.le_refl _)).2.2.2
/-! ### two places exchange mates -/
/-- the mates when p and q give each other theirs -/
def swpF (mt : List Int) (p q : Nat) : List Int := (List.range mt.length).map fun i => ((Cy.swp p q (mtn mt (Cy.swp p q i)) : Nat) : Int)
theorem swpF_len (mt : List Int) (p q : Nat) : (swpF mt p q).length = mt.length := by
  unfold swpF
  rw [List.length_map, List.length_range]
theorem swpF_get {mt : List Int} {p q i : Nat} (hi : i < (swpF mt p q).length) : (swpF mt p q)[i] = ((Cy.swp p q (mtn mt (Cy.swp p q i)) : Nat) : Int) := by
  simp [swpF]
theorem swpF_mtn {mt : List Int} {p q i : Nat} (hi : i < mt.length) : mtn (swpF mt p q) i = Cy.swp p q (mtn mt (Cy.swp p q i)) := by
  have hl : i < (swpF mt p q).length := by rw [swpF_len]; exact hi
  show ((swpF mt p q).getD i 0).toNat = _
  rw [getD_lt hl, swpF_get hl, Int.toNat_natCast]
theorem mates_ok_of {n : Nat} {mt : List Int} (hl : mt.length = n) (g : Nat → Nat) (hg : ∀ i (hi : i < mt.length), mt[i] = ((g i : Nat) : Int) ∧ g i < n ∧ g i ≠ i ∧ g (g i) = i) : PairOk n mt := by
  refine ⟨⟨hl, fun z hz => ?_⟩, fun i hi => ?_⟩
  · obtain ⟨i, hi, rfl⟩ := List.getElem_of_mem hz
    have := hg i hi
    omega
  · obtain ⟨e, l, ne, inv⟩ := hg i hi
    have hl2 : g i < mt.length := by omega
    refine ⟨fun q => ne (by omega), ?_⟩
    rw [e, Int.toNat_natCast, List.getElem?_eq_getElem hl2, (hg _ hl2).1, inv]
theorem swpF_pair {n : Nat} {mt : List Int} (h : PairOk n mt) {p q : Nat} (hp : p < n) (hq : q < n) : PairOk n (swpF mt p q) := by
  have hl := h.1.1
  refine mates_ok_of (by rw [swpF_len]; exact hl) (fun i => Cy.swp p q (mtn mt (Cy.swp p q i))) fun i hi => ?_
  rw [swpF_len] at hi
  have hi' : i < n := by omega
  have s1 := Cy.swp_lt hp hq hi'
  refine ⟨?_, Cy.swp_lt hp hq (mtn_at h.1 s1).1, fun e => ?_, ?_⟩
  · exact swpF_get _
  · have : mtn mt (Cy.swp p q i) = Cy.swp p q i := by rw [← Cy.swp_swp p q (mtn mt (Cy.swp p q i)), e]
    exact (pair_inv h s1).2 this
  · rw [Cy.swp_swp, (pair_inv h s1).1, Cy.swp_swp]
end W17
set_option Elab.async false
set_option linter.all false
set_option maxRecDepth 100000
set_option maxHeartbeats 1000000
namespace W17
open PySem L2 PySem.Spec PyProof.Rows WR WB WE
/-! ### what stands for a balance -/
/-! ### expressions that make something, wherever they stand -/
def LI (ns : List Int) (H : Hp) (v : V) : Prop := ∃ q, v = V.ref q ∧ H q = some (.lst (iv ns))
theorem LI.same {ns : List Int} {H H' : Hp} {v : V} (h : LI ns H v) (s : Same H H') : LI ns H' v := by
  obtain ⟨q, e, r⟩ := h
  exact ⟨q, e, s _ _ r⟩
end W17
set_option Elab.async false
set_option linter.all false
set_option maxRecDepth 100000
set_option maxHeartbeats 600000
namespace W17
open PySem L2 PySem.Spec PyProof.Rows WR WB WE
structure TN (mg : Str → Option Value) : Prop where
  len : mg "len" = none
  range : mg "range" = none
  list : mg "list" = none
  tuple : mg "tuple" = none
  int : mg "int" = none
  abs : mg "abs" = none
  min : mg "min" = none
  sorted : mg "sorted" = none
  set : mg "set" = none
  enumerate : mg "enumerate" = none
  zip : mg "zip" = none
  isinstance : mg "isinstance" = none
  repr : mg "repr" = none
theorem perm_erase : ∀ (us : List V) (j : Nat) (h : j < us.length), (us[j] :: us.eraseIdx j).Perm us
  | a :: t, 0, _ => List.Perm.refl _
  | a :: t, j + 1, h => by
    have ih := perm_erase t j (by simpa using h)
    exact (List.Perm.swap _ _ _).trans (ih.cons a)
def spMixed : Sp := fun vs H Q _ => ∃ (a c p : Addr) (xs : List V) (n : Nat), vs = [.ref a, .ref p] ∧ HandAt H a c n ∧ H p = some (.lst xs) ∧ xs.length ≤ 100 ∧ n ≤ 8000 ∧ ∀ l H' ys, H l = none → Drew a c (n + xs.length) H H' → H' l = some (.lst ys) → ys.Perm xs → Q (.ref l) H'
abbrev sMixed : Stmt := top 69
abbrev nMixed : List Str := ["_law_pen_here", "_law_some", "_law_left", "_law_found", "_law_turn"]
theorem scMixed : FnScope nMixed ["_law_pen_here", "_law_some"] (defScope sMixed) := ⟨rfl, rfl, rfl, by decide +kernel, rfl, by decide +kernel, by decide +kernel⟩
section
variable {P : Program} {w : World} {K : PySem.W.Frag} {mg : Str → Option Value} {base : Heap}
theorem ok_Mixed {f : Addr} {fd : FuncData} (F : Fun K "_law_mixed" "_law_mixed" sMixed f fd) (N : TN mg)  (G_draw : Cal P w K mg base "_law_draw" 1 ["_law_pen_here", "_law_many"] (spTake)) : FnOk P w K mg base CX0 2 f fd ["_law_pen_here", "_law_some"] (spMixed) := by
  refine F.ok scMixed (fun vs H Q E h => ?_) (fun cdv A outer s H vs Q E hr h => ?_)
  · obtain ⟨a, c, p, xs, n, rfl, _⟩ := h
    rfl
  · obtain ⟨a, c, p, xs, n, rfl, hH, hp, hx, hn, k⟩ := h
    refine ⟨_, pss_cons (ps_par (i := 2) (j := 3) (by rfl) scMixed.nd rfl rfl (by decide) rfl rfl (pa_cons (pe_callTy call_list_of (by rfl) N.list (by decide +kernel) (pa_cons (pv 1) pa_nil)) (pa_cons (pe_lst pa_nil) pa_nil)) (by rfl))
      (pss_cons (ps_for PassesOwn.never rfl (pi_range1 (by rfl) N.range (pa_cons (pe_callB call_len_seq (by rfl) N.len PySem.boot_len (pa_cons (pv 2) pa_nil)) pa_nil)) (pg_name (i := 4) scMixed.nd rfl (Or.inl rfl))
      (pss_one (ps_expr (pe_bm PySem.F.plainAttrs_list PySem.F.slot_list_append PySem.F.type_list_append mt_append (pv 3) (pa_cons (pe_bm PySem.F.plainAttrs_list PySem.F.slot_list_pop PySem.F.type_list_pop mt_popAt (pv 2) (pa_cons (pe_cal G_draw hr (by decide) (by rfl) (pa_cons (pv 0) (pa_cons (pe_callB call_len_seq (by rfl) N.len PySem.boot_len (pa_cons (pv 2) pa_nil)) pa_nil))) pa_nil)) pa_nil)))))
      (pss_one (ps_ret (pv 3)))), ?_⟩
    refine ⟨_, rfl, p, xs, rfl, .inl (SqL.of hp), fun lf hlf => ?_⟩
    have s1 := same_upd (o := .lst xs) hlf
    have g1 : L2.upd H lf (.lst xs) lf = some (.lst xs) := upd_same
    obtain ⟨H1, e1⟩ : ∃ H1, H1 = L2.upd H lf (.lst xs) := ⟨_, rfl⟩
    rw [← e1] at s1 g1 ⊢
    refine ⟨Nat.zero_le _, fun fo hfo => ⟨_, _, rfl, ?_⟩⟩
    have s2 := same_upd (o := .lst []) hfo
    have g2 : L2.upd H1 fo (.lst []) fo = some (.lst []) := upd_same
    have lfo : lf ≠ fo := ne_of_none g1 hfo
    have fo0 : H fo = none := s1.free hfo
    have hla := hH.ne hlf
    have hlc := hH.neC hlf
    have hfa := hH.ne fo0
    have hfc := hH.neC fo0
    have D2 : Drew a c n H (L2.upd H1 fo (.lst [])) := (Drew.refl hH).same (s1.trans s2)
    refine ⟨_, rfl, lf, _, rfl, .inl (SqL.of (s2 _ _ g1)), ((xs.length : Nat) : Int), rfl, by omega, by omega, ?_⟩
    refine for_range (lo := 0) (n := ((xs.length : Nat) : Int).toNat) (fun i σ H' => ∃ (v : Option V) (us ys : List V), σ = [some (.ref a), some (.ref p), some (.ref lf), some (.ref fo), v] ∧ Drew a c (n + i) H H' ∧ H' lf = some (.lst us) ∧ H' fo = some (.lst ys) ∧ us.length + i = xs.length ∧ (us ++ ys).Perm xs)
      ⟨none, xs, [], rfl, D2, s2 _ _ g1, g2, rfl, by rw [List.append_nil]⟩ ?_ ?_
    · rintro i σ H3 hi ⟨v, us, ys, rfl, d3, hl3, hf3, hlen, hperm⟩
      rw [Int.toNat_natCast] at hi
      have hys : ys.length = i := by
        have := hperm.length_eq
        rw [List.length_append] at this
        omega
      refine ⟨_, rfl, .inl ⟨rfl, _, SqL.of hf3⟩, _, rfl, .inl ⟨rfl, _, SqL.of hl3⟩, _, rfl, _, rfl, lf, _, rfl, .inl (SqL.of hl3), a, c, ((us.length : Nat) : Int), n + i, rfl, d3.1, by omega, by omega, ?_, fun H4 j j0 j1 hH4 hK4 => ?_⟩
      · have : (((us.length : Nat) : Int)).natAbs ≤ 100 := by omega
        exact Nat.lt_of_le_of_lt this (by decide)
      have hl4 := hK4 _ _ hla hl3
      have hf4 := hK4 _ _ hfa hf3
      have d4 : Drew a c (n + i + 1) H H4 := ⟨hH4, d3.2.trans hK4⟩
      obtain ⟨j, rfl⟩ : ∃ j' : Nat, j = (j' : Int) := ⟨j.toNat, by omega⟩
      have hjl : j < us.length := by omega
      refine ⟨lf, us, (j : Int), j, us[j], rfl, rfl, hl4, by omega, by omega, ?_, List.getElem?_eq_getElem hjl, ?_⟩
      · exact seq_at hjl
      have hf5 : L2.upd H4 lf (.lst (us.eraseIdx j)) fo = some (.lst ys) := by rw [upd_ne lfo.symm]; exact hf4
      refine ⟨fo, ys, _, rfl, rfl, hf5, Evl.sz_lt (by omega), ?_⟩
      refine ⟨_, us.eraseIdx j, ys ++ [us[j]], rfl, ?_, ?_, upd_same, ?_, ?_⟩
      · exact ((d4.put hlf hla hlc).put fo0 hfa hfc)
      · rw [upd_ne lfo, upd_same]
      · rw [List.length_eraseIdx_of_lt hjl]
        omega
      · have q1 : (us[j] :: us.eraseIdx j).Perm us := perm_erase us j hjl
        have q2 : (us.eraseIdx j ++ (ys ++ [us[j]])).Perm ((us[j] :: us.eraseIdx j) ++ ys) := by
          rw [← List.append_assoc]
          exact List.perm_append_comm
        exact (q2.trans (q1.append_right ys)).trans hperm
    · rintro σ H3 ⟨v, us, ys, rfl, d3, hl3, hf3, hlen, hperm⟩
      rw [Int.toNat_natCast] at d3 hlen
      have : us = [] := List.eq_nil_of_length_eq_zero (by omega)
      subst this
      exact ⟨_, rfl, k fo H3 ys fo0 d3 hf3 hperm⟩
end
end W17
set_option Elab.async false
set_option linter.all false
set_option maxRecDepth 100000
set_option maxHeartbeats 600000
namespace W17
open PySem L2 PySem.Spec PyProof.Rows WR WB WE
/-! ### letters cut into words -/
theorem perm_map {α β : Type} {f : α → β} : ∀ {ys zs : List β}, ys.Perm zs → ∀ xs : List α, zs = xs.map f → ∃ ws : List α, ws.Perm xs ∧ ys = ws.map f := by
  intro ys zs h
  induction h with
  | nil => intro xs e; exact ⟨xs, List.Perm.refl _, e⟩
  | cons x _ ih =>
    intro xs e
    cases xs with
    | nil => cases e
    | cons y r =>
      rw [List.map_cons] at e
      injection e with e1 e2
      obtain ⟨ws, p, rfl⟩ := ih r e2
      exact ⟨y :: ws, p.cons y, by rw [e1]; rfl⟩
  | swap x y l =>
    intro xs e
    match xs, e with
    | a :: b :: r, e =>
      rw [List.map_cons, List.map_cons] at e
      injection e with e1 e2
      injection e2 with e2 e3
      exact ⟨b :: a :: r, List.Perm.swap _ _ _, by rw [e1, e2, e3]; rfl⟩
  | trans _ _ ih1 ih2 =>
    intro xs e
    obtain ⟨ws, p, rfl⟩ := ih2 xs e
    obtain ⟨us, p2, rfl⟩ := ih1 ws rfl
    exact ⟨us, p2.trans p, rfl⟩
def rgI (a b : Nat) : List Int := (List.range (b - a)).map fun (i : Nat) => ((a + i : Nat) : Int)
theorem rgV_I (a b : Nat) : rgV (a : Int) (b : Int) = iv (rgI a b) := by
  unfold rgV rgI
  rw [show ((b : Int) - (a : Int)).toNat = b - a by omega]
  show _ = List.map V.int (List.map _ _)
  rw [List.map_map]
  refine List.map_congr_left fun i _ => ?_
  show V.int ((a : Int) + (i : Nat)) = V.int ((a + i : Nat) : Int)
  rw [show ((a : Int) + (i : Nat)) = ((a + i : Nat) : Int) by omega]
theorem rgI_mem {a b : Nat} {z : Int} (h : z ∈ rgI a b) : (a : Int) ≤ z ∧ z < (b : Int) := by
  obtain ⟨i, hi, rfl⟩ := List.mem_map.mp h
  have := List.mem_range.mp hi
  omega
theorem rgI_nodup (a b : Nat) : (rgI a b).Nodup := by
  refine List.pairwise_map.mpr ((List.nodup_range (n := b - a)).imp fun {x y} ne e => ne ?_)
  omega
theorem rgI_len (a b : Nat) : (rgI a b).length = b - a := by
  unfold rgI
  rw [List.length_map, List.length_range]
theorem cut_mid {xs : List V} {b c : Nat} (h1 : b ≤ c) (h2 : c ≤ xs.length) : cutV xs (some ((b : Nat) : Int)) (some ((c : Nat) : Int)) = (xs.drop b).take (c - b) := by
  unfold cutV
  rw [HT.sIx_nat, HT.sIx_nat, Nat.min_eq_left h2, Nat.min_eq_left (by omega)]
theorem cut_till {xs : List V} {c : Nat} : cutV xs none (some ((c : Nat) : Int)) = xs.take (min c xs.length) := by
  unfold cutV
  rw [HT.sIx_none, HT.sIx_nat, List.drop_zero, Nat.sub_zero]
/-- lists of letters, none at the place fo -/
def LX (fo : Addr) (ns : List Int) (H : Hp) (v : V) : Prop := ∃ q, v = V.ref q ∧ q ≠ fo ∧ H q = some (.lst (iv ns))
/-- words: a list of lists of letters -/
def LLs (H : Hp) (us : List V) (ws : List (List Int)) : Prop := All2 (fun v w => LI w H v) us ws
theorem LLs.same {H H' : Hp} {us : List V} {ws : List (List Int)} (h : LLs H us ws) (s : Same H H') : LLs H' us ws := h.imp fun _ _ r => r.same s
def WordsOk (ls : List Int) (ws : List (List Int)) : Prop := ws.flatten = ls ∧ (∀ w ∈ ws, w ≠ []) ∧ 1 ≤ ws.length ∧ ws.length ≤ 4
def spCut : Sp := fun vs H Q _ => ∃ (a c p : Addr) (ls : List Int) (n : Nat), vs = [.ref a, .ref p] ∧ HandAt H a c n ∧ p ≠ a ∧ H p = some (.lst (iv ls)) ∧ 1 ≤ ls.length ∧ ls.length ≤ 60 ∧ n ≤ 7000 ∧
  ∀ l H' us ws, H l = none → Drew a c (n + 70) H H' → H' l = some (.lst us) → LLs H' us ws → WordsOk ls ws → Q (.ref l) H'
abbrev sCut : Stmt := top 70
abbrev nCut : List Str := ["_law_pen_here", "_law_letters_here", "_law_many", "_law_cuts", "_law_found", "_law_begin", "_law_cut_here"]
theorem scCut : FnScope nCut ["_law_pen_here", "_law_letters_here"] (defScope sCut) := ⟨rfl, rfl, rfl, by decide +kernel, rfl, by decide +kernel, by decide +kernel⟩
section
variable {P : Program} {w : World} {K : PySem.W.Frag} {mg : Str → Option Value} {base : Heap}
theorem ok_Cut {f : Addr} {fd : FuncData} (F : Fun K "_law_cut" "_law_cut" sCut f fd) (N : TN mg)  (G_draw : Cal P w K mg base "_law_draw" 1 ["_law_pen_here", "_law_many"] (spTake)) (G_mixed : Cal P w K mg base "_law_mixed" 2 ["_law_pen_here", "_law_some"] (spMixed)) : FnOk P w K mg base CX0 3 f fd ["_law_pen_here", "_law_letters_here"] (spCut) := by
  refine F.ok scCut (fun vs H Q E h => ?_) (fun cdv A outer s H vs Q E hr h => ?_)
  · obtain ⟨a, c, p, ls, n, rfl, _⟩ := h
    rfl
  · obtain ⟨a, c, p, ls, n, rfl, hH, hpa, hp, l1, l60, hn, k⟩ := h
    refine ⟨_, pss_cons (ps_set (i := 2) scCut.nd rfl (Or.inl rfl) (pe_op op_add pe_int (pe_cal G_draw hr (by decide) (by rfl) (pa_cons (pv 0) (pa_cons (pe_callB (call_min2 rfl) (by rfl) N.min (by decide +kernel) (pa_cons pe_int (pa_cons (pe_callB call_len_seq (by rfl) N.len PySem.boot_len (pa_cons (pv 1) pa_nil)) pa_nil))) pa_nil)))))
      (pss_cons (ps_set (i := 3) scCut.nd rfl (Or.inl rfl) (pe_callB cr_sorted (by rfl) N.sorted (by decide +kernel) (pa_cons (pe_slice sl_list (pe_cal G_mixed hr (by decide) (by rfl) (pa_cons (pv 0) (pa_cons (pe_listRg rfl (by rfl) N.list (prg_2 (by rfl) N.range pe_int (pe_callB call_len_seq (by rfl) N.len PySem.boot_len (pa_cons (pv 1) pa_nil)))) pa_nil))) po_none (po_some (pe_op op_sub (pv 2) pe_int))) pa_nil)))
      (pss_cons (ps_par (i := 4) (j := 5) (by rfl) scCut.nd rfl rfl (by decide) rfl rfl (pa_cons (pe_lst pa_nil) (pa_cons pe_int pa_nil)) (by rfl))
      (pss_cons (ps_for PassesOwn.never rfl (pi_list (pe_op op_cat (pv 3) (pe_lst (pa_cons (pe_callB call_len_seq (by rfl) N.len PySem.boot_len (pa_cons (pv 1) pa_nil)) pa_nil)))) (pg_name (i := 6) scCut.nd rfl (Or.inl rfl))
      (pss_cons (ps_expr (pe_bm PySem.F.plainAttrs_list PySem.F.slot_list_append PySem.F.type_list_append mt_append (pv 4) (pa_cons (pe_slice sl_list (pv 1) (po_some (pv 5)) (po_some (pv 6))) pa_nil)))
      (pss_one (ps_set (i := 5) scCut.nd rfl (Or.inl rfl) (pv 6)))))
      (pss_one (ps_ret (pv 4)))))), ?_⟩
    have elen : ((iv ls).length : Int) = (ls.length : Int) := by rw [List.length_map]
    refine ⟨_, rfl, _, rfl, p, _, rfl, .inl (SqL.of hp), _, _, rfl, a, c, _, n, rfl, hH, by omega, ?_, ?_, fun H1 j j0 j1 hH1 hK1 => ⟨_, _, rfl, rfl, ?_⟩⟩
    · rw [elen]; split <;> omega
    · refine Nat.lt_of_le_of_lt (m := 60) ?_ (by decide)
      rw [elen]; split <;> omega
    rw [elen] at j1
    obtain ⟨jn, rfl⟩ : ∃ jn : Nat, j = (jn : Int) := ⟨j.toNat, by omega⟩
    have jn4 : jn < 4 ∧ jn < ls.length := by split at j1 <;> omega
    have D1 : Drew a c (n + 1) H H1 := ⟨hH1, hK1⟩
    have hp1 := hK1 _ _ hpa hp
    try dsimp only
    refine ⟨_, rfl, _, rfl, p, _, rfl, .inl (SqL.of hp1), _, _, rfl, rfl, ?_, fun q hq => ?_⟩
    · rw [elen]
      exact ⟨by omega, by omega, by omega, by omega⟩
    rw [elen, show (1 : Int) = ((1 : Nat) : Int) from rfl, rgV_I]
    have D2 : Drew a c (n + 1) H (L2.upd H1 q (.lst (iv (rgI 1 ls.length)))) := D1.new hq
    have lrg := rgI_len 1 ls.length
    refine ⟨a, c, q, _, n + 1, rfl, D2.1, upd_same, by rw [List.length_map]; omega, by omega, fun lm H3 ys hlm D3 hm hperm => ?_⟩
    obtain ⟨ms, pm, rfl⟩ := perm_map hperm _ rfl
    have D3' : Drew a c (n + 1 + ls.length) H H3 := (D2.trans D3).mono (by rw [List.length_map]; omega)
    refine ⟨_, rfl, _, _, rfl, rfl, _, rfl, lm, _, rfl, SqL.of hm, fun p2 hp2 => ?_⟩
    have lms := pm.length_eq
    rw [show (((1 : Nat) : Int) + (jn : Int) - ((1 : Nat) : Int)) = ((jn : Nat) : Int) by omega, cut_till, Nat.min_eq_left (by rw [List.length_map]; omega), ← List.map_take]
    refine ⟨p2, _, rfl, SqL.of upd_same, by rw [List.length_take]; omega, fun cs p3 pc sc hp3 => ?_⟩
    have hcs : ∀ z ∈ cs, 1 ≤ z ∧ z < (ls.length : Int) := fun z hz => by
      have := rgI_mem (pm.mem_iff.mp (List.mem_of_mem_take (pc.mem_iff.mp hz)))
      omega
    have ncs : cs.Nodup := pc.nodup_iff.mpr ((pm.nodup_iff.mpr (rgI_nodup _ _)).sublist (List.take_sublist _ _))
    have lcs : cs.length ≤ 3 := by
      rw [pc.length_eq, List.length_take]
      omega
    have hlt : ((0 : Int) :: (cs ++ [(ls.length : Int)])).Pairwise (· < ·) := by
      refine List.pairwise_cons.mpr ⟨fun z hz => ?_, List.pairwise_append.mpr ⟨?_, List.pairwise_singleton _ _, fun x hx y hy => ?_⟩⟩
      · rcases List.mem_append.mp hz with hz | hz
        · have := hcs z hz
          omega
        · rw [List.mem_singleton.mp hz]
          omega
      · refine (sc.and ncs).imp fun {x y} h => ?_
        have := h.1
        have := h.2
        omega
      · rw [List.mem_singleton.mp hy]
        exact (hcs x hx).2
    obtain ⟨H4, e4⟩ : ∃ H4, H4 = L2.upd (L2.upd H3 p2 (.lst (iv (ms.take jn)))) p3 (.lst (iv cs)) := ⟨_, rfl⟩
    have D4 : Drew a c (n + 1 + ls.length) H H4 := by
      rw [e4]
      exact (D3'.new hp2).new hp3
    have g4 : H4 p3 = some (.lst (iv cs)) := by rw [e4, upd_same]
    rw [← e4]
    have hp4 := D4.2 _ _ hpa hp
    refine ⟨Nat.zero_le _, fun fo hfo => ⟨_, _, rfl, ?_⟩⟩
    have fo0 : H fo = none := D4.back hfo
    have hfa := hH.ne fo0
    have hfc := hH.neC fo0
    have D5 := D4.new (o := .lst []) hfo
    have g5 : L2.upd H4 fo (.lst []) fo = some (.lst []) := upd_same
    have g53 : L2.upd H4 fo (.lst []) p3 = some (.lst (iv cs)) := by rw [upd_ne (ne_of_none g4 hfo)]; exact g4
    have hp5 : L2.upd H4 fo (.lst []) p = some (.lst (iv ls)) := by rw [upd_ne (ne_of_none hp4 hfo)]; exact hp4
    obtain ⟨H5, e5⟩ : ∃ H5, H5 = L2.upd H4 fo (.lst []) := ⟨_, rfl⟩
    rw [← e5] at D5 g5 g53 hp5 ⊢
    refine ⟨_, rfl, _, rfl, p, _, rfl, .inl (SqL.of hp5), by show 1 ≤ sizeLine; decide, fun q2 hq2 => ?_⟩
    have s6 := same_upd (o := .lst [.int ((iv ls).length : Int)]) hq2
    refine ⟨p3, q2, _, _, rfl, rfl, s6 _ _ g53, upd_same, Evl.sz_of (by rw [List.length_map]; show cs.length + 1 ≤ _; omega), fun r hr2 => ?_⟩
    have s7 := s6.trans (same_upd (o := .lst (iv cs ++ [.int ((iv ls).length : Int)])) hr2)
    have g7 : L2.upd (L2.upd H5 q2 (.lst [.int ((iv ls).length : Int)])) r (.lst (iv cs ++ [.int ((iv ls).length : Int)])) r = some (.lst (iv (cs ++ [(ls.length : Int)]))) := by
      rw [upd_same, elen]
      simp [iv]
    obtain ⟨H7, e7⟩ : ∃ H7, H7 = L2.upd (L2.upd H5 q2 (.lst [.int ((iv ls).length : Int)])) r (.lst (iv cs ++ [.int ((iv ls).length : Int)])) := ⟨_, rfl⟩
    rw [← e7] at s7 g7 ⊢
    have les : (cs ++ [(ls.length : Int)]).length ≤ 4 := by rw [List.length_append]; show cs.length + 1 ≤ 4; omega
    have nrf : r ≠ fo := fun e => by
      rw [e] at hr2
      rw [s6 _ _ g5] at hr2
      cases hr2
    refine ⟨r, rfl, ⟨_, SqL.of g7⟩, for_list (K := K) (a := r) (xs := iv (cs ++ [(ls.length : Int)])) (fun i σ H' => ∃ (v2 v6 : Option V) (b : Nat) (us : List V) (ws : List (List Int)), σ = [some (.ref a), some (.ref p), v2, some (.ref p3), some (.ref fo), some (.int (b : Int)), v6] ∧ Drew a c (n + 70) H H' ∧ H' r = some (.lst (iv (cs ++ [(ls.length : Int)]))) ∧ H' p = some (.lst (iv ls)) ∧ H' fo = some (.lst us) ∧
        All2 (fun v w => LX fo w H' v) us ws ∧ ws.flatten = ls.take b ∧ (∀ w ∈ ws, w ≠ []) ∧ ws.length = i ∧ b ≤ ls.length ∧ (b : Int) = ((0 : Int) :: (cs ++ [(ls.length : Int)])).getD i 0)
      ⟨_, none, 0, [], [], rfl, (D5.same s7).mono (by omega), g7, s7 _ _ hp5, s7 _ _ g5, .nil, rfl, fun _ h => (nomatch h), rfl, Nat.zero_le _, rfl⟩ (fun i σ H' _ ⟨_, _, _, _, _, _, _, h, _⟩ => SqL.of h) ?_ ?_⟩
    · rintro i x σ H8 hi ⟨v2, v6, b, us, ws, rfl, D8, g8, hp8, hf8, hu, hfl, hne, hlen, hb, eb⟩
      obtain ⟨z, hz, rfl⟩ : ∃ z, (cs ++ [(ls.length : Int)])[i]? = some z ∧ x = V.int z := by
        rw [List.getElem?_map] at hi
        cases e : (cs ++ [(ls.length : Int)])[i]? with
        | none => rw [e] at hi; cases hi
        | some z => rw [e] at hi; exact ⟨z, rfl, (Option.some.inj hi).symm⟩
      have hil : i < (cs ++ [(ls.length : Int)]).length := (List.getElem?_eq_some_iff.mp hz).1
      have hbz : (b : Int) < z := by
        have := List.pairwise_iff_getElem.mp hlt i (i + 1) (by rw [List.length_cons]; omega) (by rw [List.length_cons]; omega) (by omega)
        rw [List.getElem_cons_succ, (List.getElem?_eq_some_iff.mp hz).2] at this
        rw [eb, List.getD_eq_getElem?_getD, List.getElem?_eq_getElem (by rw [List.length_cons]; omega)]
        exact this
      have hzl : z ≤ (ls.length : Int) := by
        rcases List.mem_append.mp (List.mem_of_getElem? hz) with h | h
        · have := (hcs z h).2
          omega
        · rw [List.mem_singleton.mp h]
          exact Int.le_refl _
      obtain ⟨cc, rfl⟩ : ∃ cc : Nat, z = (cc : Int) := ⟨z.toNat, by omega⟩
      refine ⟨_, rfl, .inl ⟨rfl, _, SqL.of hf8⟩, _, rfl, _, rfl, _, rfl, _, rfl, _, rfl, p, _, rfl, SqL.of hp8, fun q hq => ?_⟩
      rw [cut_mid (by omega) (by rw [List.length_map]; omega), ← List.map_drop, ← List.map_take]
      have s9 := same_upd (o := .lst (iv ((ls.drop b).take (cc - b)))) hq
      have nqf : q ≠ fo := fun e => by rw [e, hf8] at hq; cases hq
      have lus := hu.length
      refine ⟨fo, us, _, rfl, rfl, s9 _ _ hf8, Evl.sz_lt (by omega), ?_⟩
      refine ⟨_, rfl, v2, _, cc, us ++ [.ref q], ws ++ [(ls.drop b).take (cc - b)], rfl, ((D8.new hq).put fo0 hfa hfc), ?_, ?_, upd_same, ?_, ?_, ?_, ?_, by omega, ?_⟩
      · rw [upd_ne nrf]; exact s9 _ _ g8
      · rw [upd_ne (fun e => by rw [e, fo0] at hp; cases hp)]; exact s9 _ _ hp8
      · refine All2.app (hu.imp fun _ _ ⟨q', e, ne, g⟩ => ⟨q', e, ne, by rw [upd_ne ne]; exact s9 _ _ g⟩) (.cons ⟨q, rfl, nqf, by rw [upd_ne nqf, upd_same]⟩ .nil)
      · rw [List.flatten_append, hfl]
        show ls.take b ++ ((ls.drop b).take (cc - b) ++ []) = ls.take cc
        rw [List.append_nil]
        have := List.take_add (l := ls) (i := b) (j := cc - b)
        rw [← this, show b + (cc - b) = cc by omega]
      · intro w hw
        rcases List.mem_append.mp hw with hw | hw
        · exact hne w hw
        · rw [List.mem_singleton.mp hw]
          intro e
          have : ((ls.drop b).take (cc - b)).length = 0 := by rw [e]; rfl
          rw [List.length_take, List.length_drop] at this
          omega
      · rw [List.length_append, hlen]
        rfl
      · show ((cc : Nat) : Int) = ((0 : Int) :: (cs ++ [(ls.length : Int)])).getD (i + 1) 0
        rw [List.getD_eq_getElem?_getD, List.getElem?_cons_succ, hz]
        rfl
    · rintro σ H8 ⟨v2, v6, b, us, ws, rfl, D8, g8, hp8, hf8, hu, hfl, hne, hlen, hb, eb⟩
      have eb2 : b = ls.length := by
        rw [List.length_map, List.getD_eq_getElem?_getD, List.length_append] at eb
        have : ((0 : Int) :: (cs ++ [(ls.length : Int)]))[cs.length + [(ls.length : Int)].length]? = some (ls.length : Int) := by
          show ((0 : Int) :: (cs ++ [(ls.length : Int)]))[cs.length + 1]? = _
          rw [List.getElem?_cons_succ, List.getElem?_append_right (Nat.le_refl _), Nat.sub_self]
          rfl
        rw [this] at eb
        show b = ls.length
        have : (b : Int) = (ls.length : Int) := eb
        omega
      subst eb2
      rw [List.take_length] at hfl
      refine ⟨_, rfl, k fo H8 us ws fo0 D8 hf8 (hu.imp fun _ _ ⟨q, e, _, g⟩ => ⟨q, e, g⟩) ⟨hfl, hne, ?_, ?_⟩⟩
      · rw [hlen, List.length_map, List.length_append]
        exact Nat.le_add_left _ _
      · rw [hlen, List.length_map]
        exact les
end
end W17
set_option Elab.async false
set_option linter.all false
set_option maxRecDepth 100000
set_option maxHeartbeats 600000
namespace W17
open PySem L2 PySem.Spec PyProof.Rows WR WB WE
/-! ### plain words -/
def plF : List (Int × Nat) → List Int
  | [] => []
  | (k, c) :: r => (List.replicate c [k, -k]).flatten ++ plF r
theorem plF_app : ∀ xs ys : List (Int × Nat), plF (xs ++ ys) = plF xs ++ plF ys
  | [], _ => rfl
  | (k, c) :: r, ys => by
    show (List.replicate c [k, -k]).flatten ++ plF (r ++ ys) = (List.replicate c [k, -k]).flatten ++ plF r ++ plF ys
    rw [plF_app r ys, List.append_assoc]
def sumN : List (Int × Nat) → Nat
  | [] => 0
  | (_, c) :: r => c + sumN r
theorem rep_len (k : Int) : ∀ c : Nat, (List.replicate c [k, -k]).flatten.length = 2 * c
  | 0 => rfl
  | c + 1 => by
    rw [List.replicate_succ, List.flatten_cons, List.length_append, rep_len k c]
    show 2 + 2 * c = _
    omega
theorem plF_len : ∀ xs : List (Int × Nat), (plF xs).length = 2 * sumN xs
  | [] => rfl
  | (k, c) :: r => by
    show ((List.replicate c [k, -k]).flatten ++ plF r).length = 2 * (c + sumN r)
    rw [List.length_append, rep_len, plF_len r]
    omega
theorem rep_cnt (k z : Int) : ∀ c : Nat, ((List.replicate c [k, -k]).flatten.count z : Int) = c * ((if k = z then 1 else 0) + (if -k = z then 1 else 0))
  | 0 => by simp
  | c + 1 => by
    rw [List.replicate_succ, List.flatten_cons, List.count_append, Int.natCast_add, rep_cnt k z c]
    have : (([k, -k].count z : Nat) : Int) = (if k = z then 1 else 0) + (if -k = z then 1 else 0) := by
      rw [List.count_cons, List.count_cons, List.count_nil]
      by_cases h1 : k = z
      · by_cases h2 : -k = z
        · simp only [beq_iff_eq, if_pos h1, if_pos h2]; rfl
        · simp only [beq_iff_eq, if_pos h1, if_neg h2]; rfl
      · by_cases h2 : -k = z
        · simp only [beq_iff_eq, if_neg h1, if_pos h2]; rfl
        · simp only [beq_iff_eq, if_neg h1, if_neg h2]; rfl
    rw [this, Int.natCast_add, Int.add_mul]
    simp
    omega
theorem plF_cnt0 (z : Int) : ∀ xs : List (Int × Nat), ((plF xs).count z : Int) = (plF xs).count (-z)
  | [] => rfl
  | (k, c) :: r => by
    show (((List.replicate c [k, -k]).flatten ++ plF r).count z : Int) = (((List.replicate c [k, -k]).flatten ++ plF r).count (-z) : Nat)
    rw [List.count_append, List.count_append, Int.natCast_add, Int.natCast_add, plF_cnt0 z r, rep_cnt, rep_cnt]
    congr 2
    by_cases h1 : k = z <;> by_cases h2 : -k = z <;> simp [h1, h2] <;> (try split) <;> (try split) <;> omega
theorem plF_mem {z : Int} : ∀ {xs : List (Int × Nat)}, z ∈ plF xs → ∃ p ∈ xs, z = p.1 ∨ z = -p.1
  | (k, c) :: r, h => by
    rcases List.mem_append.mp h with h | h
    · obtain ⟨l, hl, hz⟩ := List.mem_flatten.mp h
      rw [List.eq_of_mem_replicate hl] at hz
      refine ⟨(k, c), List.mem_cons_self, ?_⟩
      simpa using hz
    · obtain ⟨p, hp, e⟩ := plF_mem h
      exact ⟨p, List.mem_cons_of_mem _ hp, e⟩
theorem bal_none {xs : List Int} (h : ∀ z, (xs.count z : Int) = xs.count (-z)) : Fr.bal xs = [] := by
  unfold Fr.bal
  refine List.filter_eq_nil_iff.mpr fun p hp => ?_
  obtain ⟨i, _, rfl⟩ := List.mem_map.mp hp
  have := h ((i : Int) + 1)
  show ¬ decide (Fr.cnt xs ((i : Int) + 1) ≠ 0) = true
  unfold Fr.cnt
  rw [decide_eq_true_iff]
  omega
/-- words of drawn kinds, as often as counts tell -/
structure PlainOk (cs : List Nat) (ws : List (List Int)) (ks : List Int) : Prop where
  nd : ks.Nodup
  rg : ∀ k ∈ ks, 1 ≤ k ∧ k ≤ 26
  len : ks.length = 26
  pm : ws.flatten.Perm (plF (ks.zip cs))
  ne : ∀ w ∈ ws, w ≠ []
  l1 : 1 ≤ ws.length
  l4 : ws.length ≤ 4
theorem le_sum {c : Nat} : ∀ {cs : List Nat}, c ∈ cs → c ≤ cs.sum
  | d :: r, h => by
    rw [List.sum_cons]
    rcases List.mem_cons.mp h with rfl | h
    · omega
    · have := le_sum h
      omega
theorem sum_zip : ∀ (ks : List Int) (cs : List Nat), sumN (ks.zip cs) ≤ cs.sum
  | [], _ => Nat.zero_le _
  | _ :: _, [] => Nat.zero_le _
  | k :: ks, c :: cs => by
    have := sum_zip ks cs
    rw [List.zip_cons_cons, List.sum_cons]
    show c + sumN (ks.zip cs) ≤ _
    omega
theorem PlainOk.ok {cs : List Nat} {ws : List (List Int)} {ks : List Int} (h : PlainOk cs ws ks) (hs : cs.sum ≤ 12) : RimOk ws := by
  refine ⟨h.l1, h.l4, h.ne, ?_, fun x hx => ?_, bal_none fun z => ?_⟩
  · rw [h.pm.length_eq, plF_len]
    have := sum_zip ks cs
    omega
  · obtain ⟨p, hp, e⟩ := plF_mem (h.pm.mem_iff.mp hx)
    have := h.rg p.1 (List.of_mem_zip hp).1
    omega
  · rw [h.pm.count_eq, h.pm.count_eq]
    exact plF_cnt0 z _
def spPlain : Sp := fun vs H Q _ => ∃ (a c p : Addr) (cs : List Nat) (n : Nat), vs = [.ref a, .ref p] ∧ HandAt H a c n ∧ p ≠ a ∧ H p = some (.lst (iv (nats cs))) ∧ cs.length ≤ 20 ∧ 1 ≤ cs.sum ∧ cs.sum ≤ 30 ∧ n ≤ 6000 ∧
  ∀ l H' us ws ks, H l = none → Drew a c (n + 200) H H' → H' l = some (.lst us) → LLs H' us ws → PlainOk cs ws ks → Q (.ref l) H'
abbrev sPlain : Stmt := top 71
abbrev nPlain : List Str := ["_law_pen_here", "_law_counts", "_law_kinds", "_law_letters_here", "_law_at", "_law_count"]
theorem scPlain : FnScope nPlain ["_law_pen_here", "_law_counts"] (defScope sPlain) := ⟨rfl, rfl, rfl, by decide +kernel, rfl, by decide +kernel, by decide +kernel⟩
section
variable {P : Program} {w : World} {K : PySem.W.Frag} {mg : Str → Option Value} {base : Heap}
theorem ok_Plain {f : Addr} {fd : FuncData} (F : Fun K "_law_plain" "_law_plain" sPlain f fd) (N : TN mg)  (G_cut : Cal P w K mg base "_law_cut" 3 ["_law_pen_here", "_law_letters_here"] (spCut)) (G_mixed : Cal P w K mg base "_law_mixed" 2 ["_law_pen_here", "_law_some"] (spMixed)) : FnOk P w K mg base CX0 4 f fd ["_law_pen_here", "_law_counts"] (spPlain) := by
  refine F.ok scPlain (fun vs H Q E h => ?_) (fun cdv A outer s H vs Q E hr h => ?_)
  · obtain ⟨a, c, p, cs, n, rfl, _⟩ := h
    rfl
  · obtain ⟨a, c, p, cs, n, rfl, hH, hpa, hp, l20, h1, h30, hn, k⟩ := h
    refine ⟨_, pss_cons (ps_par (i := 2) (j := 3) (by rfl) scPlain.nd rfl rfl (by decide) rfl rfl (pa_cons (pe_cal G_mixed hr (by decide) (by rfl) (pa_cons (pv 0) (pa_cons (pe_listRg rfl (by rfl) N.list (prg_2 (by rfl) N.range pe_int pe_int)) pa_nil))) (pa_cons (pe_lst pa_nil) pa_nil)) (by rfl))
      (pss_cons (ps_for PassesOwn.never rfl (pi_enum (by rfl) N.enumerate (pa_cons (pv 1) pa_nil)) (pg_tup (n := 2) rfl (pgs_cons (pg_name (i := 4) scPlain.nd rfl (Or.inl rfl)) (pgs_cons (pg_name (i := 5) scPlain.nd rfl (Or.inl rfl)) pgs_nil)))
      (pss_one (ps_set (i := 3) scPlain.nd rfl (Or.inl rfl) (pe_op op_cat (pv 3) (pe_op op_rep (pe_lst (pa_cons (pe_ix ix_list (pv 2) (pv 4) (fun _ _ => rfl)) (pa_cons (pe_un un_neg (pe_ix ix_list (pv 2) (pv 4) (fun _ _ => rfl))) pa_nil))) (pv 5))))))
      (pss_one (ps_ret (pe_cal G_cut hr (by decide) (by rfl) (pa_cons (pv 0) (pa_cons (pe_cal G_mixed hr (by decide) (by rfl) (pa_cons (pv 0) (pa_cons (pv 3) pa_nil))) pa_nil)))))), ?_⟩
    refine ⟨_, rfl, _, _, rfl, rfl, ⟨by decide, by decide, by decide, by decide, by decide⟩, fun q hq => ?_⟩
    rw [show rgV 1 27 = iv (rgI 1 27) from rgV_I 1 27]
    have D0 : Drew a c n H (L2.upd H q (.lst (iv (rgI 1 27)))) := (Drew.refl hH).new hq
    refine ⟨a, c, q, _, n, rfl, D0.1, upd_same, by rw [List.length_map, rgI_len]; decide, by omega, fun lk H1 ys hlk D1 g1 pm => ?_⟩
    obtain ⟨ks, pk, rfl⟩ := perm_map pm _ rfl
    have lks : ks.length = 26 := by rw [pk.length_eq, rgI_len]
    have D1 : Drew a c (n + 26) H H1 := (D0.trans D1).mono (by rw [List.length_map, rgI_len]; omega)
    have hp1 := D1.2 _ _ hpa hp
    refine ⟨Nat.zero_le _, fun fo hfo => ⟨_, _, rfl, ?_⟩⟩
    have s2 := same_upd (o := .lst []) hfo
    have hnc : (nats cs).length = cs.length := List.length_map ..
    refine ⟨_, rfl, p, _, rfl, SqL.of (s2 _ _ hp1), ?_⟩
    refine for_it (walk_enum (K := K) (a := p) (xs := iv (nats cs))) (fun i σ H' => ∃ (v4 v5 : Option V) (l : Addr), σ = [some (.ref a), some (.ref p), some (.ref lk), some (.ref l), v4, v5] ∧ Drew a c (n + 26) H H' ∧ H' p = some (.lst (iv (nats cs))) ∧ H' lk = some (.lst (iv ks)) ∧ H' l = some (.lst (iv (plF ((ks.zip cs).take i)))))
      ⟨none, none, fo, rfl, D1.same s2, s2 _ _ hp1, s2 _ _ g1, upd_same⟩ (fun i σ H' _ ⟨_, _, _, _, _, h, _⟩ => SqL.of h) ?_ ?_
    · rintro i x σ H3 H4 hi ⟨v4, v5, l, rfl, D3, hp3, hk3, hl3⟩ ⟨T0, xi, yi, rfl, hT0, rfl, hx, hy⟩
      have hin : i < cs.length := by rw [List.length_map, hnc] at hi; exact hi
      obtain rfl := Option.some.inj hx
      have hik : i < ks.length := by omega
      have ey : yi = V.int ((cs[i] : Nat) : Int) := by
        have hy : (iv (nats cs))[i]? = some yi := hy
        unfold nats at hy
        rw [List.getElem?_map, List.getElem?_map, List.getElem?_eq_getElem hin] at hy
        exact (Option.some.inj hy).symm
      subst ey
      have sT := same_upd (o := .tup [.int (i : Int), V.int ((cs[i] : Nat) : Int)]) hT0
      have D4 := D3.same sT
      have hp4 := sT _ _ hp3
      have hk4 := sT _ _ hk3
      have hl4 := sT _ _ hl3
      have gT : L2.upd H3 T0 (.tup [.int (i : Int), V.int ((cs[i] : Nat) : Int)]) T0 = some (.tup [.int (i : Int), V.int ((cs[i] : Nat) : Int)]) := upd_same
      obtain ⟨H4, e4⟩ : ∃ H4, H4 = L2.upd H3 T0 (.tup [.int (i : Int), V.int ((cs[i] : Nat) : Int)]) := ⟨_, rfl⟩
      rw [← e4] at D4 hp4 hk4 hl4 gT ⊢
      refine ⟨T0, _, rfl, SqT.of gT, rfl, _, _, rfl, _, _, rfl, rfl, ?_⟩
      have hat : (iv ks)[i]? = some (V.int ks[i]) := iv_get (List.getElem?_eq_getElem hik)
      have hz : (ks.zip cs)[i]? = some (ks[i], cs[i]) := by
        rw [List.getElem?_zip_eq_some]
        exact ⟨List.getElem?_eq_getElem hik, List.getElem?_eq_getElem hin⟩
      have hzl : i < (ks.zip cs).length := (List.getElem?_eq_some_iff.mp hz).1
      have hst : plF ((ks.zip cs).take (i + 1)) = plF ((ks.zip cs).take i) ++ (List.replicate cs[i] [ks[i], -ks[i]]).flatten := by
        rw [List.take_succ_eq_append_getElem hzl, plF_app, (List.getElem?_eq_some_iff.mp hz).2]
        show _ ++ ((List.replicate cs[i] [ks[i], -ks[i]]).flatten ++ []) = _
        rw [List.append_nil]
      have hcb : cs[i] ≤ 30 := by
        have := le_sum (List.getElem_mem hin)
        omega
      have hpl : (plF ((ks.zip cs).take i)).length ≤ 60 := by
        rw [plF_len]
        have h1 : sumN ((ks.zip cs).take i) ≤ cs.sum := by
          rw [List.zip_eq_zipWith, List.take_zipWith, ← List.zip_eq_zipWith]
          refine Nat.le_trans (sum_zip _ _) ?_
          have := List.take_append_drop i cs
          have e2 : (cs.take i).sum + (cs.drop i).sum = cs.sum := by rw [← List.sum_append, this]
          omega
        omega
      generalize ks[i] = z at hat hst ⊢
      generalize cs[i] = cc at hst hcb ⊢
      refine ⟨_, rfl, _, rfl, _, rfl, lk, _, _, _, rfl, rfl, SqL.of hk4, atI_nat hat, _, rfl, _, rfl, lk, _, _, _, rfl, rfl, SqL.of hk4, atI_nat hat, _, rfl, by show 2 ≤ sizeLine; decide, fun q1 hq1 => ?_⟩
      have s5 := same_upd (o := .lst [.int z, .int (-z)]) hq1
      refine ⟨_, rfl, q1, (cc : Int), _, rfl, rfl, upd_same, by omega, by omega, Evl.sz_of (by show 2 * ((cc : Nat) : Int).toNat ≤ _; omega), fun q2 hq2 => ?_⟩
      have erep : (List.replicate (((cc : Nat) : Int).toNat) [V.int z, V.int (-z)]).flatten = iv (List.replicate cc [z, -z]).flatten := by
        rw [Int.toNat_natCast]
        simp [iv]
      rw [erep]
      have s6 := s5.trans (same_upd (o := .lst (iv (List.replicate cc [z, -z]).flatten)) hq2)
      refine ⟨l, q2, _, _, rfl, rfl, s6 _ _ hl4, upd_same, Evl.sz_of (by rw [List.length_map, List.length_map, rep_len]; omega), fun q3 hq3 => ?_⟩
      have s7 := s6.trans (same_upd (o := .lst (iv (plF ((ks.zip cs).take i)) ++ iv (List.replicate cc [z, -z]).flatten)) hq3)
      refine ⟨_, _, q3, rfl, D4.same s7, s7 _ _ hp4, s7 _ _ hk4, ?_⟩
      rw [upd_same, hst]
      simp [iv]
    · rintro σ H3 ⟨v4, v5, l, rfl, D3, hp3, hk3, hl3⟩
      have lzip : (ks.zip cs).length = cs.length := by rw [List.length_zip]; omega
      rw [List.length_map, hnc, ← lzip, List.take_length] at hl3
      have lpl : (plF (ks.zip cs)).length = 2 * sumN (ks.zip cs) := plF_len _
      have hsum : sumN (ks.zip cs) = cs.sum := by
        have : ∀ (ks : List Int) (cs : List Nat), cs.length ≤ ks.length → sumN (ks.zip cs) = cs.sum := by
          intro ks
          induction ks with
          | nil => intro cs h; cases cs with | nil => rfl | cons => exact absurd h (by simp)
          | cons k ks ih =>
            intro cs h
            cases cs with
            | nil => rfl
            | cons c cs =>
              rw [List.zip_cons_cons, List.sum_cons]
              show c + sumN (ks.zip cs) = _
              rw [ih cs (by simpa using h)]
        exact this ks cs (by omega)
      refine ⟨_, rfl, _, rfl, _, rfl, a, c, l, _, n + 26, rfl, D3.1, hl3, by rw [List.length_map]; omega, by omega, fun l2 H4 ys2 hl2 D4 g4 pm2 => ?_⟩
      obtain ⟨ms, pm3, rfl⟩ := perm_map pm2 _ rfl
      have D4' := (D3.trans D4).mono (n := n + 100) (by rw [List.length_map]; omega)
      have lms := pm3.length_eq
      refine ⟨a, c, l2, ms, n + 100, rfl, D4'.1, D3.1.ne hl2, g4, by omega, by omega, by omega, fun l3 H5 us ws hl3' D5 g5 hLL hok => ?_⟩
      obtain ⟨o1, o2, o3, o4⟩ := hok
      refine k l3 H5 us ws ks (D4'.back hl3') ((D4'.trans D5).mono (by omega)) g5 hLL ⟨pk.nodup_iff.mpr (rgI_nodup _ _), fun x hx => ?_, lks, by rw [o1]; exact pm3, o2, o3, o4⟩
      have := rgI_mem (pk.mem_iff.mp hx)
      omega
end
end W17
set_option Elab.async false
set_option linter.all false
set_option maxRecDepth 100000
set_option maxHeartbeats 600000
namespace W17
open PySem L2 PySem.Spec PyProof.Rows WR WB WE
theorem all_word {K : PySem.W.Frag} {C : Addr} {H : Hp} {vs : List V} {ws : List (List Int)} (h : All2 (fun v ns => ∃ q, v = V.ref q ∧ WordAt K C H q ns) vs ws) : ∃ qs : List Addr, vs = qs.map V.ref ∧ Wds K C H qs ws := by
  induction h with
  | nil => exact ⟨[], rfl, .nil⟩
  | cons h1 _ ih =>
    obtain ⟨q, rfl, hq⟩ := h1
    obtain ⟨qs, rfl, hqs⟩ := ih
    exact ⟨q :: qs, rfl, .cons hq hqs⟩
theorem WordAt.keptL {K : PySem.W.Frag} {C : Addr} {H H' : Hp} {l p : Addr} {vs : List V} {ns : List Int} (hl : H l = some (.lst vs)) (d : Kept l H H') (h : WordAt K C H p ns) : WordAt K C H' p ns := by
  obtain ⟨dx, tl, tk, ks, h1, h2, h3, h4⟩ := h
  refine ⟨dx, tl, tk, ks, d _ _ (fun z => ?_) h1, SqB.keptL hl d h2, SqT.keptL hl d h3, h4⟩
  rw [z, hl] at h1
  cases h1
theorem pe_wordK {X : Cx} {K : PySem.W.Frag} {C : Addr} {p pos : Pos} {e : Expr} {es : List Expr} {t : TA} {j : Nat} (hK : X.K = K) (M : MkW X.prog X.w K X.mg X.base C) (T : TxW K X.mg C) (hr : Room j X.A) (hkj : 5 ≤ j) (hg : Gl X "Word") (ha : PA X (e :: es) t)
    (he : starEach (e :: es) X.env = (false, eval e X.env) :: starEach es X.env := by rfl) (hpl : (backTo pos (starEach es X.env)).any (·.1) = false := by rfl) : PE X (.Call (.Name "Word" p) (e :: es) [] pos) (tMake C (spInit K C) [] E0 t) := by
  subst hK
  exact pe_word M T hr hkj hg ha he hpl
theorem op_notInK {X : Cx} {K : PySem.W.Frag} (h : X.K = K) : OpR X (compareOp .NotIn) (rIn K true) := h ▸ op_notIn_seq
theorem call_lenK {X : Cx} {K : PySem.W.Frag} (h : X.K = K) : CallR X (.builtin "len") (fun xs H Q => ∃ p ys, xs = [.ref p] ∧ (SqL K H p ys ∨ SqT K H p ys) ∧ Q (.int ys.length) H) := h ▸ call_len_seq
/-! ### plain words made to rims; nexts, letters -/
def spLRims (K : PySem.W.Frag) (C CR : Addr) : Sp := fun vs H Q _ => ∃ (p : Addr) (us : List V) (ws : List (List Int)), vs = [.ref p] ∧ H p = some (.lst us) ∧ LLs H us ws ∧ RimOk ws ∧ ∀ q H' xs, Same H H' → RimsAt K C CR H' q xs ws → Q (.ref q) H'
abbrev sLRims : Stmt := top 72
abbrev nLRims : List Str := ["_law_words", "_law_word"]
theorem scLRims : FnScope nLRims ["_law_words"] (defScope sLRims) := ⟨rfl, rfl, rfl, by decide +kernel, rfl, by decide +kernel, by decide +kernel⟩
theorem nxF_app : ∀ (xs ys : List (List Int)) (f : Nat), nxF f (xs ++ ys) = nxF f xs ++ nxF (f + xs.flatten.length) ys
  | [], ys, f => by
    show nxF f ys = [] ++ nxF (f + 0) ys
    rw [Nat.add_zero]
    rfl
  | w :: r, ys, f => by
    show _ ++ nxF (f + w.length) (r ++ ys) = (_ ++ nxF (f + w.length) r) ++ nxF (f + (w :: r).flatten.length) ys
    rw [nxF_app r ys, List.flatten_cons, List.length_append, ← Nat.add_assoc, List.append_assoc]
theorem nx_one {w : List Int} (h : w ≠ []) (f : Nat) : nxF f [w] = rgI (f + 1) (f + w.length) ++ [(f : Int)] := by
  have hl : 0 < w.length := List.length_pos_iff.mpr h
  obtain ⟨m, hm⟩ : ∃ m, w.length = m + 1 := ⟨w.length - 1, by omega⟩
  show ((List.range w.length).map fun (t : Nat) => (f : Int) + (((t + 1) % w.length : Nat) : Int)) ++ [] = _
  rw [List.append_nil, hm, List.range_succ, List.map_append]
  unfold rgI
  rw [show f + (m + 1) - (f + 1) = m by omega]
  congr 1
  · refine List.map_congr_left fun i hi => ?_
    have := List.mem_range.mp hi
    rw [Nat.mod_eq_of_lt (by omega)]
    omega
  · show [(f : Int) + (((m + 1) % (m + 1) : Nat) : Int)] = _
    rw [Nat.mod_self]
    simp
def spNx : Sp := fun vs H Q _ => ∃ (p : Addr) (us : List V) (ws : List (List Int)), vs = [.ref p] ∧ H p = some (.lst us) ∧ LLs H us ws ∧ (∀ w ∈ ws, w ≠ []) ∧ ws.flatten.length ≤ 60 ∧ ∀ l H', H l = none → Same H H' → H' l = some (.lst (iv (nxF 0 ws))) → Q (.ref l) H'
abbrev sNx : Stmt := top 73
abbrev nNx : List Str := ["_law_words", "_law_found", "_law_word", "_law_begin"]
theorem scNx : FnScope nNx ["_law_words"] (defScope sNx) := ⟨rfl, rfl, rfl, by decide +kernel, rfl, by decide +kernel, by decide +kernel⟩
def spLets : Sp := fun vs H Q _ => ∃ (p : Addr) (us : List V) (ws : List (List Int)), vs = [.ref p] ∧ H p = some (.lst us) ∧ LLs H us ws ∧ ws.flatten.length ≤ 60 ∧ ∀ l H', H l = none → Same H H' → H' l = some (.lst (iv ws.flatten)) → Q (.ref l) H'
abbrev sLets : Stmt := top 75
abbrev nLets : List Str := ["_law_words", "_law_found", "_law_word"]
theorem scLets : FnScope nLets ["_law_words"] (defScope sLets) := ⟨rfl, rfl, rfl, by decide +kernel, rfl, by decide +kernel, by decide +kernel⟩
theorem ret_mk_lc {C : Addr} {sq : Sp} {wi : TI} {g : TG} {tt : TT} {te : TE} {vs : List Nat} {D : Ends} {σ : L2.St} {H : Hp}
    (h : wi σ H fun J H1 => tLc (fun _ H R => R J H) g tt te vs σ H1 fun y H2 => tMake C sq [] E0 (fun _ H Q => Q [y] H) σ H2 D.rt) : tRet (tMake C sq [] E0 (tCons (tLc wi g tt te vs) tNil)) D σ H := h
section
variable {P : Program} {w : World} {K : PySem.W.Frag} {mg : Str → Option Value} {base : Heap} {C CR : Addr}
theorem ok_LRims {f : Addr} {fd : FuncData} (F : Fun K "_law_rims" "_law_rims" sLRims f fd) (N : TN mg) (T : TxW K mg C) (TC : TxRC K mg CR) (MW : MkW P w K mg base C) (MR : MkR P w K mg base C CR)  : FnOk P w K mg base CX0 6 f fd ["_law_words"] (spLRims K C CR) := by
  refine F.ok scLRims (fun vs H Q E h => ?_) (fun cdv A outer s H vs Q E hr h => ?_)
  · obtain ⟨p, us, ws, rfl, _⟩ := h
    rfl
  · obtain ⟨p, us, ws, rfl, hp, hu, ok, k⟩ := h
    refine ⟨_, pss_one (ps_ret (pe_rims (mg := mg) MR TC hr (by decide) (by rfl) (pa_cons (pe_lc (own := [("_law_word", 1)]) (g := gName 1) (tt := tYes) rfl scLRims.nd (pi_list (pv 0)) (blkOk_by (N := nLRims) (sc := defScope sLRims) (by decide +kernel)) (fun _ _ _ _ _ => (pg_name (i := 1) scLRims.nd rfl (Or.inl rfl))) (fun _ _ _ _ _ => pts_nil) (fun _ _ _ _ _ => (pe_wordK (K := K) rfl MW T hr (by decide) (by rfl) (pa_cons (pv 1) pa_nil)))) pa_nil))), ?_⟩
    obtain ⟨o1, o2, o3, o4, o5, o6⟩ := id ok
    have lu := hu.length
    refine ret_mk_lc ?_
    refine ⟨_, rfl, p, rfl, ⟨_, SqL.of hp⟩, ?_⟩
    refine lcM (walk_list (K := K) (a := p) (xs := us)) ws (fun _ H v ns => ∃ q, v = V.ref q ∧ WordAt K C H q ns) (fun _ _ _ _ _ ⟨q, e, h⟩ s => ⟨q, e, h.same s⟩) ?_ (by omega) lu (fun H s => SqL.of (s _ _ hp)) ?_ (fun x σ1 H A B k h => gName_mono k h) ?_
    · rintro D2 H5 ws5 o v ns hD5 ⟨q, e, h⟩
      exact ⟨q, e, h.keptL hD5 Kept.upd⟩
    · intro i x u hx hu' D2 H5 hD2 _ s5 Qy ky
      obtain ⟨u', hu2, ⟨q, rfl, hq⟩⟩ := hu.at hx
      obtain rfl : u' = u := Option.some.inj (hu2.symm.trans hu')
      have hmem := List.mem_of_getElem? hu'
      have hlu : u'.length ≤ 24 := Nat.le_trans (word_le hmem) o4
      refine ⟨rfl, _, rfl, fun xw dxw nx ndx _ => make_at nx ndx (.inl (SqL.of (s5 _ _ hq))) (by omega) (o5.word hmem) fun H6 s6 W6 => ?_⟩
      exact ky _ H6 s6 ⟨xw, rfl, W6⟩
    intro D2 H5 vs2 hD2 s5 h5 r5
    obtain ⟨qs, eqs, hW⟩ := all_word r5
    rw [eqs] at h5
    intro px dpx npx ndpx _
    exact rims_at npx ndpx (SqL.of h5) hW ok fun H6 s6 R6 => k px H6 qs (s5.trans s6) R6
theorem ok_Nx {f : Addr} {fd : FuncData} (F : Fun K "_law_nexts" "_law_nexts" sNx f fd) (N : TN mg)   : FnOk P w K mg base CX0 1 f fd ["_law_words"] (spNx) := by
  refine F.ok scNx (fun vs H Q E h => ?_) (fun cdv A outer s H vs Q E hr h => ?_)
  · obtain ⟨p, us, ws, rfl, _⟩ := h
    rfl
  · obtain ⟨p, us, ws, rfl, hp, hu, hne, l60, k⟩ := h
    refine ⟨_, pss_cons (ps_set (i := 1) scNx.nd rfl (Or.inl rfl) (pe_lst pa_nil))
      (pss_cons (ps_for PassesOwn.never rfl (pi_list (pv 0)) (pg_name (i := 2) scNx.nd rfl (Or.inl rfl))
      (pss_cons (ps_set (i := 3) scNx.nd rfl (Or.inl rfl) (pe_callB call_len_seq (by rfl) N.len PySem.boot_len (pa_cons (pv 1) pa_nil)))
      (pss_one (ps_set (i := 1) scNx.nd rfl (Or.inl rfl) (pe_op op_cat (pe_op op_cat (pv 1) (pe_listRg rfl (by rfl) N.list (prg_2 (by rfl) N.range (pe_op op_add (pv 3) pe_int) (pe_op op_add (pv 3) (pe_callB call_len_seq (by rfl) N.len PySem.boot_len (pa_cons (pv 2) pa_nil)))))) (pe_lst (pa_cons (pv 3) pa_nil)))))))
      (pss_one (ps_ret (pv 1)))), ?_⟩
    have lu := hu.length
    refine ⟨Nat.zero_le _, fun fo hfo => ?_⟩
    have s1 := same_upd (o := .lst []) hfo
    refine ⟨_, rfl, p, rfl, ⟨_, SqL.of (s1 _ _ hp)⟩, for_list (K := K) (a := p) (xs := us) (fun i σ H' => ∃ (v2 v3 : Option V) (l : Addr), σ = [some (.ref p), some (.ref l), v2, v3] ∧ Same H H' ∧ H l = none ∧ H' l = some (.lst (iv (nxF 0 (ws.take i)))))
      ⟨none, none, fo, rfl, s1, hfo, upd_same⟩ (fun i σ H' _ ⟨_, _, _, _, s, _⟩ => SqL.of (s _ _ hp)) ?_ ?_⟩
    · rintro i x σ H3 hi ⟨v2, v3, l, rfl, s3, hl0, hl3⟩
      obtain ⟨u, hu2, ⟨q, rfl, hq⟩⟩ := hu.at hi
      have hil : i < ws.length := (List.getElem?_eq_some_iff.mp hu2).1
      have hmem := List.mem_of_getElem? hu2
      have hun := hne u hmem
      have hq3 := s3 _ _ hq
      have el : (nxF 0 (ws.take i)).length = (ws.take i).flatten.length := nxF_len _ _
      have hfl : (ws.take i).flatten.length + u.length ≤ 60 := by
        have e2 : (ws.take (i + 1)).flatten.length ≤ 60 := by
          refine Nat.le_trans ?_ l60
          have := congrArg (fun z : List (List Int) => z.flatten.length) (List.take_append_drop (i + 1) ws)
          rw [List.flatten_append, List.length_append] at this
          omega
        rw [List.take_succ_eq_append_getElem hil, (List.getElem?_eq_some_iff.mp hu2).2, List.flatten_append, List.length_append] at e2
        simpa using e2
      have hst : nxF 0 (ws.take (i + 1)) = nxF 0 (ws.take i) ++ (rgI ((ws.take i).flatten.length + 1) ((ws.take i).flatten.length + u.length) ++ [(((ws.take i).flatten.length : Nat) : Int)]) := by
        rw [List.take_succ_eq_append_getElem hil, (List.getElem?_eq_some_iff.mp hu2).2, nxF_app, nx_one hun, Nat.zero_add]
      generalize hb : (ws.take i).flatten.length = b at el hfl hst
      refine ⟨_, rfl, l, _, rfl, .inl (SqL.of hl3), ?_⟩
      rw [List.length_map, el]
      try dsimp only
      refine ⟨_, rfl, _, rfl, _, _, rfl, rfl, _, rfl, _, rfl, q, _, rfl, .inl (SqL.of hq3), _, _, rfl, rfl, _, _, rfl, rfl, ⟨by omega, by omega, by omega, by rw [List.length_map]; omega, by rw [List.length_map]; omega⟩, fun q1 hq1 => ?_⟩
      rw [show (b : Int) + 1 = ((b + 1 : Nat) : Int) by omega, List.length_map, show (b : Int) + (u.length : Int) = ((b + u.length : Nat) : Int) by omega, rgV_I]
      have s4 := same_upd (o := .lst (iv (rgI (b + 1) (b + u.length)))) hq1
      refine ⟨l, q1, _, _, rfl, rfl, s4 _ _ hl3, upd_same, Evl.sz_of (by rw [List.length_map, List.length_map, rgI_len]; omega), fun q2 hq2 => ?_⟩
      have s5 := s4.trans (same_upd (o := .lst (iv (nxF 0 (ws.take i)) ++ iv (rgI (b + 1) (b + u.length)))) hq2)
      refine ⟨_, rfl, by show 1 ≤ sizeLine; decide, fun q3 hq3' => ?_⟩
      have s6 := s5.trans (same_upd (o := .lst [.int (b : Int)]) hq3')
      have g2 : L2.upd (L2.upd H3 q1 (.lst (iv (rgI (b + 1) (b + u.length))))) q2 (.lst (iv (nxF 0 (ws.take i)) ++ iv (rgI (b + 1) (b + u.length)))) q2 = some (.lst (iv (nxF 0 (ws.take i)) ++ iv (rgI (b + 1) (b + u.length)))) := upd_same
      refine ⟨q2, q3, _, _, rfl, rfl, (same_upd hq3') _ _ g2, upd_same, Evl.sz_of (by rw [List.length_append, List.length_map, List.length_map, rgI_len]; show _ + 1 ≤ _; omega), fun q4 hq4 => ?_⟩
      refine ⟨_, _, q4, rfl, s3.trans (s6.trans (same_upd hq4)), (s3.trans s6).free hq4, ?_⟩
      rw [upd_same, hst]
      simp [iv]
    · rintro σ H3 ⟨v2, v3, l, rfl, s3, hl0, hl3⟩
      rw [lu, List.take_length] at hl3
      exact ⟨_, rfl, k l H3 hl0 s3 hl3⟩
theorem ok_Lets {f : Addr} {fd : FuncData} (F : Fun K "_law_letters" "_law_letters" sLets f fd) (N : TN mg)   : FnOk P w K mg base CX0 1 f fd ["_law_words"] (spLets) := by
  refine F.ok scLets (fun vs H Q E h => ?_) (fun cdv A outer s H vs Q E hr h => ?_)
  · obtain ⟨p, us, ws, rfl, _⟩ := h
    rfl
  · obtain ⟨p, us, ws, rfl, hp, hu, l60, k⟩ := h
    refine ⟨_, pss_cons (ps_set (i := 1) scLets.nd rfl (Or.inl rfl) (pe_lst pa_nil))
      (pss_cons (ps_for PassesOwn.never rfl (pi_list (pv 0)) (pg_name (i := 2) scLets.nd rfl (Or.inl rfl))
      (pss_one (ps_set (i := 1) scLets.nd rfl (Or.inl rfl) (pe_op op_cat (pv 1) (pe_callTy call_list_of (by rfl) N.list (by decide +kernel) (pa_cons (pv 2) pa_nil))))))
      (pss_one (ps_ret (pv 1)))), ?_⟩
    have lu := hu.length
    refine ⟨Nat.zero_le _, fun fo hfo => ?_⟩
    have s1 := same_upd (o := .lst []) hfo
    refine ⟨_, rfl, p, rfl, ⟨_, SqL.of (s1 _ _ hp)⟩, for_list (K := K) (a := p) (xs := us) (fun i σ H' => ∃ (v2 : Option V) (l : Addr), σ = [some (.ref p), some (.ref l), v2] ∧ Same H H' ∧ H l = none ∧ H' l = some (.lst (iv (ws.take i).flatten)))
      ⟨none, fo, rfl, s1, hfo, upd_same⟩ (fun i σ H' _ ⟨_, _, _, s, _⟩ => SqL.of (s _ _ hp)) ?_ ?_⟩
    · rintro i x σ H3 hi ⟨v2, l, rfl, s3, hl0, hl3⟩
      obtain ⟨u, hu2, ⟨q, rfl, hq⟩⟩ := hu.at hi
      have hil : i < ws.length := (List.getElem?_eq_some_iff.mp hu2).1
      have hq3 := s3 _ _ hq
      have hst : (ws.take (i + 1)).flatten = (ws.take i).flatten ++ u := by
        rw [List.take_succ_eq_append_getElem hil, (List.getElem?_eq_some_iff.mp hu2).2, List.flatten_append]
        simp
      have hfl : (ws.take i).flatten.length + u.length ≤ 60 := by
        rw [← List.length_append, ← hst]
        refine Nat.le_trans ?_ l60
        have := congrArg (fun z : List (List Int) => z.flatten.length) (List.take_append_drop (i + 1) ws)
        rw [List.flatten_append, List.length_append] at this
        omega
      refine ⟨_, rfl, _, rfl, q, _, rfl, .inl (SqL.of hq3), fun q1 hq1 => ?_⟩
      have s4 := same_upd (o := .lst (iv u)) hq1
      refine ⟨l, q1, _, _, rfl, rfl, s4 _ _ hl3, upd_same, Evl.sz_of (by rw [List.length_map, List.length_map]; omega), fun q4 hq4 => ?_⟩
      refine ⟨_, q4, rfl, s3.trans (s4.trans (same_upd hq4)), (s3.trans s4).free hq4, ?_⟩
      rw [upd_same, hst]
      simp [iv]
    · rintro σ H3 ⟨v2, l, rfl, s3, hl0, hl3⟩
      rw [lu, List.take_length] at hl3
      exact ⟨_, rfl, k l H3 hl0 s3 hl3⟩
end
end W17
set_option Elab.async false
set_option linter.all false
set_option maxRecDepth 100000
set_option maxHeartbeats 600000
namespace W17
open PySem L2 PySem.Spec PyProof.Rows WR WB WE
/-! ### corners, by the law's own going round -/
theorem inV_nats {p : Nat} {s : List Nat} : inV (.int (p : Int)) (iv (nats s)) = decide (p ∈ s) := by
  unfold inV iv nats
  rw [List.map_map, List.any_map, Bool.eq_iff_iff, List.any_eq_true, decide_eq_true_iff]
  constructor
  · rintro ⟨x, hx, e⟩
    have : V.int ((x : Nat) : Int) = V.int (p : Int) := by
      have e : eqV (V.int ((x : Nat) : Int)) (V.int (p : Int)) = true := e
      simpa [eqV] using e
    injection this with this
    have : x = p := by omega
    exact this ▸ hx
  · intro h
    refine ⟨p, h, ?_⟩
    show eqV (V.int ((p : Nat) : Int)) (V.int (p : Int)) = true
    simp [eqV]
theorem flat_nats (s : List Nat) : (iv (nats s)).all flatV = true := by
  unfold iv nats
  rw [List.map_map, List.all_eq_true]
  intro x hx
  obtain ⟨y, _, rfl⟩ := List.mem_map.mp hx
  rfl
def spCorL (K : PySem.W.Frag) : Sp := fun vs H Q _ => ∃ (p m : Addr) (us : List V) (ws : List (List Int)) (mt : List Int), vs = [.ref p, .ref m] ∧ H p = some (.lst us) ∧ LLs H us ws ∧ (∀ w ∈ ws, w ≠ []) ∧ ws.flatten.length ≤ 60 ∧ SqE K H m (iv mt) ∧ MatesOk ws.flatten.length mt ∧
  ∀ q H', Same H H' → CornAt K H' q (cornF ws mt) → Q (.ref q) H'
abbrev sCorL : Stmt := top 74
abbrev nCorL : List Str := ["_law_words", "_law_mates_here", "_law_nexts_here", "_law_found", "_law_known", "_law_place", "_law_corner", "_law_at"]
theorem scCorL : FnScope nCorL ["_law_words", "_law_mates_here"] (defScope sCorL) := ⟨rfl, rfl, rfl, by decide +kernel, rfl, by decide +kernel, by decide +kernel⟩
section
variable {P : Program} {w : World} {K : PySem.W.Frag} {mg : Str → Option Value} {base : Heap} {C CR : Addr}
theorem ok_CorL {f : Addr} {fd : FuncData} (F : Fun K "_law_corners" "_law_corners" sCorL f fd) (N : TN mg)  (G_nexts : Cal P w K mg base "_law_nexts" 1 ["_law_words"] (spNx)) : FnOk P w K mg base CX0 2 f fd ["_law_words", "_law_mates_here"] (spCorL K) := by
  refine F.ok scCorL (fun vs H Q E h => ?_) (fun cdv A outer s H vs Q E hr h => ?_)
  · obtain ⟨p, m, us, ws, mt, rfl, _⟩ := h
    rfl
  · obtain ⟨p, m, us, ws, mt, rfl, hp, hu, hne, l60, hM, ⟨lm, hm⟩, k⟩ := h
    refine ⟨_, pss_cons (ps_par3 (i := 2) (j := 3) (l := 4) (by rfl) scCorL.nd rfl rfl rfl (by decide) (by decide) (by decide) rfl rfl rfl (pa_cons (pe_cal G_nexts hr (by decide) (by rfl) (pa_cons (pv 0) pa_nil)) (pa_cons (pe_lst pa_nil) (pa_cons (pe_lst pa_nil) pa_nil))) (by rfl))
      (pss_cons (ps_for PassesOwn.never rfl (pi_range1 (by rfl) N.range (pa_cons (pe_callB call_len_seq (by rfl) N.len PySem.boot_len (pa_cons (pv 1) pa_nil)) pa_nil)) (pg_name (i := 5) scCorL.nd rfl (Or.inl rfl))
      (pss_cons (ps_par (i := 6) (j := 7) (by rfl) scCorL.nd rfl rfl (by decide) rfl rfl (pa_cons (pe_lst pa_nil) (pa_cons (pv 5) pa_nil)) (by rfl))
      (pss_cons (ps_while PassesOwn.never (pt_cmpR op_notIn_seq (pv 7) (pv 4) (by rfl))
      (pss_cons (ps_expr (pe_bm PySem.F.plainAttrs_list PySem.F.slot_list_append PySem.F.type_list_append mt_append (pv 4) (pa_cons (pv 7) pa_nil)))
      (pss_cons (ps_expr (pe_bm PySem.F.plainAttrs_list PySem.F.slot_list_append PySem.F.type_list_append mt_append (pv 6) (pa_cons (pv 7) pa_nil)))
      (pss_one (ps_set (i := 7) scCorL.nd rfl (Or.inl rfl) (pe_ix ix_list (pv 2) (pe_ix (ixA (K := K) rfl) (pv 1) (pv 7) (fun _ _ => rfl)) (fun _ _ => rfl)))))))
      (pss_one (ps_if (pt_cmpR (op_neD hr.units) (pv 6) (pe_lst pa_nil) (nomark _)) (pss_one (ps_expr (pe_bm PySem.F.plainAttrs_list PySem.F.slot_list_append PySem.F.type_list_append mt_append (pv 3) (pa_cons (pe_callTy call_tupB (by rfl) N.tuple (by decide +kernel) (pa_cons (pv 6) pa_nil)) pa_nil)))) pss_nil)))))
      (pss_one (ps_ret (pe_callTy call_tupB (by rfl) N.tuple (by decide +kernel) (pa_cons (pv 3) pa_nil))))), ?_⟩
    obtain ⟨n, en⟩ : ∃ n, n = ws.flatten.length := ⟨_, rfl⟩
    unfold cornF at k
    rw [← en] at lm hm k l60
    have hnx : (nxF 0 ws).length = n := by rw [nxF_len, en]
    refine ⟨_, rfl, p, us, ws, rfl, hp, hu, hne, by omega, fun nx H1 hnx0 s1 g1 => ?_⟩
    refine ⟨Nat.zero_le _, fun lf hlf => ?_⟩
    have s2 := same_upd (o := .lst []) hlf
    have g12 := s2 _ _ g1
    have gf2 : L2.upd H1 lf (.lst []) lf = some (.lst []) := upd_same
    have nxf : nx ≠ lf := ne_of_none g1 hlf
    obtain ⟨H2, e2⟩ : ∃ H2, H2 = L2.upd H1 lf (.lst []) := ⟨_, rfl⟩
    rw [← e2] at s2 g12 gf2 ⊢
    refine ⟨Nat.zero_le _, fun lk hlk => ⟨_, _, _, rfl, ?_⟩⟩
    have s3 := same_upd (o := .lst []) hlk
    have nxk : nx ≠ lk := ne_of_none g12 hlk
    have nfk : lf ≠ lk := ne_of_none gf2 hlk
    have f0 : H lf = none := s1.free hlf
    have k0 : H lk = none := (s1.trans s2).free hlk
    have s123 := (s1.trans s2).trans s3
    refine ⟨_, rfl, m, _, rfl, hM.same s123, _, rfl, by rw [List.length_map]; omega, by rw [List.length_map]; omega, ?_⟩
    rw [List.length_map, lm]
    refine for_range (lo := 0) (n := ((n : Nat) : Int).toNat) (fun i σ H' => ∃ (v5 v6 v7 : Option V) (vs : List V) (kn : List Nat), σ = [some (.ref p), some (.ref m), some (.ref nx), some (.ref lf), some (.ref lk), v5, v6, v7] ∧ Same H H' ∧ H' nx = some (.lst (iv (nxF 0 ws))) ∧ H' lf = some (.lst vs) ∧ H' lk = some (.lst (iv (nats kn))) ∧
        (∀ x, x ∈ kn ↔ x ∈ (crn (nxF 0 ws) mt n i).1) ∧ kn.length = (crn (nxF 0 ws) mt n i).1.length ∧ SeenOk n (crn (nxF 0 ws) mt n i).1 ∧ vs.length ≤ i ∧ All2 (fun v c => ∃ q, v = V.ref q ∧ SqB K H' q (iv (nats c))) vs (crn (nxF 0 ws) mt n i).2)
      ⟨none, none, none, [], [], rfl, s123, s3 _ _ g12, s3 _ _ gf2, upd_same, (fun x => Iff.rfl), rfl, ⟨List.nodup_nil, fun _ h => nomatch h⟩, Nat.le_refl _, .nil⟩ ?_ ?_
    · rintro i σ H3 hi ⟨v5, v6, v7, vs, kn, rfl, sm, gx, gf, gk, hmem, hlen, hso, lvs, hcs⟩
      rw [Int.toNat_natCast] at hi
      refine ⟨Nat.zero_le _, fun lc hlc => ⟨_, rfl, _, _, rfl, ?_⟩⟩
      have s4 := same_upd (o := .lst []) hlc
      have nxc : nx ≠ lc := ne_of_none gx hlc
      have nfc : lf ≠ lc := ne_of_none gf hlc
      have nkc : lk ≠ lc := ne_of_none gk hlc
      have c0 : H lc = none := sm.free hlc
      refine while_by (fun σ H4 => ∃ (k pl : Nat) (s c kn : List Nat), σ = [some (.ref p), some (.ref m), some (.ref nx), some (.ref lf), some (.ref lk), some (.int (0 + (i : Nat))), some (.ref lc), some (.int (pl : Int))] ∧ Same H H4 ∧ H4 nx = some (.lst (iv (nxF 0 ws))) ∧ H4 lf = some (.lst vs) ∧ H4 lk = some (.lst (iv (nats kn))) ∧
          (∀ x, x ∈ kn ↔ x ∈ s) ∧ kn.length = s.length ∧ SeenOk n s ∧ pl < n ∧ H4 lc = some (.lst (iv (nats c))) ∧ c.length ≤ s.length ∧ All2 (fun v c => ∃ q, v = V.ref q ∧ SqB K H4 q (iv (nats c))) vs (crn (nxF 0 ws) mt n i).2 ∧
          orb (nxF 0 ws) mt k s pl c = orb (nxF 0 ws) mt (n + 1) (crn (nxF 0 ws) mt n i).1 i [] ∧ n - s.length < k)
        (fun _ H4 => match H4 lc with | some (.lst xs) => n + 1 - xs.length | _ => 0) ?_ ?_ ?_
      · exact ⟨n + 1, i, (crn (nxF 0 ws) mt n i).1, [], kn, by rw [Int.zero_add]; rfl, sm.trans s4, s4 _ _ gx, s4 _ _ gf, s4 _ _ gk, hmem, hlen, hso, hi, upd_same, Nat.zero_le _, hcs.imp fun _ _ ⟨q, e, r⟩ => ⟨q, e, SqB.same s4 r⟩, rfl, by omega⟩
      · rintro σ H4 ⟨kk, pl, s, c, kn, rfl, sm4, gx4, gf4, gk4, hme4, hle4, hok, hpl, hL, lcs, hcs4, eo, hkk⟩
        refine ⟨_, rfl, _, rfl, lk, _, rfl, .inl (SqL.of gk4), rfl, flat_nats kn, _, rfl, ?_⟩
        show if (!inV (.int (pl : Int)) (iv (nats kn))) = true then _ else _
        rw [inV_nats]
        by_cases hin : pl ∈ s
        · refine iteF' (by rw [decide_eq_true ((hme4 pl).mpr hin)]; rfl) ?_
          rw [orb_in (by omega) hin] at eo
          have f1 : (crn (nxF 0 ws) mt n (i + 1)).1 = s := by
            show (orb (nxF 0 ws) mt (n + 1) (crn (nxF 0 ws) mt n i).1 i []).1 = s
            rw [← eo]
          have f2 : (crn (nxF 0 ws) mt n (i + 1)).2 = if c = [] then (crn (nxF 0 ws) mt n i).2 else (crn (nxF 0 ws) mt n i).2 ++ [c] := by
            show (if (orb (nxF 0 ws) mt (n + 1) (crn (nxF 0 ws) mt n i).1 i []).2 = [] then _ else _ ++ [(orb (nxF 0 ws) mt (n + 1) (crn (nxF 0 ws) mt n i).1 i []).2]) = _
            rw [← eo]
          have lvn : (nats c).length = c.length := List.length_map ..
          refine ⟨_, rfl, Nat.zero_le _, fun q0 hq0 => ?_⟩
          have s5 := same_upd (o := .lst []) hq0
          refine ⟨.list ((nats c).map PyData.int), .list [], .lst (SqL.of (s5 _ _ hL)) (dpInts (nats c)), .lst (SqL.of upd_same) .nil, PySem.W.ke_shaped_ints (nats c), rfl, _, rfl, ?_⟩
          have gx5 := s5 _ _ gx4
          have gf5 := s5 _ _ gf4
          have gk5 := s5 _ _ gk4
          have hL5 := s5 _ _ hL
          have hcs5 : All2 (fun v c => ∃ q, v = V.ref q ∧ SqB K (L2.upd H4 q0 (.lst [])) q (iv (nats c))) vs (crn (nxF 0 ws) mt n i).2 := hcs4.imp fun _ _ ⟨q, e, r⟩ => ⟨q, e, SqB.same s5 r⟩
          have sm5 := sm4.trans s5
          generalize L2.upd H4 q0 (.lst []) = H5 at gx5 gf5 gk5 hL5 hcs5 sm5 ⊢
          by_cases hc : c = []
          · subst hc
            refine iteF' rfl ?_
            exact ⟨_, _, _, vs, kn, rfl, sm5, gx5, gf5, gk5, (by rw [f1]; exact hme4), (by rw [f1]; exact hle4), (by rw [f1]; exact hok), by omega, by rw [f2, if_pos rfl]; exact hcs5⟩
          · refine iteT' (by
              cases c with
              | nil => exact absurd rfl hc
              | cons => rfl) ?_
            refine ⟨_, rfl, .inl ⟨rfl, _, SqL.of gf5⟩, _, rfl, lc, _, rfl, .inl ⟨SqL.of hL5, fun q H6 s6 B6 => ?_⟩⟩
            have gf6 := s6 _ _ gf5
            refine ⟨lf, vs, _, rfl, rfl, gf6, Evl.sz_lt (by omega), ?_⟩
            refine ⟨_, _, _, vs ++ [.ref q], kn, rfl, fun b o e => ?_, ?_, upd_same, ?_, (by rw [f1]; exact hme4), (by rw [f1]; exact hle4), (by rw [f1]; exact hok), by rw [List.length_append]; exact Nat.succ_le_succ lvs, ?_⟩
            · rw [upd_ne (ne_of_none e f0)]
              exact s6 _ _ (sm5 _ _ e)
            · rw [upd_ne nxf]; exact s6 _ _ gx5
            · rw [upd_ne nfk.symm]; exact s6 _ _ gk5
            · rw [f2, if_neg hc]
              exact All2.app (hcs5.imp fun _ _ ⟨q', e, r⟩ => ⟨q', e, SqB.keptL gf6 Kept.upd (SqB.same s6 r)⟩) (.cons ⟨q, rfl, SqB.keptL gf6 Kept.upd B6⟩ .nil)
        · have hsl := hok.lt hpl hin
          refine iteT' (by rw [decide_eq_false fun z => hin ((hme4 pl).mp z)]; rfl) ?_
          have lkn : (iv (nats kn)).length = kn.length := by unfold iv nats; rw [List.length_map, List.length_map]
          have lcn : (iv (nats c)).length = c.length := by unfold iv nats; rw [List.length_map, List.length_map]
          refine ⟨_, rfl, .inl ⟨rfl, _, SqL.of gk4⟩, _, rfl, lk, _, _, rfl, rfl, gk4, Evl.sz_lt (by rw [lkn]; omega), ?_⟩
          have gx5 : L2.upd H4 lk (.lst (iv (nats kn) ++ [.int (pl : Int)])) nx = some (.lst (iv (nxF 0 ws))) := by rw [upd_ne nxk]; exact gx4
          have gf5 : L2.upd H4 lk (.lst (iv (nats kn) ++ [.int (pl : Int)])) lf = some (.lst vs) := by rw [upd_ne nfk]; exact gf4
          have hL5 : L2.upd H4 lk (.lst (iv (nats kn) ++ [.int (pl : Int)])) lc = some (.lst (iv (nats c))) := by rw [upd_ne nkc.symm]; exact hL
          have gk5 : L2.upd H4 lk (.lst (iv (nats kn) ++ [.int (pl : Int)])) lk = some (.lst (iv (nats (kn ++ [pl])))) := by
            rw [upd_same]
            simp [iv, nats]
          have sm5 : Same H (L2.upd H4 lk (.lst (iv (nats kn) ++ [.int (pl : Int)]))) := fun b o e => by
            rw [upd_ne (ne_of_none e k0)]
            exact sm4 _ _ e
          have hcs5 : All2 (fun v c => ∃ q, v = V.ref q ∧ SqB K (L2.upd H4 lk (.lst (iv (nats kn) ++ [.int (pl : Int)]))) q (iv (nats c))) vs (crn (nxF 0 ws) mt n i).2 := hcs4.imp fun _ _ ⟨q', e, r⟩ => ⟨q', e, SqB.keptL gk4 Kept.upd r⟩
          generalize L2.upd H4 lk (.lst (iv (nats kn) ++ [.int (pl : Int)])) = H5 at gx5 gf5 gk5 hL5 sm5 hcs5 ⊢
          refine ⟨_, rfl, .inl ⟨rfl, _, SqL.of hL5⟩, _, rfl, lc, _, _, rfl, rfl, hL5, Evl.sz_lt (by rw [lcn]; omega), ?_⟩
          have gx6 : L2.upd H5 lc (.lst (iv (nats c) ++ [.int (pl : Int)])) nx = some (.lst (iv (nxF 0 ws))) := by rw [upd_ne nxc]; exact gx5
          have gf6 : L2.upd H5 lc (.lst (iv (nats c) ++ [.int (pl : Int)])) lf = some (.lst vs) := by rw [upd_ne nfc]; exact gf5
          have gk6 : L2.upd H5 lc (.lst (iv (nats c) ++ [.int (pl : Int)])) lk = some (.lst (iv (nats (kn ++ [pl])))) := by rw [upd_ne nkc]; exact gk5
          have hL6 : L2.upd H5 lc (.lst (iv (nats c) ++ [.int (pl : Int)])) lc = some (.lst (iv (nats (c ++ [pl])))) := by
            rw [upd_same]
            simp [iv, nats]
          have sm6 : Same H (L2.upd H5 lc (.lst (iv (nats c) ++ [.int (pl : Int)]))) := fun b o e => by
            rw [upd_ne (ne_of_none e c0)]
            exact sm5 _ _ e
          have hcs6 : All2 (fun v c' => ∃ q, v = V.ref q ∧ SqB K (L2.upd H5 lc (.lst (iv (nats c) ++ [.int (pl : Int)]))) q (iv (nats c'))) vs (crn (nxF 0 ws) mt n i).2 := hcs5.imp fun _ _ ⟨q', e, r⟩ => ⟨q', e, SqB.keptL hL5 Kept.upd r⟩
          obtain ⟨H6, e6⟩ : ∃ H6, H6 = L2.upd H5 lc (.lst (iv (nats c) ++ [.int (pl : Int)])) := ⟨_, rfl⟩
          rw [← e6] at gx6 gf6 gk6 hL6 sm6 hcs6 ⊢
          have lpm : pl < mt.length := by omega
          obtain ⟨m0, m1⟩ := hm _ (List.getElem_mem lpm)
          have lmn : mt[pl].toNat < (nxF 0 ws).length := by omega
          obtain ⟨x0, x1⟩ := nxF_rng ws 0 hne _ (List.getElem_mem lmn)
          rw [Nat.zero_add, ← en] at x1
          have enx : nxt (nxF 0 ws) mt pl = ((nxF 0 ws)[mt[pl].toNat]).toNat := by
            unfold nxt
            rw [List.getD_eq_getElem?_getD, List.getD_eq_getElem?_getD, List.getElem?_eq_getElem lpm]
            show ((nxF 0 ws)[mt[pl].toNat]?.getD 0).toNat = _
            rw [List.getElem?_eq_getElem lmn]
            rfl
          have em : mt[pl] = ((mt[pl].toNat : Nat) : Int) := by omega
          refine ⟨_, rfl, _, rfl, _, rfl, m, _, _, _, rfl, rfl, hM.same sm6, atI_nat (iv_get (List.getElem?_eq_getElem lpm)), nx, _, _, _, rfl, rfl, SqL.of gx6, (by rw [em]; exact atI_nat (iv_get (List.getElem?_eq_getElem lmn))), ?_⟩
          refine at_set ?_
          obtain ⟨k', rfl⟩ : ∃ k', kk = k' + 1 := ⟨kk - 1, by omega⟩
          have eo' := (orb_out hin).symm.trans eo
          have ex : ((nxt (nxF 0 ws) mt pl : Nat) : Int) = (nxF 0 ws)[mt[pl].toNat] := by
            rw [enx]
            omega
          refine ⟨⟨k', nxt (nxF 0 ws) mt pl, pl :: s, c ++ [pl], kn ++ [pl], by rw [ex]; rfl, sm6, gx6, gf6, gk6, fun x => ?_, ?_, ⟨List.nodup_cons.mpr ⟨hin, hok.1⟩, fun x hx => ?_⟩, by omega, hL6, ?_, hcs6, eo', ?_⟩, ?_⟩
          · rw [List.mem_append, List.mem_singleton, List.mem_cons, hme4]
            exact or_comm
          · rw [List.length_append, List.length_cons, hle4]
            rfl
          · rcases List.mem_cons.mp hx with rfl | hx
            · exact hpl
            · exact hok.2 x hx
          · rw [List.length_append, List.length_cons]
            show c.length + 1 ≤ s.length + 1
            omega
          · rw [List.length_cons]
            omega
          · show (match H6 lc with | some (.lst xs) => n + 1 - xs.length | _ => 0) < (match H4 lc with | some (.lst xs) => n + 1 - xs.length | _ => 0)
            rw [hL6, hL]
            show n + 1 - (iv (nats (c ++ [pl]))).length < n + 1 - (iv (nats c)).length
            unfold iv nats
            simp only [List.length_map, List.length_append, List.length_cons, List.length_nil]
            omega
      · rintro σ H4 Q Q' hh ⟨v, e1, u, e2, p1, xs1, ey, hs, f1, f2, c, ec, q⟩
        exact ⟨v, e1, u, e2, p1, xs1, ey, hs, f1, f2, c, ec, hh c H4 q⟩
    · rintro σ H3 ⟨v5, v6, v7, vs, kn, rfl, sm, gx, gf, gk, hmem, hlen, hso, lvs, hcs⟩
      rw [Int.toNat_natCast] at hcs lvs
      exact ⟨_, rfl, lf, _, rfl, .inl ⟨SqL.of gf, fun q H5 s5 B5 => k q H5 (sm.trans s5) ⟨vs, B5, hcs.imp fun _ _ ⟨q, e, r⟩ => ⟨q, e, SqB.same s5 r⟩⟩⟩⟩
end
end W17
set_option Elab.async false
set_option linter.all false
set_option maxRecDepth 100000
set_option maxHeartbeats 600000
namespace W17
open PySem L2 PySem.Spec PyProof.Rows WR WB WE WS
/-! ### drawn mates -/
theorem for_ss_lc {K : PySem.W.Frag} {r1 r2 : List V → Hp → VK → Prop} {wi : TI} {g gg : TG} {tt : TT} {te : TE} {vs : List Nat} {tb : TS} {D : Ends} {σ : L2.St} {H : Hp}
    (h : wi σ H fun J H1 => tLc (fun _ H R => R J H) g tt te vs σ H1 fun y H2 => r2 [y] H2 fun z H3 => r1 [z] H3 fun u H4 => tFor (iList K (fun _ H Q => Q u H)) gg tb D σ H4) :
    tFor (iList K (tCB r1 (tCons (tCB r2 (tCons (tLc wi g tt te vs) tNil)) tNil))) gg tb D σ H := h
theorem sq_lcS {wi : TI} {g gg : TG} {tt : TT} {te : TE} {vs : List Nat} {D : Ends} {σ : L2.St} {H : Hp} {Cc : TS}
    (h : wi σ H fun J H1 => tLc (fun _ H R => R J H) g tt te vs σ H1 fun z H4 => gg z σ H4 (Cc D)) : tSeq (tAsg (tLc wi g tt te vs) gg) Cc D σ H := h
theorem asg_cal_lc {sq : Sp} {t0 : TE} {wi : TI} {g gg : TG} {tt : TT} {te : TE} {vs : List Nat} {D : Ends} {σ : L2.St} {H : Hp} {Cc : TS}
    (h : t0 σ H fun x H0 => wi σ H0 fun J H1 => tLc (fun _ H R => R J H) g tt te vs σ H1 fun y H2 => sq [x, y] H2 (fun z H4 => gg z σ H4 (Cc D)) E0) : tSeq (tAsg (tCall sq [] E0 (tCons t0 (tCons (tLc wi g tt te vs) tNil))) gg) Cc D σ H := h
/-- the places with a letter -/
def plc (ls : List Int) (k : Int) : List Nat := (List.range ls.length).filter fun p => decide (ls.getD p 0 = k)
theorem plc_mem {ls : List Int} {k : Int} {p : Nat} : p ∈ plc ls k ↔ p < ls.length ∧ ls.getD p 0 = k := by
  unfold plc
  rw [List.mem_filter, List.mem_range, decide_eq_true_iff]
theorem plc_nodup (ls : List Int) (k : Int) : (plc ls k).Nodup := (List.nodup_range (n := ls.length)).filter _
theorem self_map (ls : List Int) : ls = (List.range ls.length).map fun i => ls.getD i 0 := by
  refine List.ext_getElem (by simp) fun i h1 h2 => ?_
  rw [List.getElem_map, List.getElem_range, getD_lt h1]
theorem plc_len (ls : List Int) (k : Int) : (plc ls k).length = ls.count k := by
  conv => rhs; rw [self_map ls]
  unfold plc
  rw [List.count_eq_countP, List.countP_map, List.countP_eq_length_filter]
  congr 1
/-- places of these kinds have mates -/
def Half (ls fd : List Int) (S : Int → Prop) : Prop := ∀ p, p < ls.length → S (((ls.getD p 0).natAbs : Nat) : Int) → mtn fd p < ls.length ∧ fd.getD p 0 = ((mtn fd p : Nat) : Int) ∧ mtn fd (mtn fd p) = p ∧ ls.getD (mtn fd p) 0 = -ls.getD p 0
theorem half_ok {ls fd : List Int} (hl : fd.length = ls.length) (lt : Lts ls) {S : Int → Prop} (h : Half ls fd S) (all : ∀ z ∈ ls, S ((z.natAbs : Nat) : Int)) : MatOk ls fd := by
  have at_ : ∀ p (hp : p < ls.length), mtn fd p < ls.length ∧ fd.getD p 0 = ((mtn fd p : Nat) : Int) ∧ mtn fd (mtn fd p) = p ∧ ls.getD (mtn fd p) 0 = -ls.getD p 0 := fun p hp => h p hp (by
    rw [getD_lt hp]
    exact all _ (List.getElem_mem hp))
  have nz : ∀ p (hp : p < ls.length), ls.getD p 0 ≠ 0 := fun p hp e => by
    have := lt _ (List.getElem_mem hp)
    rw [← getD_lt hp, e] at this
    simp at this
  refine ⟨mates_ok_of hl (mtn fd) fun i hi => ?_, fun i hi => ?_⟩
  · have hi' : i < ls.length := by omega
    obtain ⟨h1, h2, h3, h4⟩ := at_ i hi'
    refine ⟨by rw [← getD_lt hi]; exact h2, h1, fun e => ?_, h3⟩
    rw [e] at h4
    have := nz i hi'
    omega
  · have hi' : i < ls.length := by omega
    obtain ⟨h1, h2, h3, h4⟩ := at_ i hi'
    have : fd[i].toNat = mtn fd i := by
      show _ = (fd.getD i 0).toNat
      rw [getD_lt hi]
    rw [this]
    exact h4
theorem getD_set2 {fd : List Int} {p q : Nat} (hp : p < fd.length) (hq : q < fd.length) (n : p ≠ q) (i : Nat) : ((fd.set p ((q : Nat) : Int)).set q ((p : Nat) : Int)).getD i 0 = if i = q then ((p : Nat) : Int) else if i = p then ((q : Nat) : Int) else fd.getD i 0 := by
  rw [List.getD_eq_getElem?_getD, List.getElem?_set, List.getElem?_set, List.length_set]
  by_cases h1 : i = q
  · subst h1
    rw [if_pos rfl, if_pos hq, if_pos rfl]
    rfl
  · rw [if_neg (fun e => h1 e.symm), if_neg h1]
    by_cases h2 : i = p
    · subst h2
      rw [if_pos rfl, if_pos hp, if_pos rfl]
      rfl
    · rw [if_neg (fun e => h2 e.symm), if_neg h2, List.getD_eq_getElem?_getD]
/-- the mates of one kind, pair by pair -/
structure Prs (ls fd0 fd : List Int) (fw bw : List Nat) (j : Nat) : Prop where
  len : fd.length = ls.length
  old : ∀ p, p ∉ fw.take j → p ∉ bw.take j → fd.getD p 0 = fd0.getD p 0
  one : ∀ t, t < j → ∀ x y, fw[t]? = some x → bw[t]? = some y → fd.getD x 0 = ((y : Nat) : Int) ∧ fd.getD y 0 = ((x : Nat) : Int)
theorem take_not {xs : List Nat} (h : xs.Nodup) {i : Nat} {x : Nat} (hx : xs[i]? = some x) : x ∉ xs.take i := fun hm => by
  obtain ⟨j, hj, e⟩ := List.getElem_of_mem hm
  rw [List.length_take] at hj
  rw [List.getElem_take] at e
  have hi := (List.getElem?_eq_some_iff.mp hx)
  obtain ⟨hi1, hi2⟩ := hi
  have := List.pairwise_iff_getElem.mp h j i (by omega) hi1 (by omega)
  exact this (by rw [e, hi2])
theorem Prs.step {ls fd0 fd : List Int} {fw bw : List Nat} {j x y : Nat} (h : Prs ls fd0 fd fw bw j) (nf : fw.Nodup) (nb : bw.Nodup) (dj : ∀ a ∈ fw, a ∉ bw) (hx : fw[j]? = some x) (hy : bw[j]? = some y) (lx : x < ls.length) (ly : y < ls.length) :
    Prs ls fd0 ((fd.set x ((y : Nat) : Int)).set y ((x : Nat) : Int)) fw bw (j + 1) := by
  have nxy : x ≠ y := fun e => dj x (List.mem_of_getElem? hx) (e ▸ List.mem_of_getElem? hy)
  have hl := h.len
  have g := fun i => getD_set2 (fd := fd) (p := x) (q := y) (by omega) (by omega) nxy i
  have tx := take_not nf hx
  have ty := take_not nb hy
  have ef : fw.take (j + 1) = fw.take j ++ [x] := by
    rw [List.take_succ_eq_append_getElem (List.getElem?_eq_some_iff.mp hx).1, (List.getElem?_eq_some_iff.mp hx).2]
  have eb : bw.take (j + 1) = bw.take j ++ [y] := by
    rw [List.take_succ_eq_append_getElem (List.getElem?_eq_some_iff.mp hy).1, (List.getElem?_eq_some_iff.mp hy).2]
  refine ⟨by rw [List.length_set, List.length_set]; exact hl, fun p h1 h2 => ?_, fun t ht a b ha hb => ?_⟩
  · rw [ef, List.mem_append, List.mem_singleton, not_or] at h1
    rw [eb, List.mem_append, List.mem_singleton, not_or] at h2
    rw [g, if_neg h2.2, if_neg h1.2]
    exact h.old p h1.1 h2.1
  · rcases Nat.lt_succ_iff_lt_or_eq.mp ht with ht | rfl
    · obtain ⟨o1, o2⟩ := h.one t ht a b ha hb
      have at_ : a ∈ fw.take j := List.mem_of_getElem? (by rw [List.getElem?_take, if_pos ht]; exact ha)
      have bt : b ∈ bw.take j := List.mem_of_getElem? (by rw [List.getElem?_take, if_pos ht]; exact hb)
      have n1 : a ≠ x := fun e => tx (e ▸ at_)
      have n2 : b ≠ y := fun e => ty (e ▸ bt)
      have n3 : a ≠ y := fun e => dj a (List.mem_of_getElem? ha) (e ▸ List.mem_of_getElem? hy)
      have n4 : b ≠ x := fun e => dj x (List.mem_of_getElem? hx) (e ▸ List.mem_of_getElem? hb)
      rw [g, g, if_neg n3, if_neg n1, if_neg n2, if_neg n4]
      exact ⟨o1, o2⟩
    · obtain rfl := Option.some.inj (ha.symm.trans hx)
      obtain rfl := Option.some.inj (hb.symm.trans hy)
      rw [g, g, if_neg nxy, if_pos rfl, if_pos rfl]
      exact ⟨rfl, rfl⟩
theorem Prs.half {ls fd0 fd : List Int} {bw : List Nat} {k : Int} {S : Int → Prop} (h : Prs ls fd0 fd (plc ls k) bw (plc ls k).length) (k0 : 0 < k) (hb : bw.Perm (plc ls (-k))) (le : bw.length = (plc ls k).length) (h0 : Half ls fd0 S) : Half ls fd fun z => S z ∨ z = k := by
  have mb : ∀ p, p ∈ bw ↔ p < ls.length ∧ ls.getD p 0 = -k := fun p => by rw [hb.mem_iff, plc_mem]
  have old := h.old
  rw [List.take_length, ← le, List.take_length] at old
  intro p hp hs
  by_cases hk : ((ls.getD p 0).natAbs : Int) = k
  · have cases : ls.getD p 0 = k ∨ ls.getD p 0 = -k := by omega
    rcases cases with e | e
    · obtain ⟨t, ht, et⟩ := List.getElem_of_mem (plc_mem.mpr ⟨hp, e⟩)
      have ht2 : t < bw.length := by omega
      obtain ⟨o1, o2⟩ := h.one t ht p bw[t] (by rw [List.getElem?_eq_getElem ht, et]) (List.getElem?_eq_getElem ht2)
      obtain ⟨m1, m2⟩ := (mb _).mp (List.getElem_mem ht2)
      have e1 : mtn fd p = bw[t] := by unfold mtn; rw [o1, Int.toNat_natCast]
      have e2 : mtn fd bw[t] = p := by unfold mtn; rw [o2, Int.toNat_natCast]
      exact ⟨by rw [e1]; exact m1, by rw [e1]; exact o1, by rw [e1, e2], by rw [e1, m2, e]⟩
    · obtain ⟨t, ht, et⟩ := List.getElem_of_mem ((mb p).mpr ⟨hp, e⟩)
      have ht2 : t < (plc ls k).length := by omega
      obtain ⟨o1, o2⟩ := h.one t ht2 (plc ls k)[t] p (List.getElem?_eq_getElem ht2) (by rw [List.getElem?_eq_getElem ht, et])
      obtain ⟨m1, m2⟩ := plc_mem.mp (List.getElem_mem ht2)
      have e1 : mtn fd p = (plc ls k)[t] := by unfold mtn; rw [o2, Int.toNat_natCast]
      have e2 : mtn fd (plc ls k)[t] = p := by unfold mtn; rw [o1, Int.toNat_natCast]
      exact ⟨by rw [e1]; exact m1, by rw [e1]; exact o2, by rw [e1, e2], by rw [e1, m2, e]; omega⟩
  · have hs' : S ((ls.getD p 0).natAbs : Int) := hs.resolve_right hk
    obtain ⟨a1, a2, a3, a4⟩ := h0 p hp hs'
    have keep : ∀ x, x < ls.length → ((ls.getD x 0).natAbs : Int) ≠ k → fd.getD x 0 = fd0.getD x 0 := fun x hx n => old x (fun hm => n (by rw [(plc_mem.mp hm).2]; omega)) fun hm => n (by rw [((mb x).mp hm).2]; omega)
    have k1 := keep p hp hk
    have m1 : mtn fd p = mtn fd0 p := by unfold mtn; rw [k1]
    have k2 := keep (mtn fd0 p) a1 (by rw [a4]; omega)
    have m2 : mtn fd (mtn fd0 p) = p := by
      show (fd.getD (mtn fd0 p) 0).toNat = p
      rw [k2]
      exact a3
    exact ⟨by rw [m1]; exact a1, by rw [k1, m1]; exact a2, by rw [m1, m2], by rw [m1]; exact a4⟩
def spMates : Sp := fun vs H Q _ => ∃ (a c p : Addr) (ls : List Int) (n : Nat), vs = [.ref a, .ref p] ∧ HandAt H a c n ∧ p ≠ a ∧ H p = some (.lst (iv ls)) ∧ ls.length ≤ 60 ∧ Lts ls ∧ (∀ z, (ls.count z : Int) = ls.count (-z)) ∧ n ≤ 6000 ∧
  ∀ l H' mt, H l = none → Drew a c (n + 100) H H' → H' l = some (.lst (iv mt)) → MatOk ls mt → Q (.ref l) H'
abbrev sMates : Stmt := top 76
abbrev nMates : List Str := ["_law_pen_here", "_law_letters_here", "_law_found", "_law_kind", "_law_forward", "_law_backward", "_law_one", "_law_other", "_law_place", "_law_letter"]
theorem scMates : FnScope nMates ["_law_pen_here", "_law_letters_here"] (defScope sMates) := ⟨rfl, rfl, rfl, by decide +kernel, rfl, by decide +kernel, by decide +kernel⟩
section
variable {P : Program} {w : World} {K : PySem.W.Frag} {mg : Str → Option Value} {base : Heap} {C CR : Addr}
theorem ok_Mates {f : Addr} {fd : FuncData} (F : Fun K "_law_mates" "_law_mates" sMates f fd) (N : TN mg)  (G_mixed : Cal P w K mg base "_law_mixed" 2 ["_law_pen_here", "_law_some"] (spMixed)) : FnOk P w K mg base CX0 3 f fd ["_law_pen_here", "_law_letters_here"] (spMates) := by
  refine F.ok scMates (fun vs H Q E h => ?_) (fun cdv A outer s H vs Q E hr h => ?_)
  · obtain ⟨a, c, p, ls, n, rfl, _⟩ := h
    rfl
  · obtain ⟨a, c, p, ls, n, rfl, hH, hpa, hp, l60, lt, bal, hn, k⟩ := h
    refine ⟨_, pss_cons (ps_set (i := 2) scMates.nd rfl (Or.inl rfl) (pe_op op_rep (pe_lst (pa_cons pe_int pa_nil)) (pe_callB call_len_seq (by rfl) N.len PySem.boot_len (pa_cons (pv 1) pa_nil))))
      (pss_cons (ps_for PassesOwn.never rfl (pi_list (pe_callB (cr_sortedSet rfl) (by rfl) N.sorted (by decide +kernel) (pa_cons (pe_callTy (call_setLI rfl) (by rfl) N.set (by decide +kernel) (pa_cons (pe_lc (own := [("_law_letter", 9)]) (g := gName 9) (tt := tYes) rfl scMates.nd (pi_list (pv 1)) (blkOk_by (N := nMates) (sc := defScope sMates) (by decide +kernel)) (fun _ _ _ _ _ => (pg_name (i := 9) scMates.nd rfl (Or.inl rfl))) (fun _ _ _ _ _ => pts_nil) (fun _ _ _ _ _ => (pe_callB call_abs (by rfl) N.abs (by decide +kernel) (pa_cons (pv 9) pa_nil)))) pa_nil)) pa_nil))) (pg_name (i := 3) scMates.nd rfl (Or.inr rfl))
      (pss_cons (ps_setLc (i := 4) (own := [("_law_place", 8), ("_law_letter", 9)]) (g := gTup K 2 (gCons (gName 8) (gCons (gName 9) gNil))) rfl scMates.nd rfl rfl (sw_true rfl rfl rfl (by decide +kernel)) (pi_enum (by rfl) N.enumerate (pa_cons (pv 1) pa_nil)) (blkOk_by (N := nMates) (sc := defScope sMates) (by decide +kernel)) (fun _ _ _ _ _ => (pg_tup (n := 2) rfl (pgs_cons (pg_name (i := 8) scMates.nd rfl (Or.inl rfl)) (pgs_cons (pg_name (i := 9) scMates.nd rfl (Or.inl rfl)) pgs_nil)))) (fun _ _ _ _ _ => (pts_one (pt_cmpR op_eq (pv 9) (pv 3) (nomark _)))) (fun _ _ _ _ _ => (pv 8)))
      (pss_cons (ps_set (i := 5) scMates.nd rfl (Or.inl rfl) (pe_cal G_mixed hr (by decide) (by rfl) (pa_cons (pv 0) (pa_cons (pe_lc (own := [("_law_place", 8), ("_law_letter", 9)]) (g := gTup K 2 (gCons (gName 8) (gCons (gName 9) gNil))) rfl scMates.nd (pi_enum (by rfl) N.enumerate (pa_cons (pv 1) pa_nil)) (blkOk_by (N := nMates) (sc := defScope sMates) (by decide +kernel)) (fun _ _ _ _ _ => (pg_tup (n := 2) rfl (pgs_cons (pg_name (i := 8) scMates.nd rfl (Or.inl rfl)) (pgs_cons (pg_name (i := 9) scMates.nd rfl (Or.inl rfl)) pgs_nil)))) (fun _ _ _ _ _ => (pts_one (pt_cmpR op_eq (pv 9) (pe_un un_neg (pv 3)) (nomark _)))) (fun _ _ _ _ _ => (pv 8))) pa_nil))))
      (pss_one (ps_for PassesOwn.never rfl (pi_zip (by rfl) N.zip (pa_cons (pv 4) (pa_cons (pv 5) pa_nil))) (pg_tup (n := 2) rfl (pgs_cons (pg_name (i := 6) scMates.nd rfl (Or.inl rfl)) (pgs_cons (pg_name (i := 7) scMates.nd rfl (Or.inl rfl)) pgs_nil)))
      (pss_one (ps_asg (pe_tup (pa_cons (pv 7) (pa_cons (pv 6) pa_nil))) (pg_tup (n := 2) rfl (pgs_cons (pg_sub (pv 2) (pv 6) set_list) (pgs_cons (pg_sub (pv 2) (pv 7) set_list) pgs_nil))))))))))
      (pss_one (ps_ret (pv 2)))), ?_⟩
    have elen : ((iv ls).length : Int) = (ls.length : Int) := by rw [List.length_map]
    refine ⟨by show 1 ≤ sizeLine; decide, fun q0 hq0 => ?_⟩
    have s0 := same_upd (o := .lst [.int 0]) hq0
    refine ⟨_, rfl, p, _, rfl, .inl (SqL.of (s0 _ _ hp)), q0, _, _, rfl, rfl, upd_same, by omega, by omega, Evl.sz_of (by show 1 * ((((iv ls).length : Nat) : Int)).toNat ≤ _; omega), fun fo hfo => ?_⟩
    have s1 := s0.trans (same_upd (o := .lst (List.replicate (((iv ls).length : Nat) : Int).toNat [V.int 0]).flatten) hfo)
    have fo0 : H fo = none := s0.free hfo
    have gfo : L2.upd (L2.upd H q0 (.lst [.int 0])) fo (.lst (List.replicate (((iv ls).length : Nat) : Int).toNat [V.int 0]).flatten) fo = some (.lst (iv (List.replicate ls.length 0))) := by
      rw [upd_same, Int.toNat_natCast, List.length_map]
      simp [iv]
    obtain ⟨H1, e1⟩ : ∃ H1, H1 = L2.upd (L2.upd H q0 (.lst [.int 0])) fo (.lst (List.replicate (((iv ls).length : Nat) : Int).toNat [V.int 0]).flatten) := ⟨_, rfl⟩
    rw [← e1] at s1 gfo ⊢
    have hfa := hH.ne fo0
    have hfc := hH.neC fo0
    have hpf : p ≠ fo := fun e => by rw [e, fo0] at hp; cases hp
    have D1 : Drew a c n H H1 := (Drew.refl hH).same s1
    refine at_set ?_
    try dsimp only
    refine for_ss_lc (K := K) ?_
    have hp1 := s1 _ _ hp
    refine ⟨_, rfl, p, rfl, ⟨_, SqL.of hp1⟩, ?_⟩
    refine lcp (walk_list (K := K) (a := p) (xs := iv ls)) (fun _ => true) (fun x => match x with | .int i => V.int (if i < 0 then -i else i) | v => v) (by rw [List.length_map]; omega) (fun H' s => SqL.of (s _ _ hp1)) ?_ ?_
    · intro x hx H2 s2 Qy Qn ky kn
      obtain ⟨z, hz, rfl⟩ := List.mem_map.mp hx
      exact ⟨rfl, yes_te ⟨_, rfl, z, rfl, ky rfl H2 (Same.refl _)⟩⟩
    intro D H2 hD s2 hD2
    have eab : ((iv ls).filter (fun _ => true)).map (fun x => match x with | .int i => V.int (if i < 0 then -i else i) | v => v) = iv (ls.map fun i => ((i.natAbs : Nat) : Int)) := by
      rw [List.filter_eq_self.mpr (fun _ _ => rfl)]
      unfold iv
      rw [List.map_map, List.map_map]
      refine List.map_congr_left fun i _ => ?_
      show V.int (if i < 0 then -i else i) = V.int ((i.natAbs : Nat) : Int)
      congr 1
      split <;> omega
    rw [eab] at hD2
    refine ⟨D, _, rfl, SqL.of hD2, by rw [List.length_map]; omega, fun S L hS ndL memL => ?_⟩
    have lL : L.length ≤ 26 := by
      have nd2 : (L.map Int.toNat).Nodup := by
        refine List.pairwise_map.mpr (ndL.imp_of_mem fun {x y} hx hy ne e => ne ?_)
        obtain ⟨z1, _, rfl⟩ := List.mem_map.mp ((memL x).mp hx)
        obtain ⟨z2, _, rfl⟩ := List.mem_map.mp ((memL y).mp hy)
        rw [Int.toNat_natCast, Int.toNat_natCast] at e
        rw [e]
      have := L2.nat_nodup_len (L.map Int.toNat) ((List.range 26).map (· + 1)) nd2 fun x hx => by
        obtain ⟨y, hy, rfl⟩ := List.mem_map.mp hx
        obtain ⟨z, hz, rfl⟩ := List.mem_map.mp ((memL y).mp hy)
        have := lt z hz
        rw [Int.toNat_natCast]
        exact List.mem_map.mpr ⟨z.natAbs - 1, List.mem_range.mpr (by omega), by omega⟩
      rw [List.length_map, List.length_map, List.length_range] at this
      exact this
    have s3 := s2.trans (same_upd (o := SetO w S (fun j => decide (j ∈ ls.map fun i => ((i.natAbs : Nat) : Int))) L.length) hS)
    refine ⟨S, _, L.length, rfl, upd_same, by omega, fun ks p3 hlt hmem hlen hp3 => ?_⟩
    have s4 := s3.trans (same_upd (o := .lst (iv ks)) hp3)
    have hks : ∀ z, z ∈ ks ↔ z ∈ ls.map fun i => ((i.natAbs : Nat) : Int) := fun z => by
      rw [hmem]
      exact decide_eq_true_iff
    have ndk : ks.Nodup := hlt.imp fun h => Int.ne_of_lt h
    have gk3 : L2.upd (L2.upd H2 S (SetO w S (fun j => decide (j ∈ ls.map fun i => ((i.natAbs : Nat) : Int))) L.length)) p3 (.lst (iv ks)) p3 = some (.lst (iv ks)) := upd_same
    have hp3f : p3 ≠ fo := fun e => by
      have h3 := s3 _ _ gfo
      rw [← e] at h3
      cases (h3.symm.trans hp3)
    have D4 := D1.same s4
    have hp4 := s4 _ _ hp1
    have gf4 := s4 _ _ gfo
    refine ⟨p3, rfl, ⟨_, SqL.of gk3⟩, for_list (K := K) (a := p3) (xs := iv ks) (fun i σ H' => ∃ (v3 v4 v5 v6 v7 : Option V) (fd : List Int) (us : List Nat), σ = [some (.ref a), some (.ref p), some (.ref fo), v3, v4, v5, v6, v7, none, none] ∧ Drew a c (n + us.length) H H' ∧ H' p = some (.lst (iv ls)) ∧ H' p3 = some (.lst (iv ks)) ∧ H' fo = some (.lst (iv fd)) ∧
        fd.length = ls.length ∧ Half ls fd (fun z => z ∈ ks.take i) ∧ us.Nodup ∧ (∀ x ∈ us, x < ls.length ∧ ∃ k ∈ ks.take i, ls.getD x 0 = -k))
      ⟨none, none, none, none, none, _, [], rfl, D4, hp4, gk3, gf4, List.length_replicate, (fun _ _ h => nomatch h), List.nodup_nil, fun _ h => nomatch h⟩ (fun i σ H' _ ⟨_, _, _, _, _, _, _, _, _, _, h, _⟩ => SqL.of h) ?_ ?_⟩
    · rintro i x σ H5 hi ⟨v3, v4, v5, v6, v7, fd, us, rfl, D5, hp5, gk5, gf5, lfd, half, ndu, hus⟩
      obtain ⟨kk, hk, rfl⟩ : ∃ z, ks[i]? = some z ∧ x = V.int z := by
        rw [List.getElem?_map] at hi
        cases e : ks[i]? with
        | none => rw [e] at hi; cases hi
        | some z => rw [e] at hi; exact ⟨z, rfl, (Option.some.inj hi).symm⟩
      have hik : i < ks.length := (List.getElem?_eq_some_iff.mp hk).1
      have ekt : ks.take (i + 1) = ks.take i ++ [kk] := by
        rw [List.take_succ_eq_append_getElem hik, (List.getElem?_eq_some_iff.mp hk).2]
      have k0 : 0 < kk := by
        obtain ⟨z, hz, e⟩ := List.mem_map.mp ((hks kk).mp (List.mem_of_getElem? hk))
        have := lt z hz
        omega
      have nkt : kk ∉ ks.take i := fun hm => by
        obtain ⟨j, hj, e⟩ := List.getElem_of_mem hm
        rw [List.length_take] at hj
        rw [List.getElem_take] at e
        have := List.pairwise_iff_getElem.mp ndk j i (by omega) hik (by omega)
        exact this (by rw [e, (List.getElem?_eq_some_iff.mp hk).2])
      have ndu2 : (us ++ plc ls (-kk)).Nodup := List.nodup_append.mpr ⟨ndu, plc_nodup _ _, fun x hx y hy e => by
        subst e
        obtain ⟨_, k', hk', e1⟩ := hus x hx
        have e2 := (plc_mem.mp hy).2
        have : k' = kk := by omega
        exact nkt (this ▸ hk')⟩
      have hus2 : ∀ x ∈ us ++ plc ls (-kk), x < ls.length ∧ ∃ k ∈ ks.take (i + 1), ls.getD x 0 = -k := fun x hx => by
        rcases List.mem_append.mp hx with hx | hx
        · obtain ⟨h1, k', hk', e⟩ := hus x hx
          exact ⟨h1, k', by rw [ekt]; exact List.mem_append_left _ hk', e⟩
        · exact ⟨(plc_mem.mp hx).1, kk, by rw [ekt]; exact List.mem_append_right _ List.mem_cons_self, (plc_mem.mp hx).2⟩
      have lus : (us ++ plc ls (-kk)).length ≤ 60 := by
        refine Nat.le_trans (L2.nat_nodup_len _ (List.range ls.length) ndu2 fun x hx => List.mem_range.mpr (hus2 x hx).1) ?_
        rw [List.length_range]
        exact l60
      rw [List.length_append] at lus
      have leq : (plc ls (-kk)).length = (plc ls kk).length := by
        rw [plc_len, plc_len]
        have := bal kk
        omega
      have enm : ∀ (k : Int) (H2 : Hp) (T0 : Addr) (j : Nat) (x : V), (iv ls)[j]? = some x → H2 T0 = none → j < ls.length ∧ x = V.int (ls.getD j 0) := fun k H2 T0 j x hx _ => by
        have hj : j < ls.length := by
          have := (List.getElem?_eq_some_iff.mp hx).1
          rwa [List.length_map] at this
        rw [List.getElem?_map, List.getElem?_eq_getElem hj] at hx
        exact ⟨hj, by rw [getD_lt hj]; exact (Option.some.inj hx).symm⟩
      have efl : ∀ k : Int, ((List.range (iv ls).length).filter fun j => decide (ls.getD j 0 = k)).map (fun (j : Nat) => V.int (j : Int)) = iv (nats (plc ls k)) := fun k => by
        rw [List.length_map]
        unfold iv nats plc
        rw [List.map_map]
        rfl
      refine at_set ?_
      try dsimp only
      refine sq_lcS ?_
      refine ⟨_, rfl, p, _, rfl, SqL.of hp5, ?_⟩
      refine lcE (walk_enum (K := K) (a := p) (xs := iv ls)) (fun j => decide (ls.getD j 0 = kk)) (fun (j : Nat) => V.int (j : Int)) (by rw [List.length_map]; omega) (fun H' s => SqL.of (s _ _ hp5)) ?_ ?_
      · intro j x hx H2 s2 T0 hT Qy Qn ky kn
        obtain ⟨hj, rfl⟩ := enm kk H2 T0 j x hx hT
        have sT := same_upd (o := .tup [.int (j : Nat), .int (ls.getD j 0)]) hT
        refine ⟨T0, _, rfl, SqT.of upd_same, rfl, _, _, rfl, _, _, rfl, rfl, rfl, _, rfl, _, rfl, rfl, _, rfl, ?_⟩
        refine ite2 (fun hb => ?_) (fun hb => ?_)
        · exact ⟨_, rfl, ky (decide_eq_true (by have := of_decide_eq_true hb; injection this)) _ sT⟩
        · exact kn (decide_eq_false fun e => hb (decide_eq_true (by rw [e]))) _ sT
      intro fw H6 hfw s6 gfw
      rw [efl] at gfw
      have D6 := D5.same s6
      have hp6 := s6 _ _ hp5
      have gk6 := s6 _ _ gk5
      have gf6 := s6 _ _ gf5
      have hfwf : fw ≠ fo := fun e => by rw [e, gf5] at hfw; cases hfw
      have hfwa : fw ≠ a := D5.1.ne hfw
      refine at_set ?_
      try dsimp only
      refine asg_cal_lc ?_
      refine ⟨_, rfl, _, rfl, p, _, rfl, SqL.of hp6, ?_⟩
      refine lcE (walk_enum (K := K) (a := p) (xs := iv ls)) (fun j => decide (ls.getD j 0 = -kk)) (fun (j : Nat) => V.int (j : Int)) (by rw [List.length_map]; omega) (fun H' s => SqL.of (s _ _ hp6)) ?_ ?_
      · intro j x hx H2 s2 T0 hT Qy Qn ky kn
        obtain ⟨hj, rfl⟩ := enm kk H2 T0 j x hx hT
        have sT := same_upd (o := .tup [.int (j : Nat), .int (ls.getD j 0)]) hT
        refine ⟨T0, _, rfl, SqT.of upd_same, rfl, _, _, rfl, _, _, rfl, rfl, rfl, _, rfl, _, rfl, kk, rfl, rfl, _, rfl, ?_⟩
        refine ite2 (fun hb => ?_) (fun hb => ?_)
        · exact ⟨_, rfl, ky (decide_eq_true (by have := of_decide_eq_true hb; injection this)) _ sT⟩
        · exact kn (decide_eq_false fun e => hb (decide_eq_true (by rw [e]))) _ sT
      intro bq H7 hbq s7 gbq
      rw [efl] at gbq
      have D7 := D6.same s7
      have lbq : (iv (nats (plc ls (-kk)))).length = (plc ls (-kk)).length := by unfold iv nats; rw [List.length_map, List.length_map]
      refine ⟨a, c, bq, _, n + us.length, rfl, D7.1, gbq, by rw [lbq]; omega, by omega, fun bw H8 ys hbw D8 g8 pm => ?_⟩
      obtain ⟨ms0, pm0, rfl⟩ := perm_map pm _ rfl
      obtain ⟨ms, pm1, rfl⟩ := perm_map pm0 _ rfl
      rw [lbq] at D8
      have D8' := D7.trans D8
      have hpq := D8.2 _ _ hpa (s7 _ _ hp6)
      have hp3a : p3 ≠ a := fun e => by
        obtain ⟨_, _, _, h, _⟩ := D5.1
        rw [← e, gk5] at h
        cases ks with
        | nil => cases h
        | cons k r => cases h
      have gk8 := D8.2 _ _ hp3a (s7 _ _ gk6)
      have gf8 := D8.2 _ _ hfa (s7 _ _ gf6)
      have gfw8 := D8.2 _ _ hfwa (s7 _ _ gfw)
      have hbwf : bw ≠ fo := fun e => by rw [e, s7 _ _ gf6] at hbw; cases hbw
      have lms := pm1.length_eq
      have eiv : ∀ zs : List Nat, (iv (nats zs)).length = zs.length := fun zs => by unfold iv nats; rw [List.length_map, List.length_map]
      refine at_set ?_
      refine ⟨_, rfl, _, rfl, fw, bw, _, _, rfl, SqL.of gfw8, SqL.of g8, ?_⟩
      refine RZ.for_zipL (K := K) (a := fw) (b := bw) (xs := iv (nats (plc ls kk))) (ys := iv (nats ms)) (by rw [eiv, eiv]; omega) (fun j σ H' => ∃ (v6 v7 : Option V) (fd' : List Int), σ = [some (.ref a), some (.ref p), some (.ref fo), some (.int kk), some (.ref fw), some (.ref bw), v6, v7, none, none] ∧ Drew a c (n + us.length + (plc ls (-kk)).length) H H' ∧ H' p = some (.lst (iv ls)) ∧ H' p3 = some (.lst (iv ks)) ∧ H' fo = some (.lst (iv fd')) ∧
          H' fw = some (.lst (iv (nats (plc ls kk)))) ∧ H' bw = some (.lst (iv (nats ms))) ∧ Prs ls fd fd' (plc ls kk) ms j)
        ⟨_, _, fd, rfl, D8', hpq, gk8, gf8, gfw8, g8, lfd, (fun _ _ _ => rfl), fun t ht => absurd ht (Nat.not_lt_zero _)⟩ (fun j σ H' ⟨_, _, _, _, _, _, _, _, h1, h2, _⟩ => ⟨SqL.of h1, SqL.of h2⟩) ?_ ?_
      · rintro j x y T σ H9 hx hy ⟨v6, v7, fd', rfl, D9, hp9, gk9, gf9, gw9, gb9, prs⟩ hT
        have get : ∀ (zs : List Nat) (v : V), (iv (nats zs))[j]? = some v → ∃ z : Nat, zs[j]? = some z ∧ v = V.int ((z : Nat) : Int) := fun zs v h => by
          unfold iv nats at h
          rw [List.getElem?_map, List.getElem?_map] at h
          cases e : zs[j]? with
          | none => rw [e] at h; cases h
          | some z => rw [e] at h; exact ⟨z, rfl, (Option.some.inj h).symm⟩
        obtain ⟨xn, hxn, rfl⟩ := get _ _ hx
        obtain ⟨yn, hyn, rfl⟩ := get _ _ hy
        have lx := (plc_mem.mp (List.mem_of_getElem? hxn)).1
        have ly := (plc_mem.mp (pm1.mem_iff.mp (List.mem_of_getElem? hyn))).1
        have sT := same_upd (o := .tup [.int (xn : Int), .int (yn : Int)]) hT
        have gf10 := sT _ _ gf9
        have hp10 := sT _ _ hp9
        have gk10 := sT _ _ gk9
        have gw10 := sT _ _ gw9
        have gb10 := sT _ _ gb9
        have D10 := D9.same sT
        have gT : L2.upd H9 T (.tup [.int (xn : Int), .int (yn : Int)]) T = some (.tup [.int (xn : Int), .int (yn : Int)]) := upd_same
        generalize L2.upd H9 T (.tup [.int (xn : Int), .int (yn : Int)]) = HA at gf10 hp10 gk10 gw10 gb10 D10 gT ⊢
        refine ⟨T, _, rfl, SqT.of gT, rfl, _, _, rfl, _, _, rfl, rfl, ?_⟩
        refine ⟨_, rfl, _, rfl, by show 2 ≤ sizeLine; decide, fun t ht => ?_⟩
        have st := same_upd (o := .tup [.int (yn : Int), .int (xn : Int)]) ht
        have gf11 := st _ _ gf10
        have hp11 := st _ _ hp10
        have gk11 := st _ _ gk10
        have gw11 := st _ _ gw10
        have gb11 := st _ _ gb10
        have D11 := D10.same st
        have gt : L2.upd HA t (.tup [.int (yn : Int), .int (xn : Int)]) t = some (.tup [.int (yn : Int), .int (xn : Int)]) := upd_same
        generalize L2.upd HA t (.tup [.int (yn : Int), .int (xn : Int)]) = HB at gf11 hp11 gk11 gw11 gb11 D11 gt ⊢
        have lf' : (iv fd').length = ls.length := by rw [List.length_map]; exact prs.len
        refine ⟨t, _, rfl, SqT.of gt, rfl, _, _, rfl, _, rfl, _, rfl, fo, _, _, xn, rfl, rfl, gf11, Evl.ixN_nat (by omega), _, _, rfl, _, rfl, _, rfl, fo, _, _, yn, rfl, rfl, upd_same, Evl.ixN_nat (by rw [List.length_set]; omega), rfl, ?_⟩
        have two : ∀ b o, b ≠ fo → HB b = some o → L2.upd (L2.upd HB fo (.lst ((iv fd').set xn (.int (yn : Int))))) fo (.lst (((iv fd').set xn (.int (yn : Int))).set yn (.int (xn : Int)))) b = some o := fun b o nb e => by rw [upd_ne nb, upd_ne nb]; exact e
        refine ⟨_, _, (fd'.set xn ((yn : Nat) : Int)).set yn ((xn : Nat) : Int), rfl, (D11.put fo0 hfa hfc).put fo0 hfa hfc, two _ _ hpf hp11, two _ _ hp3f gk11, ?_, two _ _ hfwf gw11, two _ _ hbwf gb11, ?_⟩
        · rw [upd_same]
          simp [iv]
        · exact prs.step (plc_nodup _ _) (pm1.nodup_iff.mpr (plc_nodup _ _)) (fun x hx hm => by
            have e1 := (plc_mem.mp hx).2
            have e2 := (plc_mem.mp (pm1.mem_iff.mp hm)).2
            omega) hxn hyn lx ly
      · rintro σ H9 ⟨v6, v7, fd', rfl, D9, hp9, gk9, gf9, gw9, gb9, prs⟩
        rw [eiv] at prs
        refine ⟨_, _, _, _, _, fd', us ++ plc ls (-kk), rfl, by rw [List.length_append, ← Nat.add_assoc]; exact D9, hp9, gk9, gf9, prs.len, ?_, ndu2, hus2⟩
        have hf := prs.half k0 pm1 (by omega) half
        intro q hq hS
        refine hf q hq ?_
        rw [ekt] at hS
        rcases List.mem_append.mp hS with h | h
        · exact .inl h
        · exact .inr (List.mem_singleton.mp h)
    · rintro σ H5 ⟨v3, v4, v5, v6, v7, fd, us, rfl, D5, hp5, gk5, gf5, lfd, half, ndu, hus⟩
      rw [List.length_map, List.take_length] at half
      have lus : us.length ≤ 60 := by
        refine Nat.le_trans (L2.nat_nodup_len _ (List.range ls.length) ndu fun x hx => List.mem_range.mpr (hus x hx).1) ?_
        rw [List.length_range]
        exact l60
      refine ⟨_, rfl, k fo H5 fd fo0 (D5.mono (by omega)) gf5 (half_ok lfd lt half fun z hz => (hks _).mpr (List.mem_map.mpr ⟨z, hz, rfl⟩))⟩
end
end W17
set_option Elab.async false
set_option linter.all false
set_option maxRecDepth 100000
set_option maxHeartbeats 600000
/-! Rounds do not depend on how places are called; a place that stands alone and one passed over, taken out. -/
namespace Cy
theorem it_inj {n : Nat} {f : Nat → Nat} (h : Bij n f) : ∀ (k x y : Nat), x < n → y < n → it f k x = it f k y → x = y
  | 0, x, y, _, _, e => e
  | k + 1, x, y, hx, hy, e => h.inj x y hx hy (it_inj h k (f x) (f y) (h.lt x hx) (h.lt y hy) e)
/-- each place is come back to -/
theorem round {n : Nat} {f : Nat → Nat} (h : Bij n f) {x : Nat} (hx : x < n) : ∃ d, it f (d + 1) x = x := by
  by_cases em : ∃ i j, i < j ∧ it f i x = it f j x
  · obtain ⟨i, j, lt, e⟩ := em
    refine ⟨j - i - 1, ?_⟩
    have e1 : it f j x = it f i (it f (j - i - 1 + 1) x) := by
      rw [← it_add]
      congr 1
      omega
    exact (it_inj h i _ _ (it_lt h.lt _ _ hx) hx (by rw [← e1, ← e]))
  · have nd : ((List.range (n + 1)).map fun k => it f k x).Nodup := List.pairwise_map.mpr (List.pairwise_lt_range.imp fun {a b} lt e => em ⟨a, b, lt, e⟩)
    have := L2.nat_nodup_len _ (List.range n) nd fun y hy => by
      obtain ⟨k, _, rfl⟩ := List.mem_map.mp hy
      exact List.mem_range.mpr (it_lt h.lt k x hx)
    rw [List.length_map, List.length_range, List.length_range] at this
    omega
theorem Rch.back {n : Nat} {f : Nat → Nat} (h : Bij n f) : ∀ (k x y : Nat), x < n → it f k x = y → Rch f y x
  | 0, x, y, _, e => ⟨0, e.symm⟩
  | k + 1, x, y, hx, e => by
    refine Rch.trans (Rch.back h k (f x) y (h.lt x hx) e) ?_
    obtain ⟨d, hd⟩ := round h hx
    exact ⟨d, hd⟩
theorem Rch.symm {n : Nat} {f : Nat → Nat} (h : Bij n f) {x y : Nat} (hx : x < n) (r : Rch f x y) : Rch f y x := by
  obtain ⟨k, e⟩ := r
  exact Rch.back h k x y hx e
/-- one place of each round -/
structure Reps (n : Nat) (f : Nat → Nat) (L : List Nat) : Prop where
  lt : ∀ x ∈ L, x < n
  sep : L.Pairwise fun a b => ¬ Rch f a b
  cov : ∀ y, y < n → ∃ x ∈ L, Rch f x y
open Classical in
theorem reps_le {n : Nat} {f : Nat → Nat} {L M : List Nat} (h : Bij n f) (A : Reps n f L) (B : Reps n f M) : L.length ≤ M.length := by
  let m : Nat → Nat := fun x => if hx : x < n then choose (B.cov x hx) else 0
  have hm : ∀ x, x < n → m x ∈ M ∧ Rch f (m x) x := fun x hx => by
    have e : m x = choose (B.cov x hx) := dif_pos hx
    rw [e]
    exact choose_spec (B.cov x hx)
  have nd : (L.map m).Nodup := List.pairwise_map.mpr (A.sep.imp_of_mem fun {a b} ha hb no e => no (by
    have h1 := hm a (A.lt a ha)
    have h2 := hm b (A.lt b hb)
    refine Rch.trans (Rch.symm h (B.lt _ h1.1) h1.2) ?_
    rw [e]
    exact h2.2))
  have := L2.nat_nodup_len _ M nd fun y hy => by
    obtain ⟨x, hx, rfl⟩ := List.mem_map.mp hy
    exact (hm x (A.lt x hx)).1
  rw [List.length_map] at this
  exact this
open Classical in
noncomputable def news (f : Nat → Nat) (m : Nat) : List Nat := (List.range m).filter fun i => decide (New f i)
open Classical in
theorem news_len (f : Nat → Nat) : ∀ m, (news f m).length = cnt f m
  | 0 => rfl
  | m + 1 => by
    unfold news cnt
    rw [List.range_succ, List.filter_append, List.length_append]
    have ih := news_len f m
    unfold news at ih
    rw [ih]
    congr 1
    by_cases hn : New f m
    · rw [if_pos hn, List.filter_cons_of_pos (by simpa using hn)]
      rfl
    · rw [if_neg hn, List.filter_cons_of_neg (by simpa using hn)]
      rfl
open Classical in
theorem news_reps {n : Nat} {f : Nat → Nat} (h : Bij n f) : Reps n f (news f n) := by
  refine ⟨fun x hx => List.mem_range.mp (List.mem_filter.mp hx).1, ?_, ?_⟩
  · refine (List.pairwise_lt_range (n := n)).filter _ |>.imp_of_mem fun {a b} ha hb lt r => ?_
    have nb := of_decide_eq_true (List.mem_filter.mp hb).2
    exact nb a lt r
  · intro y
    induction y using Nat.strongRecOn with
    | ind y ih =>
      intro hy
      by_cases hn : New f y
      · exact ⟨y, List.mem_filter.mpr ⟨List.mem_range.mpr hy, decide_eq_true hn⟩, Rch.refl f y⟩
      · have : ∃ i', i' < y ∧ Rch f i' y := Classical.byContradiction fun q => hn fun i' lt r => q ⟨i', lt, r⟩
        obtain ⟨i', lt, r⟩ := this
        obtain ⟨x, hx, rx⟩ := ih i' lt (by omega)
        exact ⟨x, hx, rx.trans r⟩
theorem reps_cyc {n : Nat} {f : Nat → Nat} {L : List Nat} (h : Bij n f) (A : Reps n f L) : L.length = cyc n f := by
  rw [← cnt_cyc n f h, ← news_len]
  exact Nat.le_antisymm (reps_le h A (news_reps h)) (reps_le h (news_reps h) A)
/-- the places called otherwise -/
theorem cyc_conj {n : Nat} {f g e : Nat → Nat} (hf : Bij n f) (he : Bij n e) (hg : ∀ i, i < n → g i < n ∧ e (g i) = f (e i)) : cyc n g = cyc n f := by
  have bg : Bij n g := ⟨fun i hi => (hg i hi).1, fun i j hi hj q => by
    have h1 := (hg i hi).2
    rw [q, (hg j hj).2] at h1
    exact (he.inj _ _ hj hi (hf.inj _ _ (he.lt j hj) (he.lt i hi) h1)).symm⟩
  have iter : ∀ (k a : Nat), a < n → it f k (e a) = e (it g k a) := by
    intro k
    induction k with
    | zero => exact fun a _ => rfl
    | succ k ih =>
      intro a ha
      show it f k (f (e a)) = e (it g k (g a))
      rw [← (hg a ha).2, ih (g a) (hg a ha).1]
  have R : Reps n f ((news g n).map e) := by
    have N := news_reps bg
    refine ⟨fun x hx => ?_, List.pairwise_map.mpr (N.sep.imp_of_mem fun {a b} ha hb no r => no (by
      obtain ⟨k, q⟩ := r
      rw [iter k a (N.lt a ha)] at q
      exact ⟨k, he.inj _ _ (it_lt bg.lt k a (N.lt a ha)) (N.lt b hb) q⟩)), fun y hy => ?_⟩
    · obtain ⟨a, ha, rfl⟩ := List.mem_map.mp hx
      exact he.lt a (N.lt a ha)
    · obtain ⟨x, hx, rfl⟩ := he.hit hy
      obtain ⟨a, ha, k, q⟩ := N.cov x hx
      exact ⟨e a, List.mem_map.mpr ⟨a, ha, rfl⟩, k, by rw [iter k a (N.lt a ha), q]⟩
  have h1 := reps_cyc hf R
  rw [List.length_map] at h1
  rw [← h1, reps_cyc bg (news_reps bg)]
/-- of n + 2 places the one at e (n + 1) stands alone, the one at e n is passed over: f2 is what is left -/
theorem cyc_cut {n : Nat} {f f2 e : Nat → Nat} (hf : Bij (n + 2) f) (he : Bij (n + 2) e) (fix : f (e (n + 1)) = e (n + 1)) (nfx : f (e n) ≠ e n) (h2 : ∀ i, i < n → f2 i < n ∧ e (f2 i) = if f (e i) = e n then f (e n) else f (e i)) : cyc (n + 2) f = cyc n f2 + 1 := by
  have hit : ∀ i, i < n + 2 → ∃ j, j < n + 2 ∧ e j = f (e i) := fun i hi => he.hit (hf.lt _ (he.lt i hi))
  have gx : ∃ g : Nat → Nat, ∀ i, i < n + 2 → g i < n + 2 ∧ e (g i) = f (e i) :=
    ⟨fun i => if h : i < n + 2 then Classical.choose (hit i h) else 0, fun i hi => by
      have : (if h : i < n + 2 then Classical.choose (hit i h) else 0) = Classical.choose (hit i hi) := dif_pos hi
      show (if h : i < n + 2 then Classical.choose (hit i h) else 0) < n + 2 ∧ e (if h : i < n + 2 then Classical.choose (hit i h) else 0) = f (e i)
      rw [this]
      exact Classical.choose_spec (hit i hi)⟩
  obtain ⟨g, hg⟩ := gx
  rw [← cyc_conj hf he hg]
  have bg : Bij (n + 2) g := ⟨fun i hi => (hg i hi).1, fun i j hi hj q => by
    have h1 := (hg i hi).2
    rw [q, (hg j hj).2] at h1
    exact (he.inj _ _ hj hi (hf.inj _ _ (he.lt j hj) (he.lt i hi) h1)).symm⟩
  have g1 : g (n + 1) = n + 1 := he.inj _ _ (hg _ (by omega)).1 (by omega) (by rw [(hg _ (by omega)).2, fix])
  have gn : g n ≠ n := fun q => nfx (by
    have := (hg n (by omega)).2
    rw [q] at this
    exact this.symm)
  have ne1 : ∀ i, i < n + 1 → g i ≠ n + 1 := fun i hi q => by
    have := bg.inj i (n + 1) (by omega) (by omega) (q.trans g1.symm)
    omega
  have b1 : ∀ i, i < n + 1 → byp (n + 1) g i = g i := fun i hi => if_neg (ne1 i hi)
  show (if g (n + 1) = n + 1 then 1 else 0) + ((if byp (n + 1) g n = n then 1 else 0) + cyc n (byp n (byp (n + 1) g))) = _
  rw [if_pos g1, b1 n (by omega), if_neg gn, Nat.zero_add, Nat.add_comm]
  congr 1
  refine cyc_congr n _ _ (fun i hi => ?_) bg.byp.byp
  unfold byp
  have e0 : (if g i = n + 1 then g (n + 1) else g i) = g i := if_neg (ne1 i (by omega))
  have en : (if g n = n + 1 then g (n + 1) else g n) = g n := if_neg (ne1 n (by omega))
  rw [e0, en]
  have q := (h2 i hi).2
  rw [← (hg i (by omega)).2, ← (hg n (by omega)).2] at q
  by_cases c : g i = n
  · rw [if_pos c]
    rw [if_pos (by rw [c])] at q
    exact (he.inj _ _ (by have := (h2 i hi).1; omega) (hg n (by omega)).1 q).symm
  · rw [if_neg c]
    rw [if_neg fun z => c (he.inj _ _ (hg i (by omega)).1 (by omega) z)] at q
    exact (he.inj _ _ (by have := (h2 i hi).1; omega) (hg i (by omega)).1 q).symm
end Cy
set_option Elab.async false
set_option linter.all false
set_option maxRecDepth 100000
set_option maxHeartbeats 600000
/-! A place freed from its round; two places put in. -/
namespace Cy
theorem swp_bij {n q m : Nat} (hq : q < n) (hm : m < n) : Bij n (swp q m) := ⟨fun i hi => swp_lt hq hm hi, fun i j _ _ e => by rw [← swp_swp q m i, e, swp_swp]⟩
/-- a leads to q: exchanged, q stands alone -/
theorem cyc_free {n : Nat} {f : Nat → Nat} {a q : Nat} (h : Bij n f) (ha : a < n) (hq : q < n) (e : f a = q) (nq : f q ≠ q) : cyc n (fun x => f (swp a q x)) = cyc n f + 1 := by
  obtain ⟨m, rfl⟩ : ∃ m, n = m + 1 := ⟨n - 1, by omega⟩
  have hm : m < m + 1 := by omega
  have naq : a ≠ q := fun z => nq (by rw [z] at e; exact e)
  have bs := swp_bij hq hm
  have bG := h.swp ha hq
  have c1 := cyc_conj h bs (g := fun x => swp q m (f (swp q m x))) fun i hi => ⟨swp_lt hq hm (h.lt _ (swp_lt hq hm hi)), swp_swp _ _ _⟩
  have c2 := cyc_conj bG bs (g := fun x => swp q m (f (swp a q (swp q m x)))) fun i hi => ⟨swp_lt hq hm (bG.lt _ (swp_lt hq hm hi)), swp_swp _ _ _⟩
  rw [← c1, ← c2]
  have Fm : swp q m (f (swp q m m)) ≠ m := fun z => by
    rw [swp_r] at z
    have : f q = q := by rw [← swp_swp q m (f q), z, swp_r]
    exact nq this
  have Gm : swp q m (f (swp a q (swp q m m))) = m := by rw [swp_r, swp_r, e, swp_l]
  have gb : Bij (m + 1) fun x => swp q m (f (swp a q (swp q m x))) := ⟨fun i hi => swp_lt hq hm (bG.lt _ (swp_lt hq hm hi)), fun i j hi hj z => by
    have z1 := bs.inj _ _ (bG.lt _ (swp_lt hq hm hi)) (bG.lt _ (swp_lt hq hm hj)) z
    exact bs.inj _ _ hi hj (bG.inj _ _ (swp_lt hq hm hi) (swp_lt hq hm hj) z1)⟩
  show (if swp q m (f (swp a q (swp q m m))) = m then 1 else 0) + cyc m (byp m fun x => swp q m (f (swp a q (swp q m x)))) = (if swp q m (f (swp q m m)) = m then 1 else 0) + cyc m (byp m fun x => swp q m (f (swp q m x))) + 1
  rw [if_pos Gm, if_neg Fm, Nat.zero_add, Nat.add_comm]
  congr 1
  refine cyc_congr m _ _ (fun x hx => ?_) gb.byp
  have yq : swp q m x ≠ q := fun z => by
    have : x = m := by rw [← swp_swp q m x, z, swp_l]
    omega
  have Gx : swp q m (f (swp a q (swp q m x))) ≠ m := fun z => by
    have := gb.inj x m (by omega) hm (z.trans Gm.symm)
    omega
  show (if swp q m (f (swp a q (swp q m x))) = m then _ else swp q m (f (swp a q (swp q m x)))) = if swp q m (f (swp q m x)) = m then swp q m (f (swp q m m)) else swp q m (f (swp q m x))
  rw [if_neg Gx]
  by_cases ya : swp q m x = a
  · rw [ya, swp_l a q, e, swp_l q m, if_pos rfl, swp_r]
  · rw [swp_o ya yq, if_neg]
    intro z
    have : f (swp q m x) = q := by rw [← swp_swp q m (f (swp q m x)), z, swp_r]
    exact ya (h.inj _ _ (swp_lt hq hm (by omega)) ha (this.trans e.symm))
/-- two places put in, ahead of t; e: where the others stand then -/
structure Ins (n : Nat) (nx nx2 e : Nat → Nat) (p q t : Nat) : Prop where
  he : Bij (n + 2) e
  en : e n = p
  en1 : e (n + 1) = q
  ht : t < n
  pq : nx2 p = q
  qt : nx2 q = e t
  step : ∀ j, j < n → nx2 (e j) = if nx j = t then p else e (nx j)
  lt : ∀ j, j < n → nx j < n
/-- p and q mates: one round more, q alone -/
theorem ins_cyc {n : Nat} {nx nx2 e mt mt2 : Nat → Nat} {p q t : Nat} (I : Ins n nx nx2 e p q t) (b2 : Bij (n + 2) fun x => nx2 (mt2 x)) (hp : mt2 p = q) (hq : mt2 q = p) (hm : ∀ i, i < n → mt i < n ∧ mt2 (e i) = e (mt i)) : cyc (n + 2) (fun x => nx2 (mt2 x)) = cyc n (fun x => nx (mt x)) + 1 := by
  have ne : e t ≠ p := fun z => by
    have := I.he.inj t n (by have := I.ht; omega) (by omega) (z.trans I.en.symm)
    have := I.ht
    omega
  refine cyc_cut b2 I.he ?_ ?_ fun i hi => ⟨I.lt _ (hm i hi).1, ?_⟩
  · rw [I.en1, hq, I.pq]
  · rw [I.en, hp, I.qt]
    exact ne
  · show e (nx (mt i)) = if nx2 (mt2 (e i)) = e n then nx2 (mt2 (e n)) else nx2 (mt2 (e i))
    rw [(hm i hi).2, I.step _ (hm i hi).1, I.en, hp, I.qt]
    by_cases c : nx (mt i) = t
    · rw [if_pos c, if_pos rfl, c]
    · rw [if_neg c, if_neg]
      intro z
      have := I.he.inj (nx (mt i)) n (by have := I.lt _ (hm i hi).1; omega) (by omega) (z.trans I.en.symm)
      have := I.lt _ (hm i hi).1
      omega
end Cy
set_option Elab.async false
set_option linter.all false
set_option maxRecDepth 100000
set_option maxHeartbeats 1000000
namespace W17
open PySem L2 PySem.Spec PyProof.Rows WR WB WE
/-! ### nexts of words in which two letters are put -/
def nxN (ws : List (List Int)) (j : Nat) : Nat := ((nxF 0 ws).getD j 0).toNat
theorem nxF_up : ∀ (ws : List (List Int)) (f d : Nat), nxF (f + d) ws = (nxF f ws).map fun z => z + (d : Int)
  | [], _, _ => rfl
  | w :: r, f, d => by
    unfold nxF
    rw [List.map_append, List.map_map]
    congr 1
    · refine List.map_congr_left fun t _ => ?_
      show ((f + d : Nat) : Int) + _ = (f : Int) + _ + (d : Int)
      omega
    · rw [show f + d + w.length = f + w.length + d by omega]
      exact nxF_up r _ d
theorem nx_mid (A B : List (List Int)) (w : List Int) (hB : ∀ u ∈ B, u ≠ []) {j : Nat} (hj : j < A.flatten.length + w.length + B.flatten.length) :
    nxN (A ++ [w] ++ B) j = if j < A.flatten.length then nxN A j else if j < A.flatten.length + w.length then (if j + 1 < A.flatten.length + w.length then j + 1 else A.flatten.length) else A.flatten.length + w.length + nxN B (j - A.flatten.length - w.length) := by
  unfold nxN
  rw [nxF_app, nxF_app, Nat.zero_add, Nat.zero_add]
  have la := nxF_len A 0
  have lw : (nxF A.flatten.length [w]).length = w.length := by rw [nxF_len]; simp
  have lA : (A ++ [w]).flatten.length = A.flatten.length + w.length := by rw [List.flatten_append, List.length_append]; simp
  rw [lA]
  by_cases h1 : j < A.flatten.length
  · rw [if_pos h1, List.getD_eq_getElem?_getD, List.getD_eq_getElem?_getD, List.getElem?_append_left (by rw [List.length_append]; omega), List.getElem?_append_left (by omega)]
  · rw [if_neg h1]
    by_cases h2 : j < A.flatten.length + w.length
    · rw [if_pos h2, List.getD_eq_getElem?_getD, List.getElem?_append_left (by rw [List.length_append]; omega), List.getElem?_append_right (by omega), la]
      unfold nxF
      rw [show nxF (A.flatten.length + w.length) [] = [] from rfl, List.append_nil, List.getElem?_map, List.getElem?_range (by omega)]
      show ((A.flatten.length : Int) + (((j - A.flatten.length + 1) % w.length : Nat) : Int)).toNat = _
      by_cases h3 : j + 1 < A.flatten.length + w.length
      · rw [if_pos h3, Nat.mod_eq_of_lt (by omega)]
        omega
      · rw [if_neg h3, show j - A.flatten.length + 1 = w.length by omega, Nat.mod_self]
        omega
    · rw [if_neg h2, List.getD_eq_getElem?_getD, List.getElem?_append_right (by rw [List.length_append]; omega), List.length_append, la, lw]
      have hk : j - (A.flatten.length + w.length) < B.flatten.length := by omega
      have up := nxF_up B 0 (A.flatten.length + w.length)
      rw [Nat.zero_add] at up
      rw [up, List.getElem?_map, List.getD_eq_getElem?_getD, show j - A.flatten.length - w.length = j - (A.flatten.length + w.length) by omega]
      have hl : j - (A.flatten.length + w.length) < (nxF 0 B).length := by rw [nxF_len]; exact hk
      rw [List.getElem?_eq_getElem hl]
      have nn := (nxF_rng B 0 hB _ (List.getElem_mem hl)).1
      show ((nxF 0 B)[j - (A.flatten.length + w.length)]'hl + ((A.flatten.length + w.length : Nat) : Int)).toNat = A.flatten.length + w.length + ((nxF 0 B)[j - (A.flatten.length + w.length)]'hl).toNat
      omega
theorem nxN_lt {ws : List (List Int)} (hne : ∀ w ∈ ws, w ≠ []) {j : Nat} (hj : j < ws.flatten.length) : nxN ws j < ws.flatten.length := by
  unfold nxN
  have hl : j < (nxF 0 ws).length := by rw [nxF_len]; exact hj
  rw [getD_lt hl]
  have := nxF_rng ws 0 hne _ (List.getElem_mem hl)
  omega
/-- where the places stand when two are put in at p -/
def eIn (n p i : Nat) : Nat := if i < p then i else if i < n then i + 2 else if i = n then p else p + 1
theorem eIn_bij {n p : Nat} (hp : p ≤ n) : Cy.Bij (n + 2) (eIn n p) := by
  refine ⟨fun i hi => ?_, fun i j hi hj h => ?_⟩
  · unfold eIn
    split
    · omega
    · split
      · omega
      · split <;> omega
  · unfold eIn at h
    split at h <;> split at h <;> (try split at h) <;> (try split at h) <;> (try split at h) <;> (try split at h) <;> omega
/-- x and y put in behind u -/
theorem ins_mid (A B : List (List Int)) (u v : List Int) (x y : Int) (hA : ∀ w ∈ A, w ≠ []) (hB : ∀ w ∈ B, w ≠ []) (huv : u ++ v ≠ []) :
    Cy.Ins (A ++ [u ++ v] ++ B).flatten.length (nxN (A ++ [u ++ v] ++ B)) (nxN (A ++ [u ++ [x, y] ++ v] ++ B)) (eIn (A ++ [u ++ v] ++ B).flatten.length (A.flatten.length + u.length)) (A.flatten.length + u.length) (A.flatten.length + u.length + 1) (if v = [] then A.flatten.length else A.flatten.length + u.length) := by
  have hl := List.length_pos_iff.mpr huv
  rw [List.length_append] at hl
  have len : (A ++ [u ++ v] ++ B).flatten.length = A.flatten.length + (u.length + v.length) + B.flatten.length := by
    simp only [List.flatten_append, List.length_append, List.flatten_cons, List.flatten_nil, List.append_nil]
  have len2 : (A ++ [u ++ [x, y] ++ v] ++ B).flatten.length = A.flatten.length + (u.length + 2 + v.length) + B.flatten.length := by
    simp only [List.flatten_append, List.length_append, List.flatten_cons, List.flatten_nil, List.append_nil, List.length_cons, List.length_nil]
  have lw : (u ++ v).length = u.length + v.length := List.length_append
  have lw2 : (u ++ [x, y] ++ v).length = u.length + 2 + v.length := by rw [List.length_append, List.length_append]; rfl
  have n1 : ∀ j, j < A.flatten.length + (u.length + v.length) + B.flatten.length → nxN (A ++ [u ++ v] ++ B) j = if j < A.flatten.length then nxN A j else if j < A.flatten.length + (u.length + v.length) then (if j + 1 < A.flatten.length + (u.length + v.length) then j + 1 else A.flatten.length) else A.flatten.length + (u.length + v.length) + nxN B (j - A.flatten.length - (u.length + v.length)) := fun j hj => by
    have := nx_mid A B (u ++ v) hB (j := j) (by rw [lw]; exact hj)
    rw [lw] at this
    exact this
  have n2 : ∀ j, j < A.flatten.length + (u.length + 2 + v.length) + B.flatten.length → nxN (A ++ [u ++ [x, y] ++ v] ++ B) j = if j < A.flatten.length then nxN A j else if j < A.flatten.length + (u.length + 2 + v.length) then (if j + 1 < A.flatten.length + (u.length + 2 + v.length) then j + 1 else A.flatten.length) else A.flatten.length + (u.length + 2 + v.length) + nxN B (j - A.flatten.length - (u.length + 2 + v.length)) := fun j hj => by
    have := nx_mid A B (u ++ [x, y] ++ v) hB (j := j) (by rw [lw2]; exact hj)
    rw [lw2] at this
    exact this
  have vz : v = [] ↔ v.length = 0 := List.length_eq_zero_iff.symm
  have ltA : ∀ j, j < A.flatten.length → nxN A j < A.flatten.length := fun j hj => nxN_lt hA hj
  have ltB : ∀ j, j < B.flatten.length → nxN B j < B.flatten.length := fun j hj => nxN_lt hB hj
  rw [len]
  refine ⟨eIn_bij (by omega), ?_, ?_, ?_, ?_, ?_, fun j hj => ?_, fun j hj => ?_⟩
  · unfold eIn
    rw [if_neg (by omega), if_neg (by omega), if_pos rfl]
  · unfold eIn
    rw [if_neg (by omega), if_neg (by omega), if_neg (by omega)]
  · by_cases hv : v = []
    · rw [if_pos hv]
      omega
    · rw [if_neg hv]
      have : v.length ≠ 0 := fun z => hv (vz.mpr z)
      omega
  · rw [n2 (A.flatten.length + u.length) (by omega), if_neg (by omega), if_pos (by omega), if_pos (by omega)]
  · rw [n2 (A.flatten.length + u.length + 1) (by omega), if_neg (by omega), if_pos (by omega)]
    unfold eIn
    by_cases hv : v = []
    · rw [if_pos hv]
      have := vz.mp hv
      rw [if_neg (by omega), if_pos (by omega)]
    · rw [if_neg hv]
      have : v.length ≠ 0 := fun z => hv (vz.mpr z)
      rw [if_pos (by omega), if_neg (by omega), if_pos (by omega)]
  · obtain ⟨t, et, tc⟩ : ∃ t, (if v = [] then A.flatten.length else A.flatten.length + u.length) = t ∧ ((v.length = 0 ∧ t = A.flatten.length) ∨ (v.length ≠ 0 ∧ t = A.flatten.length + u.length)) := by
      by_cases hv : v = []
      · exact ⟨_, if_pos hv, .inl ⟨vz.mp hv, rfl⟩⟩
      · exact ⟨_, if_neg hv, .inr ⟨fun z => hv (vz.mpr z), rfl⟩⟩
    rw [et, n1 j (by omega)]
    have la := ltA j
    have lb := ltB (j - A.flatten.length - (u.length + v.length))
    by_cases h2 : j < A.flatten.length + u.length
    · have e0 : eIn (A.flatten.length + (u.length + v.length) + B.flatten.length) (A.flatten.length + u.length) j = j := by
        unfold eIn
        rw [if_pos h2]
      rw [e0, n2 j (by omega)]
      unfold eIn
      generalize nxN A j = na at *
      generalize nxN B (j - A.flatten.length - (u.length + v.length)) = nb at *
      generalize nxN B (j - A.flatten.length - (u.length + 2 + v.length)) = nb2 at *
      generalize A.flatten.length = a at *
      generalize B.flatten.length = b at *
      generalize u.length = c at *
      generalize v.length = d at *
      clear n1 n2 ltA ltB len len2 lw lw2 et e0 vz hA hB huv
      repeat' (first | omega | split)
    · have e0 : eIn (A.flatten.length + (u.length + v.length) + B.flatten.length) (A.flatten.length + u.length) j = j + 2 := by
        unfold eIn
        rw [if_neg h2, if_pos hj]
      have e1 : j + 2 - A.flatten.length - (u.length + 2 + v.length) = j - A.flatten.length - (u.length + v.length) := by omega
      rw [e0, n2 (j + 2) (by omega), e1]
      unfold eIn
      generalize nxN A j = na at *
      generalize nxN A (j + 2) = na2 at *
      generalize nxN B (j - A.flatten.length - (u.length + v.length)) = nb at *
      generalize A.flatten.length = a at *
      generalize B.flatten.length = b at *
      generalize u.length = c at *
      generalize v.length = d at *
      clear n1 n2 ltA ltB len len2 lw lw2 et e0 e1 vz hA hB huv
      repeat' (first | omega | split)
  · rw [n1 j (by omega)]
    split
    · have := ltA j (by omega)
      omega
    · split
      · split <;> omega
      · have := ltB (j - A.flatten.length - (u.length + v.length)) (by omega)
        omega
/-- where the places stand when the first and the last of a word of length m behind a are put in -/
def eWr (n a m i : Nat) : Nat := if i < a then i else if i < a + m then i + 1 else if i < n then i + 2 else if i = n then a + m + 1 else a
theorem eWr_bij {n a m : Nat} (h : a + m ≤ n) : Cy.Bij (n + 2) (eWr n a m) := by
  refine ⟨fun i hi => ?_, fun i j hi hj h => ?_⟩
  · unfold eWr
    repeat' (first | omega | split)
  · unfold eWr at h
    split at h <;> split at h <;> (try split at h) <;> (try split at h) <;> (try split at h) <;> (try split at h) <;> (try split at h) <;> (try split at h) <;> omega
/-- y put in ahead of a word, x behind it -/
theorem ins_wrap (A B : List (List Int)) (u : List Int) (x y : Int) (hA : ∀ w ∈ A, w ≠ []) (hB : ∀ w ∈ B, w ≠ []) (hu : u ≠ []) :
    Cy.Ins (A ++ [u] ++ B).flatten.length (nxN (A ++ [u] ++ B)) (nxN (A ++ [[y] ++ u ++ [x]] ++ B)) (eWr (A ++ [u] ++ B).flatten.length A.flatten.length u.length) (A.flatten.length + u.length + 1) A.flatten.length A.flatten.length := by
  have hl := List.length_pos_iff.mpr hu
  have len : (A ++ [u] ++ B).flatten.length = A.flatten.length + u.length + B.flatten.length := by
    simp only [List.flatten_append, List.length_append, List.flatten_cons, List.flatten_nil, List.append_nil]
  have n1 : ∀ j, j < A.flatten.length + u.length + B.flatten.length → nxN (A ++ [u] ++ B) j = if j < A.flatten.length then nxN A j else if j < A.flatten.length + u.length then (if j + 1 < A.flatten.length + u.length then j + 1 else A.flatten.length) else A.flatten.length + u.length + nxN B (j - A.flatten.length - u.length) := fun j hj => nx_mid A B u hB hj
  have lw2 : ([y] ++ u ++ [x]).length = u.length + 2 := by
    rw [List.length_append, List.length_append]
    simp only [List.length_cons, List.length_nil]
    omega
  have n2 : ∀ j, j < A.flatten.length + (u.length + 2) + B.flatten.length → nxN (A ++ [[y] ++ u ++ [x]] ++ B) j = if j < A.flatten.length then nxN A j else if j < A.flatten.length + (u.length + 2) then (if j + 1 < A.flatten.length + (u.length + 2) then j + 1 else A.flatten.length) else A.flatten.length + (u.length + 2) + nxN B (j - A.flatten.length - (u.length + 2)) := fun j hj => by
    have := nx_mid A B ([y] ++ u ++ [x]) hB (j := j) (by rw [lw2]; exact hj)
    rw [lw2] at this
    exact this
  have ltA : ∀ j, j < A.flatten.length → nxN A j < A.flatten.length := fun j hj => nxN_lt hA hj
  have ltB : ∀ j, j < B.flatten.length → nxN B j < B.flatten.length := fun j hj => nxN_lt hB hj
  rw [len]
  refine ⟨eWr_bij (by omega), ?_, ?_, by omega, ?_, ?_, fun j hj => ?_, fun j hj => ?_⟩
  · unfold eWr
    rw [if_neg (by omega), if_neg (by omega), if_neg (by omega), if_pos rfl]
  · unfold eWr
    rw [if_neg (by omega), if_neg (by omega), if_neg (by omega), if_neg (by omega)]
  · rw [n2 (A.flatten.length + u.length + 1) (by omega), if_neg (by omega), if_pos (by omega), if_neg (by omega)]
  · rw [n2 A.flatten.length (by omega), if_neg (by omega), if_pos (by omega), if_pos (by omega)]
    unfold eWr
    rw [if_neg (by omega), if_pos (by omega)]
  · rw [n1 j (by omega)]
    have la := ltA j
    have lb := ltB (j - A.flatten.length - u.length)
    by_cases h1 : j < A.flatten.length
    · have e0 : eWr (A.flatten.length + u.length + B.flatten.length) A.flatten.length u.length j = j := by
        unfold eWr
        rw [if_pos h1]
      rw [e0, n2 j (by omega)]
      unfold eWr
      generalize nxN A j = na at *
      generalize nxN B (j - A.flatten.length - u.length) = nb at *
      generalize nxN B (j - A.flatten.length - (u.length + 2)) = nb2 at *
      generalize A.flatten.length = a at *
      generalize B.flatten.length = b at *
      generalize u.length = c at *
      clear n1 n2 ltA ltB len lw2 e0 hA hB hu
      repeat' (first | omega | split)
    · by_cases h2 : j < A.flatten.length + u.length
      · have e0 : eWr (A.flatten.length + u.length + B.flatten.length) A.flatten.length u.length j = j + 1 := by
          unfold eWr
          rw [if_neg h1, if_pos h2]
        rw [e0, n2 (j + 1) (by omega)]
        unfold eWr
        generalize nxN A j = na at *
        generalize nxN A (j + 1) = na2 at *
        generalize nxN B (j - A.flatten.length - u.length) = nb at *
        generalize nxN B (j + 1 - A.flatten.length - (u.length + 2)) = nb2 at *
        generalize A.flatten.length = a at *
        generalize B.flatten.length = b at *
        generalize u.length = c at *
        clear n1 n2 ltA ltB len lw2 e0 hA hB hu
        repeat' (first | omega | split)
      · have e0 : eWr (A.flatten.length + u.length + B.flatten.length) A.flatten.length u.length j = j + 2 := by
          unfold eWr
          rw [if_neg h1, if_neg h2, if_pos hj]
        have e1 : j + 2 - A.flatten.length - (u.length + 2) = j - A.flatten.length - u.length := by omega
        rw [e0, n2 (j + 2) (by omega), e1]
        unfold eWr
        generalize nxN A j = na at *
        generalize nxN A (j + 2) = na2 at *
        generalize nxN B (j - A.flatten.length - u.length) = nb at *
        generalize A.flatten.length = a at *
        generalize B.flatten.length = b at *
        generalize u.length = c at *
        clear n1 n2 ltA ltB len lw2 e0 e1 hA hB hu
        repeat' (first | omega | split)
  · rw [n1 j (by omega)]
    split
    · have := ltA j (by omega)
      omega
    · split
      · split <;> omega
      · have := ltB (j - A.flatten.length - u.length) (by omega)
        omega
end W17
set_option Elab.async false
set_option linter.all false
set_option maxRecDepth 100000
set_option maxHeartbeats 1000000
namespace W17
open PySem L2 PySem.Spec PyProof.Rows WR WB WE
/-! ### what two letters put in, or taken out, do to the cost -/
/-- mates put in: the cost stays -/
theorem ins_cost {ws ws2 : List (List Int)} {mt mt2 : List Int} {e : Nat → Nat} {p q t : Nat} (hne : ∀ w ∈ ws, w ≠ []) (hne2 : ∀ w ∈ ws2, w ≠ []) (l2 : ws2.flatten.length = ws.flatten.length + 2) (I : Cy.Ins ws.flatten.length (nxN ws) (nxN ws2) e p q t)
    (h : PairOk ws.flatten.length mt) (h2 : PairOk ws2.flatten.length mt2) (hp : mtn mt2 p = q) (hq : mtn mt2 q = p) (hm : ∀ i, i < ws.flatten.length → mtn mt2 (e i) = e (mtn mt i)) : costF ws2 mt2 = costF ws mt := by
  have B2 := bij_nxt hne2 h2
  rw [l2] at B2
  have c := Cy.ins_cyc I (mt := mtn mt) (mt2 := mtn mt2) B2 hp hq fun i hi => ⟨(mtn_at h.1 hi).1, hm i hi⟩
  have c1 := corn_cyc hne h
  have c2 := corn_cyc hne2 h2
  rw [l2] at c2
  have e1 : (cornF ws mt).length = Cy.cyc ws.flatten.length fun x => nxN ws (mtn mt x) := c1
  have e2 : (cornF ws2 mt2).length = Cy.cyc (ws.flatten.length + 2) fun x => nxN ws2 (mtn mt2 x) := c2
  unfold costF
  rw [e1, e2, c, l2]
  omega
/-- p's next is q, of contrary letter, no mate: mates exchanged so that p and q are mates -/
theorem free_cost {ws : List (List Int)} (hne : ∀ w ∈ ws, w ≠ []) {mt : List Int} (h : MatOk ws.flatten mt) {p q : Nat} (hp : p < ws.flatten.length) (hq : q < ws.flatten.length) (npq : p ≠ q) (nx : nxN ws p = q) (nm : mtn mt p ≠ q) :
    costF ws (swpF mt p (mtn mt q)) = costF ws mt ∨ costF ws (swpF mt p (mtn mt q)) = costF ws mt - 2 := by
  have P := h.1
  have a1 := (mtn_at P.1 hp).1
  have b1 := (mtn_at P.1 hq).1
  have qb := (pair_inv P hq).1
  have n3 := (pair_inv P hp).2
  have npb : p ≠ mtn mt q := fun e => nm (by rw [e, qb])
  have B := bij_nxt hne P
  have B1 := B.swp a1 hq
  have f1 : (fun x => nxt (nxF 0 ws) mt x) (mtn mt p) = q := by
    show nxN ws (mtn mt (mtn mt p)) = q
    rw [(pair_inv P hp).1, nx]
  have f2 : (fun x => nxt (nxF 0 ws) mt x) q ≠ q := fun z => by
    have z : nxN ws (mtn mt q) = q := z
    -- nexts are unlike
    have i1 := B.inj (mtn mt p) q a1 hq (by
      show nxN ws (mtn mt (mtn mt p)) = nxN ws (mtn mt q)
      rw [(pair_inv P hp).1, nx, z])
    exact nm i1
  have cyc1 := Cy.cyc_free B a1 hq f1 f2
  have cyc2 := Cy.cyc_swp _ _ _ _ B1 hp b1 npb
  have ef : Cy.cyc ws.flatten.length (nxt (nxF 0 ws) (swpF mt p (mtn mt q))) = Cy.cyc ws.flatten.length (fun x => (fun x => nxt (nxF 0 ws) mt (Cy.swp (mtn mt p) q x)) (Cy.swp p (mtn mt q) x)) := by
    refine Cy.cyc_congr _ _ _ (fun i hi => ?_) (bij_nxt hne (swpF_pair P hp b1))
    show ((nxF 0 ws).getD (mtn (swpF mt p (mtn mt q)) i) 0).toNat = ((nxF 0 ws).getD (mtn mt (Cy.swp (mtn mt p) q (Cy.swp p (mtn mt q) i))) 0).toNat
    rw [swpF_mtn (by rw [P.1.1]; exact hi)]
    congr 2
    have key : ∀ x, x < ws.flatten.length → Cy.swp p (mtn mt q) (mtn mt x) = mtn mt (Cy.swp (mtn mt p) q x) := fun x hx => by
      by_cases h1 : x = mtn mt p
      · subst h1
        rw [Cy.swp_l, (pair_inv P hp).1, Cy.swp_l]
      · by_cases h2 : x = q
        · subst h2
          rw [Cy.swp_r, Cy.swp_r, (pair_inv P hp).1]
        · rw [Cy.swp_o h1 h2, Cy.swp_o]
          · intro e
            exact h1 (by rw [← e, (pair_inv P hx).1])
          · intro e
            exact h2 (by rw [← (pair_inv P hx).1, e, qb])
    exact key _ (Cy.swp_lt hp b1 hi)
  have c0 := corn_cyc hne P
  have c1 := corn_cyc hne (swpF_pair P hp b1)
  rw [ef] at c1
  unfold costF
  rw [c0, c1]
  dsimp only at cyc1 cyc2 ⊢
  omega
end W17
set_option Elab.async false
set_option linter.all false
set_option maxRecDepth 100000
set_option maxHeartbeats 1000000
namespace W17
open PySem L2 PySem.Spec PyProof.Rows WR WB WE
/-! ### pieces of words in which two letters are put -/
theorem rt_root {n : Nat} {ab : List Nat} (h : DnOk n ab) : ∀ (k x : Nat), x < n → x ≤ k → ab.getD (rt ab k x) 0 = rt ab k x
  | 0, x, hx, hk => by
    have e : x = 0 := by omega
    subst e
    have := h.2 0 hx
    show ab.getD 0 0 = 0
    omega
  | k + 1, x, hx, hk => by
    unfold rt
    by_cases e : ab.getD x 0 = x
    · rw [if_pos e, e]
    · rw [if_neg e]
      have := h.2 x hx
      exact rt_root h k _ (by omega) (by omega)
theorem jnS_self {n : Nat} {ab : List Nat} (h : DnOk n ab) {x : Nat} (hx : x < n) : jnS ab (x, x) = ab := by
  unfold jnS
  have r := rt_root h x x hx (Nat.le_refl _)
  have l := h.rt_le x x hx
  show ab.set (max (rt ab x x) (rt ab x x)) (min (rt ab x x) (rt ab x x)) = ab
  rw [Nat.max_self, Nat.min_self]
  have hl : rt ab x x < ab.length := by rw [h.1]; omega
  rw [List.getD_eq_getElem?_getD, List.getElem?_eq_getElem hl] at r
  have r : ab[rt ab x x] = rt ab x x := r
  refine List.ext_getElem (by rw [List.length_set]) fun i h1 h2 => ?_
  rw [List.getElem_set]
  split
  · rename_i e
    subst e
    exact r.symm
  · rfl
theorem jn_app : ∀ (xs ys : List (Nat × Nat)) (ab : List Nat), jn ab (xs ++ ys) = jn (jn ab xs) ys
  | [], _, _ => rfl
  | x :: xs, ys, ab => jn_app xs ys (jnS ab x)
theorem joinF_self {n x : Nat} (hx : x < n) (ps qs : List (Nat × Nat)) (hps : ∀ p ∈ ps, p.1 < n ∧ p.2 < n) : joinF n (ps ++ [(x, x), (x, x)] ++ qs) = joinF n (ps ++ qs) := by
  unfold joinF
  have d := (dn_range n).jn ps hps
  rw [jn_app, jn_app, jn_app]
  show (flr (jn (jnS (jnS (jn (List.range n) ps) (x, x)) (x, x)) qs) n).2.map (·.2) = _
  rw [jnS_self d hx, jnS_self d hx]
theorem hmF_up : ∀ (ws : List (List Int)) (f d : Nat), hmF (f + d) ws = (hmF f ws).map fun z => z + (d : Int)
  | [], _, _ => rfl
  | w :: r, f, d => by
    unfold hmF
    rw [List.map_append, List.map_replicate, show f + d + 1 = f + 1 + d by omega, hmF_up r]
    congr 1
theorem hmF_app : ∀ (xs ys : List (List Int)) (f : Nat), hmF f (xs ++ ys) = hmF f xs ++ hmF (f + xs.length) ys
  | [], ys, f => rfl
  | w :: r, ys, f => by
    show List.replicate w.length (f : Int) ++ hmF (f + 1) (r ++ ys) = (List.replicate w.length (f : Int) ++ hmF (f + 1) r) ++ hmF (f + (r.length + 1)) ys
    rw [hmF_app r ys, List.append_assoc, show f + 1 + r.length = f + (r.length + 1) by omega]
theorem hm_mid (A B : List (List Int)) (w : List Int) {j : Nat} (hj : j < A.flatten.length + w.length + B.flatten.length) :
    home (A ++ [w] ++ B) j = if j < A.flatten.length then home A j else if j < A.flatten.length + w.length then A.length else A.length + 1 + home B (j - A.flatten.length - w.length) := by
  unfold home
  rw [hmF_app, hmF_app, Nat.zero_add, Nat.zero_add]
  have la := hmF_len A 0
  have lw : (hmF A.length [w]).length = w.length := by rw [hmF_len]; simp
  have lA : (A ++ [w]).length = A.length + 1 := by rw [List.length_append]; rfl
  rw [lA]
  by_cases h1 : j < A.flatten.length
  · rw [if_pos h1, List.getD_eq_getElem?_getD, List.getD_eq_getElem?_getD, List.getElem?_append_left (by rw [List.length_append]; omega), List.getElem?_append_left (by omega)]
  · rw [if_neg h1]
    by_cases h2 : j < A.flatten.length + w.length
    · rw [if_pos h2, List.getD_eq_getElem?_getD, List.getElem?_append_left (by rw [List.length_append]; omega), List.getElem?_append_right (by omega), la]
      unfold hmF
      rw [show hmF (A.length + 1) [] = [] from rfl, List.append_nil, List.getElem?_replicate, if_pos (by omega)]
      rfl
    · rw [if_neg h2, List.getD_eq_getElem?_getD, List.getElem?_append_right (by rw [List.length_append]; omega), List.length_append, la, lw]
      have hk : j - (A.flatten.length + w.length) < B.flatten.length := by omega
      have up := hmF_up B 0 (A.length + 1)
      rw [Nat.zero_add] at up
      rw [up, List.getElem?_map, List.getD_eq_getElem?_getD, show j - A.flatten.length - w.length = j - (A.flatten.length + w.length) by omega]
      have hl : j - (A.flatten.length + w.length) < (hmF 0 B).length := by rw [hmF_len]; exact hk
      rw [List.getElem?_eq_getElem hl]
      have nn := (hmF_rng B 0 _ (List.getElem_mem hl)).1
      show ((hmF 0 B)[j - (A.flatten.length + w.length)]'hl + ((A.length + 1 : Nat) : Int)).toNat = A.length + 1 + ((hmF 0 B)[j - (A.flatten.length + w.length)]'hl).toNat
      omega
theorem home_lt {ws : List (List Int)} {j : Nat} (hj : j < ws.flatten.length) : home ws j < ws.length := by
  unfold home
  have hl : j < (hmF 0 ws).length := by rw [hmF_len]; exact hj
  rw [getD_lt hl]
  have := hmF_rng ws 0 _ (List.getElem_mem hl)
  omega
section
variable {A B : List (List Int)} {u v : List Int} {x y : Int}
theorem len_in : (A ++ [u ++ v] ++ B).flatten.length = A.flatten.length + (u.length + v.length) + B.flatten.length := by
  simp only [List.flatten_append, List.length_append, List.flatten_cons, List.flatten_nil, List.append_nil]
theorem len_in2 : (A ++ [u ++ [x, y] ++ v] ++ B).flatten.length = A.flatten.length + (u.length + v.length) + B.flatten.length + 2 := by
  simp only [List.flatten_append, List.length_append, List.flatten_cons, List.flatten_nil, List.append_nil, List.length_cons, List.length_nil]
  omega
theorem home_in {j : Nat} (hj : j < (A ++ [u ++ v] ++ B).flatten.length) : home (A ++ [u ++ [x, y] ++ v] ++ B) (eIn (A ++ [u ++ v] ++ B).flatten.length (A.flatten.length + u.length) j) = home (A ++ [u ++ v] ++ B) j := by
  rw [len_in] at hj ⊢
  have lw : (u ++ v).length = u.length + v.length := List.length_append
  have lw2 : (u ++ [x, y] ++ v).length = u.length + 2 + v.length := by rw [List.length_append, List.length_append]; rfl
  have h1 := hm_mid A B (u ++ v) (j := j) (by rw [lw]; exact hj)
  rw [lw] at h1
  have h2 := fun {i} (hi : i < A.flatten.length + (u.length + 2 + v.length) + B.flatten.length) => hm_mid A B (u ++ [x, y] ++ v) (j := i) (by rw [lw2]; exact hi)
  rw [h1]
  by_cases c : j < A.flatten.length + u.length
  · have e0 : eIn (A.flatten.length + (u.length + v.length) + B.flatten.length) (A.flatten.length + u.length) j = j := if_pos c
    rw [e0, h2 (by omega), lw2]
    by_cases c1 : j < A.flatten.length
    · rw [if_pos c1, if_pos c1]
    · rw [if_neg c1, if_neg c1, if_pos (by omega), if_pos (by omega)]
  · have e0 : eIn (A.flatten.length + (u.length + v.length) + B.flatten.length) (A.flatten.length + u.length) j = j + 2 := by
      unfold eIn
      rw [if_neg c, if_pos hj]
    have d0 : ¬ j < A.flatten.length := by omega
    have d2 : ¬ j + 2 < A.flatten.length := by omega
    rw [e0, h2 (by omega), lw2, if_neg d0, if_neg d2]
    by_cases c1 : j < A.flatten.length + (u.length + v.length)
    · rw [if_pos (show j + 2 < A.flatten.length + (u.length + 2 + v.length) by omega), if_pos c1]
    · rw [if_neg (show ¬ j + 2 < A.flatten.length + (u.length + 2 + v.length) by omega), if_neg c1, show j + 2 - A.flatten.length - (u.length + 2 + v.length) = j - A.flatten.length - (u.length + v.length) by omega]
theorem home_p (i : Nat) (hi : i = A.flatten.length + u.length ∨ i = A.flatten.length + u.length + 1) : home (A ++ [u ++ [x, y] ++ v] ++ B) i = A.length := by
  have lw2 : (u ++ [x, y] ++ v).length = u.length + 2 + v.length := by rw [List.length_append, List.length_append]; rfl
  have h2 := hm_mid A B (u ++ [x, y] ++ v) (j := i) (by rw [lw2]; omega)
  rw [h2, lw2, if_neg (by omega), if_pos (by omega)]
/-- the pieces are those there were -/
theorem pc_in {mt mt2 : List Int} (h : MatesOk (A ++ [u ++ v] ++ B).flatten.length mt) (h2 : MatesOk (A ++ [u ++ [x, y] ++ v] ++ B).flatten.length mt2) (hp : mtn mt2 (A.flatten.length + u.length) = A.flatten.length + u.length + 1) (hq : mtn mt2 (A.flatten.length + u.length + 1) = A.flatten.length + u.length)
    (hm : ∀ i, i < (A ++ [u ++ v] ++ B).flatten.length → mtn mt2 (eIn (A ++ [u ++ v] ++ B).flatten.length (A.flatten.length + u.length) i) = eIn (A ++ [u ++ v] ++ B).flatten.length (A.flatten.length + u.length) (mtn mt i)) : pcF (A ++ [u ++ [x, y] ++ v] ++ B) mt2 = pcF (A ++ [u ++ v] ++ B) mt := by
  obtain ⟨n, hn⟩ : ∃ n, n = (A ++ [u ++ v] ++ B).flatten.length := ⟨_, rfl⟩
  obtain ⟨p, hpp⟩ : ∃ p, p = A.flatten.length + u.length := ⟨_, rfl⟩
  have hpn : p ≤ n := by rw [hn, hpp, len_in]; omega
  have len2 : mt2.length = n + 2 := by rw [h2.1, len_in2, hn, len_in]
  have hom : ∀ j, j < n → home (A ++ [u ++ [x, y] ++ v] ++ B) (eIn n p j) = home (A ++ [u ++ v] ++ B) j := fun j hj => by
    rw [hn, hpp]
    exact home_in (by rw [← hn]; exact hj)
  rw [← hn] at h hm
  rw [← hpp] at hp hq hm
  have pr : ∀ j, j < n → (home (A ++ [u ++ [x, y] ++ v] ++ B) (eIn n p j), home (A ++ [u ++ [x, y] ++ v] ++ B) (mtn mt2 (eIn n p j))) = (home (A ++ [u ++ v] ++ B) j, home (A ++ [u ++ v] ++ B) (mtn mt j)) := fun j hj => by
    rw [hm j hj, hom j hj, hom _ (mtn_at h hj).1]
  have e2 : pcP (A ++ [u ++ [x, y] ++ v] ++ B) mt2 = (pcP (A ++ [u ++ v] ++ B) mt).take p ++ [(A.length, A.length), (A.length, A.length)] ++ (pcP (A ++ [u ++ v] ++ B) mt).drop p := by
    unfold pcP
    rw [len2, h.1]
    refine List.ext_getElem (by simp only [List.length_map, List.length_range, List.length_append, List.length_take, List.length_drop, List.length_cons, List.length_nil]; omega) fun i h1 h3 => ?_
    rw [List.length_map, List.length_range] at h1
    rw [List.getElem_map, List.getElem_range]
    show (home _ i, home _ (mtn mt2 i)) = _
    by_cases c : i < p
    · have e0 : eIn n p i = i := if_pos c
      have q := pr i (by omega)
      rw [e0] at q
      rw [q, List.getElem_append_left (by simp only [List.length_map, List.length_range, List.length_append, List.length_take, List.length_cons, List.length_nil]; omega), List.getElem_append_left (by simp only [List.length_map, List.length_range, List.length_take]; omega), List.getElem_take, List.getElem_map, List.getElem_range]
      rfl
    · by_cases c2 : i < p + 2
      · rw [List.getElem_append_left (by simp only [List.length_map, List.length_range, List.length_append, List.length_take, List.length_cons, List.length_nil]; omega), List.getElem_append_right (by simp only [List.length_map, List.length_range, List.length_take]; omega)]
        have a1 : home (A ++ [u ++ [x, y] ++ v] ++ B) p = A.length := home_p p (.inl hpp)
        have a2 : home (A ++ [u ++ [x, y] ++ v] ++ B) (p + 1) = A.length := home_p (p + 1) (.inr (by rw [hpp]))
        have lt : ((List.map (fun i => (home (A ++ [u ++ v] ++ B) i, home (A ++ [u ++ v] ++ B) (mt.getD i 0).toNat)) (List.range n)).take p).length = p := by
          simp only [List.length_map, List.length_range, List.length_take]
          omega
        by_cases c3 : i = p
        · subst c3
          rw [hp, a1, a2]
          simp only [lt, Nat.sub_self, List.getElem_cons_zero]
        · have c4 : i = p + 1 := by omega
          subst c4
          rw [hq, a1, a2]
          simp only [lt, show p + 1 - p = 1 by omega, List.getElem_cons_succ, List.getElem_cons_zero]
      · have e0 : eIn n p (i - 2) = i := by
          unfold eIn
          rw [if_neg (by omega), if_pos (by omega)]
          omega
        have q := pr (i - 2) (by omega)
        rw [e0] at q
        have lt : ((List.map (fun i => (home (A ++ [u ++ v] ++ B) i, home (A ++ [u ++ v] ++ B) (mt.getD i 0).toNat)) (List.range n)).take p ++ [(A.length, A.length), (A.length, A.length)]).length = p + 2 := by
          simp only [List.length_map, List.length_range, List.length_take, List.length_append, List.length_cons, List.length_nil]
          omega
        rw [q, List.getElem_append_right (by rw [lt]; omega)]
        simp only [lt, List.getElem_drop, List.getElem_map, List.getElem_range]
        rw [show p + (i - (p + 2)) = i - 2 by omega]
        rfl
  unfold pcF
  have l1 : (A ++ [u ++ [x, y] ++ v] ++ B).length = (A ++ [u ++ v] ++ B).length := by simp only [List.length_append, List.length_cons, List.length_nil]
  rw [e2, l1, joinF_self (by simp only [List.length_append, List.length_cons, List.length_nil]; omega), List.take_append_drop]
  intro pp hpp2
  obtain ⟨i, hi, rfl⟩ := List.mem_map.mp (List.mem_of_mem_take hpp2)
  rw [List.mem_range, h.1, hn] at hi
  exact ⟨home_lt hi, home_lt (by
    have := (mtn_at h (i := i) (by rw [hn]; exact hi)).1
    rw [hn] at this
    exact this)⟩
end
end W17
set_option Elab.async false
set_option linter.all false
set_option maxRecDepth 100000
set_option maxHeartbeats 600000
/-! C.m(..), m a plain def of the class C. -/
namespace CF
open PySem L2 PySem.Spec PyProof.Rows
/-- m is a def in C's body: it stands at g -/
structure CFn (K : PySem.W.Frag) (C : Addr) (mc : Value) (m : Str) (g : Addr) : Prop where
  rd : PySem.W.readsIn K C mc = true
  ga : PySem.W.specialIn K (.ref C) "__getattribute__" = some (some (.builtin "type.__getattribute__"))
  at_ : PySem.W.findCls K (.ref C) mc m = some (.val (.ref g))
  kp : PySem.W.keepIn K (.ref g) = true
section
variable {X : Cx} {k j : Nat} {C : Addr} {sp : Sp} {ps : List Str} {o e : Expr} {es : List Expr} {m : Str} {pos apos : Pos} {ta : TE} {t : TA} {pl : Sem Bool} {fd : FuncData} {g : Addr} {mc : Value}
theorem pe_cfn (he : PE X o ta) (c : CFn X.K C mc m g) (F : FnOk X.prog X.w X.K X.mg X.base CX0 k g fd ps sp) (hr : Room k X.A) (hb : Binds X.K fd ps []) (ha : PA X (e :: es) t)
    (hst : starEach (e :: es) X.env = (false, eval e X.env) :: starEach es X.env := by rfl) (hpl : (backTo pos (starEach es X.env)).any (·.1) = false := by rfl)
    (ht : eval (.Call (.Attribute o m apos) (e :: es) [] pos) X.env = (do
      let ov ← eval o X.env
      standAt apos.atName
      let (f, first) ← holding [ov] (getMethod ov m pl)
      callWith pos f first (backTo pos (starEach (e :: es) X.env)) (backToKw pos (keywordEach [] X.env))) := by rfl) :
    PE X (.Call (.Attribute o m apos) (e :: es) [] pos) (MStat.tSMeth C sp ta t) := by
  refine ⟨fun pins s σ H Q I h => ?_⟩
  refine PySem.W.methodCall_KW (pl := pl) (thn (he.run pins s σ H _ I h) fun u s1 ⟨x, H1, I1, rx, ex, q⟩ => ?_) ht
  subst ex
  obtain rfl : u = Value.ref C := rx
  refine PySem.W.method_cls I1.kIn c.ga (PySem.W.cls_value I1.kIn c.rd c.at_ (handed_of (v := V.ref g) rfl) ?_)
  have I2 := I1.tok (t := s1.toks + 1)
  refine PySem.W.callWith_K (first := []) (h₀ := X.base) I2.ok.mod.kin c.kp (thn (ha.run pos pins _ σ H1 _ I2 q) fun us s3 ⟨vs, H2, I3, rv, q2⟩ => ⟨I3.kIn, ?_⟩) hst hpl
  exact run_fn (us := us) (vs := vs) (dvs := []) (ds := []) F hr hb .nil pass0 I3 rv (by simpa using q2)
end
end CF
namespace W17
open PySem L2 PySem.Spec PyProof.Rows WR WB WE WS
/-! ### errors with one field -/
def spI1 (fl : Str) (C : Addr) : Sp := fun vs H Q _ => ∃ (a : Addr) (v : V), vs = [.ref a, v] ∧ H a = some (exo a C none) ∧ ∀ dx, H dx = none → dx ≠ a → Q .non (L2.upd (L2.upd H dx (exd dx [(fl, v)])) a (exo a C (some dx)))
structure ErrC (P : Program) (w : World) (K : PySem.W.Frag) (mg : Str → Option Value) (base : Heap) (C : Addr) (x : Str) (ps : List Str) (sp : Sp) : Prop where
  oex : OexC K C
  ini : ∃ (fI : Addr) (fd : FuncData), PySem.W.findIn K (.ref C) "__init__" = some (some (.ref fI)) ∧ PySem.W.typeIn K (.ref fI) = some (.type "function") ∧ FnOk P w K mg base CX0 2 fI fd ps sp ∧ Binds K fd ps []
  g : mg x = some (.ref C)
  xf : XfC K C
  te : PySem.W.exmOne K (.ref C) (.ref C) = some true
abbrev sInitBS : Stmt := inClass (top 5) 0
abbrev nInitBS : List Str := ["self", "part"]
theorem scInitBS : FnScope nInitBS ["self", "part"] (defScope sInitBS) := ⟨rfl, rfl, rfl, by decide +kernel, rfl, by decide +kernel, by decide +kernel⟩
abbrev sInitMF : Stmt := inClass (top 6) 0
abbrev nInitMF : List Str := ["self", "part"]
theorem scInitMF : FnScope nInitMF ["self", "part"] (defScope sInitMF) := ⟨rfl, rfl, rfl, by decide +kernel, rfl, by decide +kernel, by decide +kernel⟩
abbrev sInitMi : Stmt := inClass (top 7) 0
abbrev nInitMi : List Str := ["self", "value"]
theorem scInitMi : FnScope nInitMi ["self", "value"] (defScope sInitMi) := ⟨rfl, rfl, rfl, by decide +kernel, rfl, by decide +kernel, by decide +kernel⟩
abbrev sInitNP : Stmt := inClass (top 8) 0
abbrev nInitNP : List Str := ["self", "value"]
theorem scInitNP : FnScope nInitNP ["self", "value"] (defScope sInitNP) := ⟨rfl, rfl, rfl, by decide +kernel, rfl, by decide +kernel, by decide +kernel⟩
section
variable {P : Program} {w : World} {K : PySem.W.Frag} {mg : Str → Option Value} {base : Heap}
theorem ok_initBS {C f : Addr} {fd : FuncData} (F : Fun K "__init__" "BadSewing.__init__" sInitBS f fd) (O : OexC K C) (n1 : PySem.W.findIn K (.ref C) "part" = some none) : FnOk P w K mg base CX0 1 f fd ["self", "part"] (spI1 "part" C) := by
  refine F.ok scInitBS (fun vs H Q E h => ?_) (fun cdv A outer s H vs Q E hr h => ?_)
  · obtain ⟨a, v, rfl, _⟩ := h
    rfl
  · obtain ⟨a, v, rfl, hA, k⟩ := h
    refine ⟨_, pss_one (ps_ost (pv 0) (pv 1)), ?_⟩
    exact ⟨_, rfl, _, rfl, a, C, rfl, O, n1, .inl ⟨hA, fun dx h1 h2 => k dx h1 h2⟩⟩
theorem ok_initMF {C f : Addr} {fd : FuncData} (F : Fun K "__init__" "Misfit.__init__" sInitMF f fd) (O : OexC K C) (n1 : PySem.W.findIn K (.ref C) "part" = some none) : FnOk P w K mg base CX0 1 f fd ["self", "part"] (spI1 "part" C) := by
  refine F.ok scInitMF (fun vs H Q E h => ?_) (fun cdv A outer s H vs Q E hr h => ?_)
  · obtain ⟨a, v, rfl, _⟩ := h
    rfl
  · obtain ⟨a, v, rfl, hA, k⟩ := h
    refine ⟨_, pss_one (ps_ost (pv 0) (pv 1)), ?_⟩
    exact ⟨_, rfl, _, rfl, a, C, rfl, O, n1, .inl ⟨hA, fun dx h1 h2 => k dx h1 h2⟩⟩
theorem ok_initMi {C f : Addr} {fd : FuncData} (F : Fun K "__init__" "Missing.__init__" sInitMi f fd) (O : OexC K C) (n1 : PySem.W.findIn K (.ref C) "value" = some none) : FnOk P w K mg base CX0 1 f fd ["self", "value"] (spI1 "value" C) := by
  refine F.ok scInitMi (fun vs H Q E h => ?_) (fun cdv A outer s H vs Q E hr h => ?_)
  · obtain ⟨a, v, rfl, _⟩ := h
    rfl
  · obtain ⟨a, v, rfl, hA, k⟩ := h
    refine ⟨_, pss_one (ps_ost (pv 0) (pv 1)), ?_⟩
    exact ⟨_, rfl, _, rfl, a, C, rfl, O, n1, .inl ⟨hA, fun dx h1 h2 => k dx h1 h2⟩⟩
/-- NoPlace's own __init__ calls that of Missing -/
theorem ok_initNP {C CM g f : Addr} {mc : Value} {fd fdm : FuncData} (F : Fun K "__init__" "NoPlace.__init__" sInitNP f fd) (hM : mg "Missing" = some (.ref CM)) (c : CF.CFn K CM mc "__init__" g) (FM : FnOk P w K mg base CX0 1 g fdm ["self", "value"] (spI1 "value" C)) (bM : Binds K fdm ["self", "value"] []) : FnOk P w K mg base CX0 2 f fd ["self", "value"] (spI1 "value" C) := by
  refine F.ok scInitNP (fun vs H Q E h => ?_) (fun cdv A outer s H vs Q E hr h => ?_)
  · obtain ⟨a, v, rfl, _⟩ := h
    rfl
  · obtain ⟨a, v, rfl, hA, k⟩ := h
    refine ⟨_, pss_one (ps_expr (CF.pe_cfn (pe_glob (v := .ref CM) (by rfl) hM rfl) c FM hr bM (pa_cons (pv 0) (pa_cons (pv 1) pa_nil)))), ?_⟩
    exact ⟨rfl, _, rfl, _, rfl, a, v, rfl, hA, fun dx h1 h2 => k dx h1 h2⟩
end
theorem heap1 {H : Hp} {a d : Addr} {e1 e2 e3 o : HO} (ha : H a = none) (hd : d ≠ a) : L2.upd (del (L2.upd (L2.upd (L2.upd H a e1) d e2) a e3) a) d o = L2.upd H d o := by
  funext b
  by_cases h1 : b = d
  · subst h1
    rw [upd_same, upd_same]
  · rw [upd_ne h1, upd_ne h1]
    by_cases h2 : b = a
    · subst h2
      rw [del_same, ha]
    · rw [del_ne h2, upd_ne h2, upd_ne h1, upd_ne h2]
theorem mk1 {fl : Str} {C : Addr} {H : Hp} {v : V} {Q : XK} (k : ∀ d, H d = none → Q (.ref C) (some d) (L2.upd H d (.xd [(fl, v)]))) : ∀ a, H a = none → spI1 fl C [.ref a, v] (L2.upd H a (exo a C none))
    (fun z H2 => z = .non ∧ ∃ (d : Addr) (fs : List (Str × V)), H2 a = some (exo a C (some d)) ∧ H2 d = some (exd d fs) ∧ H d = none ∧ Q (.ref C) (some d) (L2.upd (del H2 a) d (.xd fs))) (fun _ _ _ => False) := by
  intro a ha
  refine ⟨a, v, rfl, upd_same, fun dx h1 h2 => ⟨rfl, dx, _, upd_same, by rw [upd_ne h2, upd_same], by rw [upd_ne h2] at h1; exact h1, ?_⟩⟩
  rw [heap1 ha h2]
  exact k dx (by rw [upd_ne h2] at h1; exact h1)
/-- an error of the class C with this field -/
abbrev Bad (fl : Str) (C : Addr) (E : XK) (H : Hp) (v : V) : Prop := ∀ H1, Same H H1 → ∀ d, H1 d = none → E (.ref C) (some d) (L2.upd H1 d (.xd [(fl, v)]))
structure CalX (P : Program) (w : World) (K : PySem.W.Frag) (mg : Str → Option Value) (base : Heap) (x : Str) (k : Nat) (ps : List Str) (sp : Sp) : Prop where
  ex : ∃ (f : Addr) (fd : FuncData), FnOk P w K mg base (L2.CX P w) k f fd ps sp ∧ mg x = some (.ref f) ∧ PySem.W.keepIn K (.ref f) = true ∧ Binds K fd ps []
section
variable {X : Cx} {x : Str} {k j : Nat} {ps : List Str} {sp : Sp} {p pos : Pos} {e : Expr} {es : List Expr} {t : TA} {E : XK}
theorem pe_calX (C : CalX X.prog X.w X.K X.mg X.base x k ps sp) (hr : Room j X.A) (hkj : k ≤ j) (hx : Passes (L2.CX X.prog X.w) X E) (hg : Gl X x) (ha : PA X (e :: es) t) (hdb : (x == ("__debug__" : Str)) = false := by decide)
    (he : starEach (e :: es) X.env = (false, eval e X.env) :: starEach es X.env := by rfl) (hpl : (backTo pos (starEach es X.env)).any (·.1) = false := by rfl) :
    PE X (.Call (.Name x p) (e :: es) [] pos) (tCall sp [] E t) := by
  obtain ⟨f, fd, F, hm, hk, hb⟩ := C.ex
  exact pe_call F (hr.mono hkj) hg hm hk hb .nil hx ha hdb he hpl
theorem passF : Passes (L2.CX X.prog X.w) X (fun _ _ _ => False) := fun pins σ H s e s' I c => by
  obtain ⟨a, B, H', cls, d, rfl, fl, hok, ub, na, os, ag, hE⟩ := c
  exact hE.elim
end
end W17
set_option Elab.async false
set_option linter.all false
set_option maxRecDepth 100000
set_option maxHeartbeats 600000
namespace W17
open PySem L2 PySem.Spec PyProof.Rows WR WB WE WS
structure MkS (P : Program) (w : World) (K : PySem.W.Frag) (mg : Str → Option Value) (base : Heap) (C CR CS : Addr) : Prop where
  ex : ∃ (f : Addr) (fd : FuncData), Mk K CS f ∧ FnOk P w K mg base CX0 5 f fd ["self", "rims", "mates"] (spInitS K C CR CS) ∧ Binds K fd ["self", "rims", "mates"] []
theorem pe_sewK {X : Cx} {C CR CS : Addr} {p pos : Pos} {e : Expr} {es : List Expr} {t : TA} {j : Nat} {K : PySem.W.Frag} (hK : X.K = K) (M : MkS X.prog X.w K X.mg X.base C CR CS) (T : TxSC K X.mg CS) (hr : Room j X.A) (hkj : 6 ≤ j) (hg : Gl X "Sewing") (ha : PA X (e :: es) t)
    (he : starEach (e :: es) X.env = (false, eval e X.env) :: starEach es X.env := by rfl) (hpl : (backTo pos (starEach es X.env)).any (·.1) = false := by rfl) :
    PE X (.Call (.Name "Sewing" p) (e :: es) [] pos) (tMake CS (spInitS K C CR CS) [] E0 t) := by
  subst hK
  obtain ⟨f, fd, M, F, hb⟩ := M.ex
  exact pe_make M F (hr.mono hkj) hg T.mgS hb .nil pass0 ha (by decide) he hpl
theorem sew_at {K : PySem.W.Frag} {C CR CS : Addr} {H1 : Hp} {rp m x dx : Addr} {xs : List Addr} {ws : List (List Int)} {mt : List Int} {G : Hp → Prop} {E : XK} (nx : H1 x = none) (ndx : H1 dx = none) (R1 : RimsAt K C CR H1 rp xs ws) (ok : RimOk ws) (hm : SqW K H1 m (iv mt)) (mk : MatOk ws.flatten mt)
    (k : ∀ H', Same H1 H' → SewAt K C CR CS H' x rp xs ws mt → G H') : spInitS K C CR CS [.ref x, .ref rp, .ref m] (L2.upd (L2.upd H1 dx (.own x)) x (.ins CS dx [])) (fun v H2 => v = .non ∧ G H2) E := by
  have s0 : Same H1 (L2.upd (L2.upd H1 dx (.own x)) x (.ins CS dx [])) := fun b o e => by
    rw [upd_ne (ne_of_none e nx), upd_ne (ne_of_none e ndx)]
    exact e
  exact ⟨H1, x, dx, rp, m, xs, ws, mt, rfl, s0, nx, upd_same, R1, ok, hm, mk, fun H' s' W' => ⟨rfl, k H' s' W'⟩⟩
/-! ### what is no sewing, no place; exchanged -/
/-- not of the class D -/
def NotC (K : PySem.W.Frag) (D : Addr) (H : Hp) (x : V) : Prop := ∃ tv, TyX K H x tv ∧ PySem.W.kitOne K tv (.ref D) = some false
def SewV (K : PySem.W.Frag) (C CR CS : Addr) (H : Hp) (x : V) : Prop := ∃ p rp xs ws mt, x = V.ref p ∧ SewAt K C CR CS H p rp xs ws mt
theorem SewAt.tyx {K : PySem.W.Frag} {C CR CS : Addr} {H : Hp} {p rp : Addr} {xs : List Addr} {ws : List (List Int)} {mt : List Int} {mg : Str → Option Value} (h : SewAt K C CR CS H p rp xs ws mt) (T : TxW K mg C) (TS : TxSC K mg CS) : TyX K H (.ref p) (.ref CS) := by
  obtain ⟨dx, tm, tc, tp, h1, _⟩ := h
  exact .base (.ins h1 TS.cl TS.ca T.cn T.ct TS.cm)
def spNeedS (K : PySem.W.Frag) (C CR CS CBS : Addr) : Sp := fun vs H Q E => ∃ x part : V, vs = [x, part] ∧ ((NotC K CS H x ∧ Bad "part" CBS E H part) ∨ (SewV K C CR CS H x ∧ Q .non H))
abbrev sNeedS : Stmt := top 57
abbrev nNeedS : List Str := ["value", "part"]
theorem scNeedS : FnScope nNeedS ["value", "part"] (defScope sNeedS) := ⟨rfl, rfl, rfl, by decide +kernel, rfl, by decide +kernel, by decide +kernel⟩
/-- a place of n ones -/
def plB (x : V) (n : Nat) : Bool := within x (.int 0) (.int ((n : Int) - 1))
theorem plB_nat {k n : Nat} (h : k < n) : plB (.int (k : Int)) n = true := by
  show (decide ((0 : Int) ≤ k) && decide ((k : Int) ≤ (n : Int) - 1)) = true
  rw [decide_eq_true (show (0 : Int) ≤ k by omega), decide_eq_true (show (k : Int) ≤ (n : Int) - 1 by omega)]
  rfl
def spNeedPX (K : PySem.W.Frag) (C CR CNP : Addr) : Sp := fun vs H Q E => ∃ (p : Addr) (x : V) (t : String) (xs : List Addr) (ws : List (List Int)), vs = [.ref p, x] ∧ RimsAt K C CR H p xs ws ∧ Typ H x t ∧ (plB x ws.flatten.length = false → Bad "value" CNP E H x) ∧ (plB x ws.flatten.length = true → Q .non H)
abbrev sNeedPX : Stmt := top 50
abbrev nNeedPX : List Str := ["rims", "value"]
theorem scNeedPX : FnScope nNeedPX ["rims", "value"] (defScope sNeedPX) := ⟨rfl, rfl, rfl, by decide +kernel, rfl, by decide +kernel, by decide +kernel⟩
section
variable {P : Program} {w : World} {K : PySem.W.Frag} {mg : Str → Option Value} {base : Heap} {C CR CS CBS CNP CTw CMF : Addr}
theorem ok_NeedS {f : Addr} {fd : FuncData} (F : Fun K "need_sewing" "need_sewing" sNeedS f fd) (N : TN mg) (T : TxW K mg C) (TS : TxSC K mg CS) (BS : ErrC P w K mg base CBS "BadSewing" ["self", "part"] (spI1 "part" CBS))  : FnOk P w K mg base (L2.CX P w) 4 f fd ["value", "part"] (spNeedS K C CR CS CBS) := by
  refine F.okX scNeedS (fun vs H Q E h => ?_) (fun cdv A outer s H vs Q E hr h => ?_)
  · obtain ⟨x, part, rfl, _⟩ := h
    rfl
  · obtain ⟨x, part, rfl, h⟩ := h
    obtain ⟨fBS, fdBS, iBS, tBS, FBS, bBS⟩ := BS.ini
    refine ⟨_, pss_one (ps_if (pt_not (pt_val (pe_callB call_isi (by rfl) N.isinstance (by decide +kernel) (pa_cons (pv 0) (pa_cons (pe_glob (v := .ref CS) (by rfl) TS.mgS rfl) pa_nil))))) (pss_one (ps_raise rfl (takes_of rfl rfl rfl rfl) (pmk_oex (dvs := []) BS.oex iBS tBS FBS (hr.mono (by decide)) bBS .nil pass0 (by rfl) BS.g (pa_cons (pv 1) pa_nil)))) pss_nil), ?_⟩
    rcases h with ⟨⟨tv, ht, hk⟩, kb⟩ | ⟨⟨p, rp, xs, ws, mt, rfl, hS⟩, kq⟩
    · refine ⟨_, rfl, x, _, _, _, _, rfl, .own CS, ht, hk, _, rfl, ?_⟩
      exact iteT ⟨_, rfl, by show 1 ≤ 1000; decide, mk1 (Q := fun cls d H' => E cls d H') fun d hd => kb H (Same.refl _) d hd⟩
    · refine ⟨_, rfl, .ref p, _, _, _, _, rfl, .own CS, hS.tyx T TS, kit_self CS, _, rfl, ?_⟩
      exact iteF kq
theorem ok_NeedPX {f : Addr} {fd : FuncData} (F : Fun K "need_place" "need_place" sNeedPX f fd) (N : TN mg) (TC : TxRC K mg CR) (NP : ErrC P w K mg base CNP "NoPlace" ["self", "value"] (spI1 "value" CNP)) (G_within : Cal P w K mg base "is_within" 2 ["value", "least", "most"] (spWithin)) : FnOk P w K mg base (L2.CX P w) 4 f fd ["rims", "value"] (spNeedPX K C CR CNP) := by
  refine F.okX scNeedPX (fun vs H Q E h => ?_) (fun cdv A outer s H vs Q E hr h => ?_)
  · obtain ⟨p, x, t, xs, ws, rfl, _⟩ := h
    rfl
  · obtain ⟨p, x, t, xs, ws, rfl, R1, ht, kb, kq⟩ := h
    obtain ⟨fNP, fdNP, iNP, tNP, FNP, bNP⟩ := NP.ini
    refine ⟨_, pss_one (ps_if (pt_not (pt_val (pe_cal G_within hr (by decide) (by rfl) (pa_cons (pv 1) (pa_cons pe_int (pa_cons (pe_op op_sub (pe_fld (pv 0) rfl) pe_int) pa_nil)))))) (pss_one (ps_raise rfl (takes_of rfl rfl rfl rfl) (pmk_oex (dvs := []) NP.oex iNP tNP FNP (hr.mono (by decide)) bNP .nil pass0 (by rfl) NP.g (pa_cons (pv 1) pa_nil)))) pss_nil), ?_⟩
    obtain ⟨dx, tw, tl, th, tn, h1, _⟩ := id R1
    refine ⟨_, rfl, _, rfl, p, CR, dx, _, _, rfl, h1, TC.cl, TC.n3, rf_many, _, _, rfl, rfl, ?_⟩
    refine ⟨x, .int 0, .int ((ws.flatten.length : Int) - 1), t, rfl, ht, .inr ⟨_, rfl⟩, .inr ⟨_, rfl⟩, _, rfl, ?_⟩
    show if (!plB x ws.flatten.length) = true then _ else _
    cases hb : plB x ws.flatten.length with
    | true => exact iteF (kq hb)
    | false => exact iteT ⟨_, rfl, by show 1 ≤ 1000; decide, mk1 (Q := fun cls d H' => E cls d H') fun d hd => kb hb H (Same.refl _) d hd⟩
end
end W17
set_option Elab.async false
set_option linter.all false
set_option maxRecDepth 100000
set_option maxHeartbeats 600000
/-! == and != of the instances of a class with its own ==. -/
namespace OE
open PySem L2 PySem.Spec PyProof.Rows
def spE (R : Hp → Addr → Addr → Bool → Prop) : Sp := fun vs H Q _ => ∃ (p q : Addr) (b : Bool), vs = [.ref p, .ref q] ∧ R H p q b ∧ Q (.bl b) H
/-- C's == answers b where R says so -/
structure Eq (P : Program) (w : World) (K : PySem.W.Frag) (mg : Str → Option Value) (base : Heap) (C : Addr) (k : Nat) (R : Hp → Addr → Addr → Bool → Prop) : Prop where
  ex : ∃ (f : Addr) (fd : FuncData), FnOk P w K mg base CX0 k f fd ["self", "other"] (spE R) ∧ PySem.W.findIn K (.ref C) "__eq__" = some (some (.ref f)) ∧ PySem.W.isFn K (.ref f) = true ∧ Binds K fd ["self", "other"] []
  ins : ∀ H p q b, R H p q b → (∃ dx fs, H p = some (.ins C dx fs)) ∧ ∃ dy gs, H q = some (.ins C dy gs)
  ne : PySem.W.findIn K (.ref C) "__ne__" = some (some (.builtin "object.__ne__"))
  mr : PySem.W.mroIn K C (.type "object") = some true
def rE (R : Hp → Addr → Addr → Bool → Prop) : R2 := fun x y H Q => ∃ (p q : Addr) (b : Bool), x = .ref p ∧ y = .ref q ∧ R H p q b ∧ Q (.bl b) H
section
variable {X : Cx} {C : Addr} {k : Nat} {R : Hp → Addr → Addr → Bool → Prop} {pins : List (Addr × Obj)} {σ : L2.St} {H : Hp} {s : Shared}
theorem callE (M : Eq X.prog X.w X.K X.mg X.base C k R) {A : Around} (sb : Sub X k A) (I : Inv X pins σ H s) {a b : Addr} {c : Bool} (r : R H a b c) :
    ∃ f : Addr, PySem.W.findIn X.K (.ref C) "__eq__" = some (some (.ref f)) ∧ PySem.W.isFn X.K (.ref f) = true ∧ wpAny (model X.prog X.w) A (call (.ref f) [.ref a, .ref b]) (fun r s' => r = .bool c ∧ Inv X pins σ H s') X.xe s := by
  obtain ⟨f, fd, F, hs, hf, hb⟩ := M.ex
  refine ⟨f, hs, hf, ?_⟩
  have hsp : spE R [.ref a, .ref b] H (fun v H' => v = .bl c ∧ H' = H) E0 := ⟨a, b, c, rfl, r, rfl, rfl⟩
  have e0 : Env0 X.prog X.w X.K X.mg X.base A X.stack s H := by
    have e := I.env0
    exact ⟨by rw [sb.fr]; exact e.frames, e.mod, e.bs, e.bsz, e.funs, e.frf, e.hok, e.bare⟩
  have hl := F.len _ _ _ _ hsp
  have r2 : Vals [V.ref a, V.ref b] [Value.ref a, Value.ref b] := .cons rfl (.cons rfl .nil)
  refine wpAny_call (codeAny_mono (F.run A X.stack s H ⟨[.ref a, .ref b], []⟩ [.ref a, .ref b] [.ref a, .ref b] _ E0 sb.room e0 (by
    have := hb s [.ref a, .ref b] I.kIn (by simpa using hl)
    simpa using this) r2 hsp) fun r s' hq => ?_)
  cases r with
  | error e => exact pass0 pins σ H s e s' I hq
  | ok fl =>
    cases fl with
    | ret w =>
      obtain ⟨z, H', I', rz, ez, eH⟩ := I.after hq
      subst ez eH
      cases rz
      exact ⟨rfl, I'⟩
    | next => exact False.elim hq
    | brk => exact False.elim hq
    | cont => exact False.elim hq
theorem op_e (M : Eq X.prog X.w X.K X.mg X.base C k R) {j : Nat} (hr : Room j X.A) (hj : k ≤ j) : OpR X (compareOp .Eq) (rE R) := by
  intro pins s σ H x y u v Q I rx ry d
  obtain ⟨a, b, c, rfl, rfl, r, hq⟩ := d
  cases rx
  cases ry
  obtain ⟨⟨dx, fs, ha⟩, dy, gs, hb'⟩ := M.ins _ _ _ _ r
  obtain ⟨mA, J, _⟩ := ins_get I.hok ha
  obtain ⟨mB, J', _⟩ := ins_get I.hok hb'
  obtain ⟨od, J, _⟩ := J.look
  obtain ⟨od', J', _⟩ := J'.look
  obtain ⟨m, hF⟩ := I.fr
  have rm : Room k X.A := hr.mono hj
  obtain ⟨f, hs, hf, hc⟩ := callE M ⟨rm, rfl⟩ I r
  show wpAny (model X.prog X.w) X.A (richCompare .Eq (.ref a) (.ref b)) (EP X pins σ Q) X.xe s
  refine PySem.W.cmp_K (op := .Eq) (tb := .ref C) rm.units0 hF I.ok.mod.kin J J'.type (by simp [PySem.W.notFirst]) hs hf (wpAny_mono hc (fun r s' q => ?_) fun _ _ z => z)
  obtain ⟨rfl, I'⟩ := q
  exact ⟨.bl _, H, I', rfl, hq⟩
end
end OE
set_option Elab.async false
set_option linter.all false
set_option maxRecDepth 100000
set_option maxHeartbeats 600000
namespace W17
open PySem L2 PySem.Spec PyProof.Rows WR WB WE WS
/-! ### sewings held against one another -/
def SewEq (K : PySem.W.Frag) (C CR CS : Addr) (H : Hp) (p q : Addr) (b : Bool) : Prop := ∃ (rp rq : Addr) (xs ys : List Addr) (ws us : List (List Int)) (mt nt : List Int), SewAt K C CR CS H p rp xs ws mt ∧ SewAt K C CR CS H q rq ys us nt ∧ b = decide (ws = us ∧ mt = nt)
abbrev sEqSx : Stmt := inClass (top 61) 1
abbrev nEqSx : List Str := ["self", "other"]
theorem scEqSx : FnScope nEqSx ["self", "other"] (defScope sEqSx) := ⟨rfl, rfl, rfl, by decide +kernel, rfl, by decide +kernel, by decide +kernel⟩
section
variable {P : Program} {w : World} {K : PySem.W.Frag} {mg : Str → Option Value} {base : Heap} {C CR CS : Addr}
theorem ok_EqSx {f : Addr} {fd : FuncData} (F : Fun K "__eq__" "Sewing.__eq__" sEqSx f fd) (N : TN mg) (T : TxW K mg C) (TC : TxRC K mg CR) (TS : TxSC K mg CS) (ER : EqR P w K mg base C CR)  : FnOk P w K mg base CX0 4 f fd ["self", "other"] (OE.spE (SewEq K C CR CS)) := by
  refine F.ok scEqSx (fun vs H Q E h => ?_) (fun cdv A outer s H vs Q E hr h => ?_)
  · obtain ⟨p, q, b, rfl, _⟩ := h
    rfl
  · obtain ⟨p, q, b, rfl, ⟨rp, rq, xs, ys, ws, us, mt, nt, S1, S2, rfl⟩, k⟩ := h
    refine ⟨_, pss_one (ps_ret (pe_and (pe_callB call_isi (by rfl) N.isinstance (by decide +kernel) (pa_cons (pv 1) (pa_cons (pe_glob (v := .ref CS) (by rfl) TS.mgS rfl) pa_nil))) (pe_and (pe_cmpR (op_eqR ER hr (by decide)) (pe_fld (pv 0) rfl) (pe_fld (pv 1) rfl) (nomark _)) (pe_one (pe_cmpR (op_eqD hr.units) (pe_fld (pv 0) rfl) (pe_fld (pv 1) rfl) (nomark _)))))), ?_⟩
    obtain ⟨dx, tm, tc, tp, h1, R1, h3, _⟩ := id S1
    obtain ⟨dy, um, uc, up, g1, R2, g3, _⟩ := id S2
    refine ⟨_, rfl, .ref q, _, _, _, _, rfl, .own CS, S2.tyx T TS, kit_self CS, _, rfl, ?_⟩
    refine iteT ?_
    refine ⟨_, rfl, p, CS, dx, _, _, rfl, h1, TS.cl, TS.n1, sf_rims, _, rfl, q, CS, dy, _, _, rfl, g1, TS.cl, TS.n1, sf_rims, rp, rq, xs, ys, ws, us, rfl, rfl, R1, R2, ?_⟩
    refine ⟨_, rfl, ?_⟩
    by_cases hw : ws = us
    · refine iteT' (decide_eq_true hw) ?_
      refine ⟨_, rfl, p, CS, dx, _, _, rfl, h1, TS.cl, TS.n2, sf_mates, _, rfl, q, CS, dy, _, _, rfl, g1, TS.cl, TS.n2, sf_mates, .tuple (mt.map .int), .tuple (nt.map .int), .tup h3.sq (dpInts mt), .tup g3.sq (dpInts nt), PySem.W.ke_shaped_ints mt, PySem.W.ke_shaped_ints nt, ?_⟩
      rw [eqv_ints]
      have : decide (ws = us ∧ mt = nt) = decide (mt = nt) := by
        rw [Bool.eq_iff_iff, decide_eq_true_iff, decide_eq_true_iff]
        exact ⟨fun h => h.2, fun h => ⟨hw, h⟩⟩
      rw [this] at k
      exact k
    · refine iteF' (decide_eq_false hw) ?_
      rw [decide_eq_false (fun h => hw h.1)] at k
      exact k
end
/-! ### a def that may raise, called by keywords alone, where nothing is raised -/
structure CalKX (P : Program) (w : World) (K : PySem.W.Frag) (mg : Str → Option Value) (base : Heap) (x : Str) (k : Nat) (ps ks : List Str) (gV : List V → List V) (sp : Sp) : Prop where
  ex : ∃ (f : Addr) (fd : FuncData) (g : List Value → List Value), FnOk P w K mg base (L2.CX P w) k f fd ps sp ∧ mg x = some (.ref f) ∧ PySem.W.keepIn K (.ref f) = true ∧ KBn K fd ps 0 ks (fun _ ws => g ws) (fun _ zs => gV zs)
def tCalKX (sp : Sp) (gV : List V → List V) (m : Nat) (tk : TA) : TE := fun σ H Q => tk σ H fun zs H2 => zs.length = m ∧ sp (gV zs) H2 Q (fun _ _ _ => False)
section
variable {X : Cx} {x : Str} {k j : Nat} {ps ks : List Str} {gV : List V → List V} {sp : Sp} {p pos : Pos} {kws : List Keyword} {tk : TA}
theorem pe_calKX (C : CalKX X.prog X.w X.K X.mg X.base x k ps ks gV sp) (hr : Room j X.A) (hkj : k ≤ j) (hg : Gl X x) (hkw : PK X kws tk) (hall : (backToKw pos (keywordEach kws X.env)).all (·.1.isSome) = true := by rfl)
    (hks : (backToKw pos (keywordEach kws X.env)).filterMap (·.1) = ks := by rfl) (hdb : (x == ("__debug__" : Str)) = false := by decide) (hpl : ((backTo pos (starEach [] X.env)).any (·.1) || (backToKw pos (keywordEach kws X.env)).any (·.1.isNone)) = false := by rfl) :
    PE X (.Call (.Name x p) [] kws pos) (tCalKX sp gV ks.length tk) := by
  obtain ⟨f, fd, g, F, hm, hk, hb⟩ := C.ex
  refine ⟨fun pins s σ H Q I h => ?_⟩
  refine wpAny_Call_Name_kw (ld_glob I hg hm ?_ hdb)
  refine PySem.W.callWith_KW0 (h₀ := X.base) I.ok.mod.kin hk hall ?_ hpl
  refine thn (hkw.run pos pins s σ H _ I h) fun ws s2 ⟨zs, H2, I2, rz, lz, q2⟩ => ⟨I2.kIn, ?_⟩
  rw [hks]
  have r2 := hb.rel (vs := []) (us := []) .nil rz
  have hl : ws.length = ks.length := by rw [← rz.length, lz]
  refine wpAny_call (codeAny_mono ((F.mono hkj).run X.A X.stack s2 H2 ⟨[], ks.zip ws⟩ (g ws) (gV zs) Q (fun _ _ _ => False) hr I2.env0 (hb.to s2 [] ws I2.kIn rfl hl) r2 q2) fun r s' hq => ?_)
  cases r with
  | error e => exact passF pins σ H2 s2 e s' I2 hq
  | ok fl =>
    cases fl with
    | ret u => exact I2.after hq
    | next => exact False.elim hq
    | brk => exact False.elim hq
    | cont => exact False.elim hq
end
end W17
set_option Elab.async false
set_option linter.all false
set_option maxRecDepth 100000
set_option maxHeartbeats 2000000
/-! try: .. except X as n: y = n: the exception is kept by a name, asked for its class and its fields later. -/
namespace CK
open PySem PySem.Spec PyProof.Rows L2 TM
/-- at a: an exception that was caught, of the class cls, its own dict at d -/
def exk (a : Addr) (cls : Value) (d : Option Addr) : HO := .ext fun h => ∃ (oe : Obj) (vs : Array Value), h.get? a = some oe ∧ Zc cls d oe ∧ oe.data = .fields vs
theorem exk_ok {P : Program} {w : World} {H : Hp} {h : Heap} {a : Addr} {cls : Value} {d : Option Addr} {oe : Obj} {vs : Array Value} (e : h.get? a = some oe) (z : Zc cls d oe) (ed : oe.data = .fields vs) : ObjOk P w H h a (exk a cls d) :=
  ⟨⟨oe, vs, e, z, ed⟩, ⟨oe, e⟩, fun _ _ ⟨o, v, q, r⟩ k => ⟨o, v, k o q, r⟩⟩
theorem exk_at {P : Program} {w : World} {H : Hp} {h : Heap} {a : Addr} {cls : Value} {d : Option Addr} (hok : HOk P w H h) (e : H a = some (exk a cls d)) : ∃ (oe : Obj) (vs : Array Value), h.get? a = some oe ∧ Zc cls d oe ∧ oe.data = .fields vs := by
  have x : ObjOk P w H h a (.ext fun h => ∃ (oe : Obj) (vs : Array Value), h.get? a = some oe ∧ Zc cls d oe ∧ oe.data = .fields vs) := hok a _ e
  exact x.1
section
variable {X : Cx} {pins : List (Addr × Obj)} {σ : L2.St} {H : Hp} {s : Shared} {a : Addr} {cls : Value} {d : Option Addr} {oe : Obj} {vs : Array Value}
/-- an object that came up since the entry is tracked -/
theorem track (I : Inv X pins σ H s) (e : s.heap.get? a = some oe) (z : Zc cls d oe) (ed : oe.data = .fields vs) (hn : H a = none) (n0 : X.s_0.heap.get? a = none) (nL : a ≠ X.env.locals) (nP : ∀ p ∈ X.pn ++ pins, p.1 ≠ a) :
    Inv X pins σ (upd H a (exk a cls d)) s := by
  have neN : ∀ b, b ≠ a → upd H a (exk a cls d) b = H b := fun b h => upd_ne h
  have ne0 : ∀ b o, X.s_0.heap.get? b = some o → b ≠ a := fun b o q z => by
    rw [z, n0] at q
    cases q
  have nC : ∀ x c, X.env.cells.lookup x = some c → c ≠ a := fun x c q z => by
    obtain ⟨v, o, ho, hd⟩ := I.cell x c q
    rw [z, e] at ho
    cases ho
    rw [ed] at hd
    cases hd
  refine ⟨I.ok, I.os, I.bare, ⟨I.base.keep, I.base.slot, fun b o q n hx => ?_, I.base.there, fun b xs q => ?_, fun b o u q => ?_, fun b ps q => ?_⟩, I.loc, I.cell, ?_, fun x c q => ?_, fun p hp => ?_, HOk.laidN I.hok (fun _ _ q => q) hn (exk_ok e z ed), I.len⟩
  · rw [neN b (ne0 b o q)]
    exact I.base.free b o q n hx
  · have q2 := I.base.tups b xs q
    rw [neN b (ne_of_none q2 hn)]
    exact q2
  · have q2 := I.base.frzs b o u q
    rw [neN b (ne_of_none q2 hn)]
    exact q2
  · obtain ⟨m, q2⟩ := I.base.tbls b ps q
    exact ⟨m, by rw [neN b (ne_of_none q2 hn)]; exact q2⟩
  · rw [neN _ nL.symm]
    exact I.free
  · rw [neN c (nC x c q)]
    exact I.freeC x c q
  · obtain ⟨h1, h2, h3⟩ := I.pin p hp
    exact ⟨h1, by rw [neN p.1 (nP p hp)]; exact h2, h3⟩
end
/-- what ends a suite, the exception kept -/
def keepS (i : Nat) (a : Addr) (cls : Value) (d : Option Addr) (D : Ends) : Ends :=
  { nx := fun σ H => D.nx (σ.set i none) (upd H a (exk a cls d)), rt := fun v H => D.rt v (upd H a (exk a cls d)), bk := fun σ H => D.bk (σ.set i none) (upd H a (exk a cls d)), ct := fun σ H => D.ct (σ.set i none) (upd H a (exk a cls d)) }
def wishK (K : PySem.W.Frag) (out : WX) (D : Ends) (i : Nat) (c : Value) (say : Addr → Value → Option Addr → TS) : WX := fun cls d σ H =>
  ∃ b, PySem.W.exmOne K cls c = some b ∧ (b = true → ∀ a, H a = none → say a cls d (keepS i a cls d D) (σ.set i (some (.ref a))) H) ∧ (b = false → out cls d σ H)
section
variable {X : Cx} {pins : List (Addr × Obj)} {σ : L2.St} {H : Hp} {D : Ends} {out : WX} {cls : Value} {d : Option Addr} {a : Addr} {B : Heap} {s0 s : Shared}
theorem away (h : Held X pins σ H cls d a B s0 s) (hs : X.stack = X.env :: X.outer) : s0.heap.get? a = none := by
  obtain ⟨o, vs, ea, z, ed⟩ := h.fly.there
  have out_ : a ∉ frs X.stack := fun hm => by
    rw [hs] at hm
    obtain ⟨_, o', e', nf⟩ := h.fly.2.2.1.mem hm
    rw [ea] at e'
    cases e'
    exact nf _ ed
  cases e : s0.heap.get? a with
  | none => rfl
  | some o =>
    have := h.old a o e out_
    rw [h.fly.2.1] at this
    cases this
theorem goesK (h : Held X pins σ H cls d a B s0 s) (hs : X.stack = X.env :: X.outer) (hf : X.env.frame = some X.env.locals) (hex : X.ex = []) (tk : Takes X out) {x n : Str} {i : Nat} {c : Value} {say : Addr → Value → Option Addr → TS} {b0 : Stmt} {bs : List Stmt} {p1 p2 : Pos}
    (hN : X.N.Nodup) (hi : X.N[i]? = some n) (hl : X.env.kindOf n = some .local) (hc : Names X x c) (hsay : Says X (b0 :: bs) say) (w : wishK X.K out D i c say cls d σ H) :
    wpAny (model X.prog X.w) X.A (handleBy (.ref a) X.env [.ExceptHandler (some (.Name x p1)) (some n) (b0 :: bs) p2]) (SP X pins D) X.xe s := by
  obtain ⟨b, eb, yes, no⟩ := w
  obtain ⟨o, ea, z, ed, S⟩ := h.pinned hf
  have aw := away h hs
  have n0 : X.s_0.heap.get? a = none := by
    cases e : X.s_0.heap.get? a with
    | none => rfl
    | some o =>
      obtain ⟨o2, q⟩ := h.inv.base.there a o e (by rw [hex]; exact fun z => nomatch z)
      rw [aw] at q
      cases q
  have nP : ∀ p ∈ X.pn ++ pins, p.1 ≠ a := fun p hp q => by
    have := (h.inv.pin p hp).1
    rw [q, aw] at this
    cases this
  have look : PySem.W.Looks (model X.prog X.w) s.heap (typeOf (.ref a)) cls := fun A Q E s' k q => wpAny_typeOf_ref (k _ _ ea) (by rw [z.1]; exact q)
  have lm := PySem.W.exm_one (M := model X.prog X.w) h.now.kIn look eb
  have named : ∀ {p : Pos} {Q : Value → Shared → Prop} {E : Value → Shared → Prop}, Q c s → wpAny (model X.prog X.w) (X.A.mark (some (.ref a))) (eval (.Name x p) X.env) Q E s := fun {p Q E} k => by
    obtain ⟨g1, g2, m | ⟨m, v, nn⟩⟩ := hc
    · exact ld_glob (X := X.suite a ((a, o) :: (X.pn ++ pins))) S g1 m k g2
    · exact ld_blt (X := X.suite a ((a, o) :: (X.pn ++ pins))) S g1 m v k nn g2
  refine wpAny_handleBy_cons (codeAny_handlers_test (named (lm.here ?_))) (by intro q; cases q)
  cases b with
  | false => exact h.pass hs hf tk (no rfl)
  | true =>
    refine codeAny_handlers_suite_as (HandSPX.lands_againZ h.fly fun h4 fl4 up4 => ?_)
    have h' : Held X pins σ H cls d a B s0 { s with heap := h4 } := ⟨h.inv, h.old, h.up.trans up4, fl4, h.os, h.bare, h.free⟩
    obtain ⟨o4, _, z4, ed4, S4⟩ := h'.pinned hf
    refine store_ok (X := X.suite a ((a, o4) :: (X.pn ++ pins))) (v := .ref a) S4 hN hi (.inl hl) rfl (fun s5 S5 => ?_) (.inr hl)
    refine wpAny_mono ((hsay a o4 cls d (X.pn ++ pins) z4 ed4).run [] s5 _ H _ S5 (yes rfl a h.free)) (fun f s6 hsp => ?_) (fun _ _ z => False.elim z)
    have ok := h.inv.ok
    have end_ : ∀ {σ6 : L2.St} {H6 : Hp} {Q : Shared → Prop}, Inv (X.suite a ((a, o4) :: (X.pn ++ pins))) [] σ6 H6 s6 → (∀ s7, Inv X pins (σ6.set i none) (upd H6 a (exk a cls d)) s7 → Q s7) →
        wpAny (model X.prog X.w) X.A (do bindName X.env n .none; unbindBehindTheSuite X.env n p2) (fun _ s7 => Q s7) X.xe s6 := fun {σ6 H6 Q} S6 hq => by
      obtain ⟨g1, g2, g3, g4, g5⟩ := S6.pin (a, o4) (List.mem_append_left _ List.mem_cons_self)
      obtain ⟨vs4, ed5⟩ := ed4
      exact gone_ok (track (S6.unsuite ok) g1 z4 ed5 g2 n0 g3 nP) hN hi hl hq
    cases f with
    | next => obtain ⟨σ6, H6, S6, q6⟩ := hsp; exact end_ S6 fun s7 J7 => ⟨_, _, J7, q6⟩
    | brk => obtain ⟨σ6, H6, S6, q6⟩ := hsp; exact end_ S6 fun s7 J7 => ⟨_, _, J7, q6⟩
    | cont => obtain ⟨σ6, H6, S6, q6⟩ := hsp; exact end_ S6 fun s7 J7 => ⟨_, _, J7, q6⟩
    | ret u => obtain ⟨v6, σ6, H6, S6, r6, q6⟩ := hsp; exact end_ S6 fun s7 J7 => ⟨_, _, _, J7, r6, q6⟩
end
section
variable {X : Cx} {body : List Stmt} {pos : Pos} {tb : WX → TS} {out : WX} {x n : Str} {i : Nat} {c : Value} {say : Addr → Value → Option Addr → TS} {b0 : Stmt} {bs : List Stmt} {p1 p2 : Pos}
theorem ps_try_keep (hs : X.stack = X.env :: X.outer) (hf : X.env.frame = some X.env.locals) (hex : X.ex = []) (tk : Takes X out)
    (hb : ∀ (W : WX) (pn : List (Addr × Obj)) (xe : Value → Shared → Prop), Takes (X.tr pn xe) W → PassesOwn (model X.prog X.w) X.A X.env xe → PSs (X.tr pn xe) body (tb W))
    (hN : X.N.Nodup) (hi : X.N[i]? = some n) (hl : X.env.kindOf n = some .local) (hc : Names X x c) (hsay : Says X (b0 :: bs) say) :
    PS X (.Try body [.ExceptHandler (some (.Name x p1)) (some n) (b0 :: bs) p2] [] [] pos) (fun D σ H => tb (wishK X.K out D i c say) D σ H) := by
  refine ⟨fun pins s σ H D I h => ?_⟩
  have ok := I.ok
  have hfr : X.A.frames = some (X.env :: X.outer) := by rw [ok.frames, hs]
  refine wpAny_Try_except (wpAny_mono ((hb (wishK X.K out D i c say) (X.pn ++ pins) (fun e s₁ => wpAny (model X.prog X.w) X.A (noteFrame e X.env) (fun _ s₂ => wpAny (model X.prog X.w) X.A (setFlight e none) (fun _ s₃ =>
    wpAny (model X.prog X.w) X.A (handleBy e X.env [.ExceptHandler (some (.Name x p1)) (some n) (b0 :: bs) p2]) (SP X pins D) X.xe s₃) X.xe s₂) X.xe s₁) (fun u s' xx => ?_) PassesOwn.looking).run [] s σ H D (I.toTry _) h) (fun f s1 hsp => ?_) (fun e s1 he => he))
  · obtain ⟨a, B, s0, pins', σ', H', cls, d, rfl, J', old, up, sky, free, os, bare, w⟩ := xx
    have sky' : Sky B (X.env :: X.outer) a (Zc cls d) X.env.locals s'.heap := by rw [← hs]; exact sky
    exact Sky.land Zc.steady hfr hf sky' fun h3 fl3 up3 => goesK (s := { s' with heap := h3 }) ⟨J'.ofTry ok, old, up.trans up3, fl3, os, bare, free⟩ hs hf hex tk hN hi hl hc hsay w
  · cases f with
    | next => obtain ⟨σ', H', J', q⟩ := hsp; exact wpAny_execs_nil ⟨σ', H', J'.ofTry ok, q⟩
    | brk => obtain ⟨σ', H', J', q⟩ := hsp; exact ⟨σ', H', J'.ofTry ok, q⟩
    | cont => obtain ⟨σ', H', J', q⟩ := hsp; exact ⟨σ', H', J'.ofTry ok, q⟩
    | ret u => obtain ⟨v, σ', H', J', r, q⟩ := hsp; exact ⟨v, σ', H', J'.ofTry ok, r, q⟩
end
/-! ### the class of an exception that has a dict of its own -/
section
open PySem.W PySem.Calls
variable {prog : Program} {w : World} {A : Around} {E : Value → Shared → Prop} {s : Shared} {K : Frag} {x D : Addr} {ox : Obj} {odo : Option Obj}
theorem clsD {Q : Option Value → Shared → Prop} (C : ExcC K D) (bnd : findObj K D odo "__class__" = some (.bind (.builtin "getset_descriptor.__get__") (.builtin "object.__class__"))) (X : K.In s.heap) (I : InstAt s.heap x ox D odo) (h : Q (some (.ref D)) { s with toks := s.toks + 1 }) :
    wpAny (model prog w) A (getAttr? (.ref x) "__class__") Q E s := by
  obtain ⟨hh, gs, dr, tk, ost⟩ := s
  have lT := I.type (M := model prog w)
  have lA := looks_findIn (M := model prog w) X C.hg
  have lB := looks_findIn (M := model prog w) X C.hk
  have lO := looks_find (M := model prog w) X I bnd
  have isB : Looks (model prog w) hh (isInstance (.ref x) (.type "BaseException")) true := lT.andThen (looks_subIn X C.hs)
  have n2 : (Value.builtin "BaseException.__getattribute__" == .builtin "object.__getattribute__") = false := by
    decide +kernel
  have n1 : (onTheHeap (Value.ref D) && Value.builtin "BaseException.__getattribute__" == .builtin "object.__getattribute__") = false := by
    rw [n2]
    rfl
  unfold getAttr? getAttrBy? getAttrBy
  refine wpAny_bind (wpAny_mkText ?_)
  refine wpAny_bind (wpAny_attempt (wpAny_holding ?_))
  refine wpAny_bind (lT.at (wpAny_bind (lA.at ?_)))
  show wpAny _ _ (if (onTheHeap (Value.ref D) && Value.builtin "BaseException.__getattribute__" == Value.builtin "object.__getattribute__") = true then _ else _) _ _ _
  rw [n1, if_neg (by decide)]
  unfold getAttrByItsOwn hookBefore
  refine wpAny_bind ?_
  rw [if_pos (by rfl)]
  refine lB.at (wpAny_bind (wpAny_attempt (wpAny_holding ?_)))
  unfold callGetattribute
  rw [if_neg (show ¬ (false && onTheHeap (Value.builtin "BaseException.__getattribute__")) = true by decide)]
  unfold boundAndCalled
  rw [PySem.F.excAttr_ValueError.ga.bind (.ref x)]
  refine wpAny_bind (wpAny_pure ?_)
  show wpAny _ _ (call (.builtin "BaseException.__getattribute__") [.ref x, .str "__class__" tk]) _ _ _
  refine wpAny_call (codeAny_call_builtin PySem.F.excAttr_ValueError.ga.plain PySem.F.entry_bexc_ga ?_)
  refine @check_slot (model prog w) _ _ ⟨hh, gs, dr, tk + 1, ost⟩ "BaseException.__getattribute__" "BaseException" "__getattribute__" (.ref x) [.str "__class__" tk] [] _ (by decide +kernel) (by decide +kernel) isB (PySem.F.args_bexc_ga (.ref x) (.str "__class__" tk)) ?_
  unfold Builtin.«object.__getattribute__»
  refine wpAny_bind (wpAny_of_eq (a := ((Value.ref x : Value), [Value.str "__class__" tk])) (by first | rfl | (simp only [slotArgs]; rfl)) ?_)
  refine wpAny_bind (wpAny_pure (wpAny_bind (lT.at (wpAny_bind (lO.at ?_)))))
  show wpAny _ _ (holding [Value.builtin "object.__class__"] (call (.builtin "getset_descriptor.__get__") [.builtin "object.__class__", .ref x, .ref D]) >>= ret) _ _ _
  refine wpAny_bind (wpAny_holding (wpAny_call (class_get (s := ⟨hh, gs, dr, tk + 1, ost⟩) X I C.hm (wpAny_pure ?_))))
  show wpAny _ _ (handedOut (.ref D)) _ _ _
  rw [handedOut_of (v := .ref D) rfl]
  first
    | exact wpAny_pure (wpAny_pure h)
    | exact wpAny_pure (wpAny_bind (wpAny_pure (wpAny_pure h)))
    | exact wpAny_pure h
theorem kitD {od : Obj} (C : ExcC K D) : KitX K (.ref x) (.ref D) (fun h => InstAt h x ox D (some od)) where
  ty := fun _ _ _ I => I.type
  it := fun _ _ X _ => by
    obtain ⟨cd, hc, _⟩ := any_some C.hd
    unfold clsIn at hc
    split at hc
    · rename_i c1 d1 cd1 sl1 ho
      intro A' Q' E' s' k q
      unfold isType loadHead
      exact wpAny_bind (wpAny_loadPart (k _ _ (X _ _ ho)) (wpAny_pure q))
    · cases hc
  ne := fun h tp dd its n sl X htp => by
    obtain ⟨cd, hc, _⟩ := any_some C.hd
    refine Bool.eq_false_iff.mpr fun q => ?_
    have e : D = tp := Value.ref.inj (beq_iff_eq.mp q)
    subst e
    unfold clsIn at hc
    split at hc
    · rename_i c1 d1 cd1 sl1 ho
      cases (X _ _ ho).symm.trans htp
    · cases hc
  ca := fun X I k => clsD C (findObj_data (by obtain ⟨cd, hc, _⟩ := any_some C.hd; rw [hc] <;> rfl) C.ha C.hn C.ht) X I k
end
section
variable {X : Cx}
/-! ### asked later -/
/-- isinstance(x, c), x any value or an exception that was kept -/
def rIsC (K : PySem.W.Frag) : List V → Hp → VK → Prop := fun xs H Q => rIsi K xs H Q ∨ ∃ (a D dd : Addr) (fs : List (Str × V)) (c : V) (cv : Value) (b : Bool), xs = [.ref a, c] ∧ H a = some (exk a (.ref D) (some dd)) ∧ H dd = some (.xd fs) ∧ ExcC K D ∧ (∀ u, RelV c u → u = cv) ∧ PySem.W.kitOne K (.ref D) cv = some b ∧ Q (.bl b) H
theorem call_isC : CallR X (.builtin "isinstance") (rIsC X.K) := by
  intro pins s σ H xs us Q I r h
  rcases h with h | ⟨a, D, dd, fs, c, cv, b, rfl, ha, hdd, C, hcv, e, q⟩
  · exact call_isi pins s σ H xs us Q I r h
  · cases r with
    | cons rx rr =>
      cases rr with
      | cons rt rr =>
        cases rr
        cases rx
        have ec := hcv _ rt
        subst ec
        obtain ⟨oe, vs, hget, hz, hv⟩ := exk_at I.hok ha
        obtain ⟨mA, hns, hr⟩ := (show ObjOk X.prog X.w H s.heap dd (.xd fs) from I.hok dd _ hdd)
        obtain ⟨od, ho, hl⟩ := lookIn_ns hns
        have J : PySem.W.InstAt s.heap a oe D (some od) := ⟨hget, hz.1, by unfold PySem.W.notCls; rw [hv] <;> rfl, by rw [hz.2]; exact ho⟩
        exact PySem.W.kia_one (kitD C) I.kIn J e (fun z => nomatch z) fun tk => ⟨.bl b, H, I.tok tk, rfl, q⟩
/-- y.f, y an exception that was kept -/
def tKf (C : Addr) (f : Str) (te : TE) : TE := fun σ H Q => te σ H fun x H1 => ∃ (a dd : Addr) (fs : List (Str × V)) (v : V), x = .ref a ∧ H1 a = some (exk a (.ref C) (some dd)) ∧ H1 dd = some (.xd fs) ∧ fs.lookup f = some v ∧ Q v H1
theorem pe_kf {C : Addr} {e : Expr} {te : TE} {pos : Pos} {f : Str} (T : XfC X.K C) (hno : PySem.W.findIn X.K (.ref C) f = some none) (he : PE X e te) (hb : attributeBase e f X.env (eval e X.env) = eval e X.env := by rfl) :
    PE X (.Attribute e f pos) (tKf C f te) := by
  refine ⟨fun pins s σ H Q I h => ?_⟩
  refine attr_of hb (thn (he.run pins s σ H _ I h) fun u s1 hh => ?_)
  obtain ⟨x, H1, I1, rx, a, dd, fs, v, ex, hA, ea, l, q⟩ := hh
  subst ex
  obtain rfl : u = Value.ref a := rx
  obtain ⟨oe, vs, ha, hz, hd⟩ := exk_at I1.hok hA
  have hx : ObjOk X.prog X.w H1 s1.heap dd (.xd fs) := I1.hok dd _ ea
  obtain ⟨mA, hns, hr⟩ := hx
  obtain ⟨od, ho, hl⟩ := lookIn_ns hns
  obtain ⟨u, hu, ru⟩ := RelO.some_of (v := v) (o := mA f) (by rw [← l]; exact hr f)
  have J : PySem.W.InstAt s1.heap a oe C (some od) := ⟨ha, hz.1, by unfold PySem.W.notCls; rw [hd] <;> rfl, by rw [hz.2]; exact ho⟩
  exact HandSPX.exc_get I1.kIn J T.ga T.gg T.exC (PySem.W.findObj_own T.hdC hno rfl (by rw [hl, hu])) (handed_of ru) ⟨v, H1, I1.tok _, ru, q⟩
end
end CK
set_option Elab.async false
set_option linter.all false
set_option maxRecDepth 100000
set_option maxHeartbeats 600000
/-! repr of any data; isinstance of a kept exception against a tuple of classes. -/
namespace RA
open PySem L2 PySem.Spec PyProof.Rows
mutual
theorem dp_same {K : PySem.W.Frag} {H H' : Hp} (s : ∀ b o, H b = some o → H' b = some o) : ∀ {v : V} (d : PyData), Dp K H v d → Dp K H' v d
  | _, .none, h => by cases h; exact .non
  | _, .bool _, h => by cases h; exact .bl _
  | _, .int _, h => by cases h; exact .int _
  | _, .str _, h => by cases h; exact .str _
  | _, .list ds, h => by
    cases h with
    | lst h1 h2 => exact .lst (Same.seq s h1) (dp_sameA s ds h2)
  | _, .tuple ds, h => by
    cases h with
    | tup h1 h2 => exact .tup (WR.Same.seqT s h1) (dp_sameA s ds h2)
  | _, .dict _, h => by cases h
theorem dp_sameA {K : PySem.W.Frag} {H H' : Hp} (s : ∀ b o, H b = some o → H' b = some o) : ∀ {vs : List V} (ds : List PyData), DpAll K H vs ds → DpAll K H' vs ds
  | _, [], h => by cases h; exact .nil
  | _, d :: ds, h => by
    cases h with
    | cons h1 h2 => exact .cons (dp_same s d h1) (dp_sameA s ds h2)
end
/-- repr shows it -/
def Shw (d : PyData) : Prop := d.showable = true ∧ d.hasDict = false ∧ d.depth ≤ 30 ∧ d.shown.length ≤ sizeLine
def rReprA (K : PySem.W.Frag) : List V → Hp → VK → Prop := fun xs H Q => ∃ (x : V) (d : PyData), xs = [x] ∧ Dp K H x d ∧ Shw d ∧ Q (.str d.shown) H
variable {X : Cx}
theorem call_reprA (hg : X.A.guards = some []) (hu : X.A.units + 40 < cLine) : CallR X (.builtin "repr") (rReprA X.K) := by
  intro pins s σ H xs us Q I rel ask
  obtain ⟨x, d, rfl, hd, ⟨hs, hn, hdep, hz⟩, q⟩ := ask
  cases hd with
  | non =>
    obtain ⟨u, rfl, ru⟩ := vals1 rel
    cases ru
    exact PySem.P.repr_of_none ⟨.str _, H, I.tok _, ⟨_, rfl⟩, q⟩
  | bl b =>
    obtain ⟨u, rfl, ru⟩ := vals1 rel
    cases ru
    exact PySem.P.repr_of_bool ⟨.str _, H, I.tok _, ⟨_, by cases b <;> rfl⟩, q⟩
  | int i =>
    obtain ⟨u, rfl, t, rfl⟩ := vals1 rel
    exact PySem.P.repr_of_int (by simpa [PyData.showable] using hs) ⟨.str _, H, I.tok _, ⟨_, rfl⟩, q⟩
  | str z =>
    obtain ⟨u, rfl, t, rfl⟩ := vals1 rel
    exact PySem.P.repr_of_str ⟨.str _, H, I.tok _, ⟨_, rfl⟩, q⟩ hz
  | lst h1 h2 => exact RG.call_repr hg hu pins s σ H _ us Q I rel ⟨_, _, rfl, .lst h1 h2, hs, hn, hdep, hz, q⟩
  | tup h1 h2 => exact RG.call_repr hg hu pins s σ H _ us Q I rel ⟨_, _, rfl, .tup h1 h2, hs, hn, hdep, hz, q⟩
theorem pe_either {e : Expr} {t1 t2 : TE} (h1 : PE X e t1) (h2 : PE X e t2) : PE X e (fun σ H Q => t1 σ H Q ∨ t2 σ H Q) := by
  refine ⟨fun pins s σ H Q I h => ?_⟩
  rcases h with h | h
  · exact h1.run pins s σ H Q I h
  · exact h2.run pins s σ H Q I h
open CK in
/-- isinstance(x, (c1, c2)), x any value or an exception that was kept -/
def rIsCT (K : PySem.W.Frag) : List V → Hp → VK → Prop := fun xs H Q => rIsiT K xs H Q ∨ ∃ (a D dd tp : Addr) (fs : List (Str × V)) (cs : List V) (us : List Value) (b : Bool), xs = [.ref a, .ref tp] ∧ H a = some (exk a (.ref D) (some dd)) ∧ H dd = some (.xd fs) ∧ ExcC K D ∧ H tp = some (.tup cs) ∧ Paired ClsV cs us ∧ PySem.W.kitAny K (.ref D) us = some b ∧ Q (.bl b) H
open CK in
theorem call_isCT : CallR X (.builtin "isinstance") (rIsCT X.K) := by
  intro pins s σ H xs us Q I r h
  rcases h with h | ⟨a, D, dd, tp, fs, cs, ws, b, rfl, ha, hdd, C, hT, k, e, q⟩
  · exact call_isiT pins s σ H xs us Q I r h
  · obtain ⟨u1, u2, rfl, r1, r2⟩ := vals2 r
    cases (show u2 = Value.ref tp from r2)
    obtain rfl : u1 = Value.ref a := r1
    obtain ⟨oe, vs, hget, hz, hv⟩ := exk_at I.hok ha
    obtain ⟨mA, hns, hr⟩ := (show ObjOk X.prog X.w H s.heap dd (.xd fs) from I.hok dd _ hdd)
    obtain ⟨od, ho, hl⟩ := lookIn_ns hns
    have J : PySem.W.InstAt s.heap a oe D (some od) := ⟨hget, hz.1, by unfold PySem.W.notCls; rw [hv] <;> rfl, by rw [hz.2]; exact ho⟩
    obtain ⟨_, its, rv, o, h1, h2, n, h3⟩ := (show ObjOk X.prog X.w H s.heap tp (.tup cs) from I.hok tp _ hT)
    have e3 := ClsV.all k rv
    subst e3
    obtain ⟨oc, od2, dt, sl⟩ := o
    simp only at h2 h3
    subst h2 h3
    exact PySem.W.kia_tup (kitD C) I.kIn J h1 e (fun z => nomatch z) fun tk => ⟨.bl b, H, I.tok tk, rfl, q⟩
end RA
set_option Elab.async false
set_option linter.all false
set_option maxRecDepth 100000
set_option maxHeartbeats 1000000
namespace W17
open PySem L2 PySem.Spec PyProof.Rows WR WB WE WS
/-! ### errors besides; what needs a letter, few places -/
def spI2 (C : Addr) : Sp := fun vs H Q _ => ∃ (a : Addr) (v u : V), vs = [.ref a, v, u] ∧ H a = some (exo a C none) ∧ ∀ dx, H dx = none → dx ≠ a → Q .non (L2.upd (L2.upd (L2.upd H dx (exd dx [("what", v)])) a (exo a C (some dx))) dx (exd dx [("most", u), ("what", v)]))
theorem heap2 {H : Hp} {a d : Addr} {e1 e2 e3 e4 o : HO} (ha : H a = none) (hd : d ≠ a) : L2.upd (del (L2.upd (L2.upd (L2.upd (L2.upd H a e1) d e2) a e3) d e4) a) d o = L2.upd H d o := by
  funext b
  by_cases h1 : b = d
  · subst h1
    rw [upd_same, upd_same]
  · rw [upd_ne h1, upd_ne h1]
    by_cases h2 : b = a
    · subst h2
      rw [del_same, ha]
    · rw [del_ne h2, upd_ne h1, upd_ne h2, upd_ne h1, upd_ne h2]
theorem mk2 {C : Addr} {H : Hp} {v u : V} {Q : XK} (k : ∀ d, H d = none → Q (.ref C) (some d) (L2.upd H d (.xd [("most", u), ("what", v)]))) : ∀ a, H a = none → spI2 C [.ref a, v, u] (L2.upd H a (exo a C none))
    (fun z H2 => z = .non ∧ ∃ (d : Addr) (fs : List (Str × V)), H2 a = some (exo a C (some d)) ∧ H2 d = some (exd d fs) ∧ H d = none ∧ Q (.ref C) (some d) (L2.upd (del H2 a) d (.xd fs))) (fun _ _ _ => False) := by
  intro a ha
  refine ⟨a, v, u, rfl, upd_same, fun dx h1 h2 => ⟨rfl, dx, _, by rw [upd_ne h2.symm, upd_same], upd_same, by rw [upd_ne h2] at h1; exact h1, ?_⟩⟩
  rw [heap2 ha h2]
  exact k dx (by rw [upd_ne h2] at h1; exact h1)
abbrev sInitNL : Stmt := inClass (top 9) 0
abbrev sInitTM : Stmt := inClass (top 11) 0
abbrev nInitNL : List Str := ["self", "value"]
theorem scInitNL : FnScope nInitNL ["self", "value"] (defScope sInitNL) := ⟨rfl, rfl, rfl, by decide +kernel, rfl, by decide +kernel, by decide +kernel⟩
abbrev nInitTM : List Str := ["self", "what", "most"]
theorem scInitTM : FnScope nInitTM ["self", "what", "most"] (defScope sInitTM) := ⟨rfl, rfl, rfl, by decide +kernel, rfl, by decide +kernel, by decide +kernel⟩
section
variable {P : Program} {w : World} {K : PySem.W.Frag} {mg : Str → Option Value} {base : Heap}
theorem ok_initNL {C CM g f : Addr} {mc : Value} {fd fdm : FuncData} (F : Fun K "__init__" "NoLetter.__init__" sInitNL f fd) (hM : mg "Missing" = some (.ref CM)) (c : CF.CFn K CM mc "__init__" g) (FM : FnOk P w K mg base CX0 1 g fdm ["self", "value"] (spI1 "value" C)) (bM : Binds K fdm ["self", "value"] []) : FnOk P w K mg base CX0 2 f fd ["self", "value"] (spI1 "value" C) := by
  refine F.ok scInitNL (fun vs H Q E h => ?_) (fun cdv A outer s H vs Q E hr h => ?_)
  · obtain ⟨a, v, rfl, _⟩ := h
    rfl
  · obtain ⟨a, v, rfl, hA, k⟩ := h
    refine ⟨_, pss_one (ps_expr (CF.pe_cfn (pe_glob (v := .ref CM) (by rfl) hM rfl) c FM hr bM (pa_cons (pv 0) (pa_cons (pv 1) pa_nil)))), ?_⟩
    exact ⟨rfl, _, rfl, _, rfl, a, v, rfl, hA, fun dx h1 h2 => k dx h1 h2⟩
theorem ok_initTM {C f : Addr} {fd : FuncData} (F : Fun K "__init__" "TooMany.__init__" sInitTM f fd) (O : OexC K C) (n1 : PySem.W.findIn K (.ref C) "what" = some none) (n2 : PySem.W.findIn K (.ref C) "most" = some none) : FnOk P w K mg base CX0 1 f fd ["self", "what", "most"] (spI2 C) := by
  refine F.ok scInitTM (fun vs H Q E h => ?_) (fun cdv A outer s H vs Q E hr h => ?_)
  · obtain ⟨a, v, u, rfl, _⟩ := h
    rfl
  · obtain ⟨a, v, u, rfl, hA, k⟩ := h
    refine ⟨_, pss_cons (ps_ost (pv 0) (pv 1)) (pss_one (ps_ost (pv 0) (pv 2))), ?_⟩
    refine ⟨_, rfl, _, rfl, a, C, rfl, O, n1, .inl ⟨hA, fun dx h1 h2 => ?_⟩⟩
    refine ⟨_, rfl, _, rfl, a, C, rfl, O, n2, .inr ⟨dx, _, upd_same, by rw [upd_ne h2, upd_same], by show 1 ≤ 900; decide, k dx h1 h2⟩⟩
end
/-- too many of what there are -/
abbrev BadM (C : Addr) (E : XK) (H : Hp) (wh : V) (n : Int) : Prop := ∀ H1, Same H H1 → ∀ d, H1 d = none → E (.ref C) (some d) (L2.upd H1 d (.xd [("most", .int n), ("what", wh)]))
def spFewPX (CTM : Addr) : Sp := fun vs H Q E => ∃ n : Int, vs = [.int n] ∧ (n ≤ 24 → Q .non H) ∧ (24 < n → BadM CTM E H (.str "letters") 24)
abbrev sNeedL : Stmt := top 26
abbrev nNeedL : List Str := ["value"]
theorem scNeedL : FnScope nNeedL ["value"] (defScope sNeedL) := ⟨rfl, rfl, rfl, by decide +kernel, rfl, by decide +kernel, by decide +kernel⟩
def spNeedL (CNL : Addr) : Sp := fun vs H Q E => ∃ (x : V) (t : String), vs = [x] ∧ Typ H x t ∧ (letterB x = false → Bad "value" CNL E H x) ∧ (letterB x = true → Q .non H)
def spInitRX (K : PySem.W.Frag) (C CR CTM : Addr) : Sp := fun vs H Q E => ∃ (H0 : Hp) (p dx a : Addr) (xs : List Addr) (ws : List (List Int)), vs = [.ref p, .ref a] ∧ Same H0 H ∧ H0 p = none ∧ H p = some (.ins CR dx []) ∧ SqL K H0 a (xs.map V.ref) ∧ Wds K C H0 xs ws ∧
  1 ≤ ws.length ∧ ws.length ≤ 4 ∧ (∀ w ∈ ws, w ≠ []) ∧ 24 < ws.flatten.length ∧ ws.flatten.length ≤ 60 ∧ BadM CTM E H (.str "letters") 24
section
variable {P : Program} {w : World} {K : PySem.W.Frag} {mg : Str → Option Value} {base : Heap} {C CR CTM CNL : Addr}
theorem ok_fewPX {f : Addr} {fd : FuncData} (F : Fun K "need_few_places" "need_few_places" sFewP f fd) (T : TxR mg) (ET : ErrC P w K mg base CTM "TooMany" ["self", "what", "most"] (spI2 CTM)) : FnOk P w K mg base (L2.CX P w) 4 f fd ["many"] (spFewPX CTM) := by
  refine F.okX scFewP (fun vs H Q E h => ?_) (fun cdv A outer s H vs Q E hr h => ?_)
  · obtain ⟨n, rfl, _⟩ := h
    rfl
  · obtain ⟨n, rfl, k1, k2⟩ := h
    obtain ⟨tk, mM⟩ := T.places
    obtain ⟨fI, fdI, iC, tI, FI, bI⟩ := ET.ini
    refine ⟨_, pss_one (ps_if (pt_cmpR op_gt (pv 0) (pe_glob (v := .int 24) (by rfl) mM ⟨_, rfl⟩) (nomark _)) (pss_one (ps_raise rfl (takes_of rfl rfl rfl rfl) (pmk_oex (dvs := []) ET.oex iC tI FI (hr.mono (by decide)) bI .nil pass0 (by rfl) ET.g (pa_cons pe_str (pa_cons (pe_glob (v := .int 24) (by rfl) mM ⟨_, rfl⟩) pa_nil))))) pss_nil), ?_⟩
    refine ⟨_, rfl, _, _, rfl, rfl, _, rfl, ?_⟩
    refine ite2 (fun h => ?_) (fun h => ?_)
    · exact ⟨by show 2 ≤ 1000; decide, mk2 (Q := fun cls d H' => E cls d H') fun d hd => k2 (of_decide_eq_true h) H (fun _ _ e => e) d hd⟩
    · exact k1 (by have := of_decide_eq_false (Bool.eq_false_iff.mpr h); omega)
theorem ok_needL {f : Addr} {fd : FuncData} (F : Fun K "need_letter" "need_letter" sNeedL f fd) (G : Cal P w K mg base "is_letter" 3 ["value"] spLetter) (NL : ErrC P w K mg base CNL "NoLetter" ["self", "value"] (spI1 "value" CNL)) : FnOk P w K mg base (L2.CX P w) 4 f fd ["value"] (spNeedL CNL) := by
  refine F.okX scNeedL (fun vs H Q E h => ?_) (fun cdv A outer s H vs Q E hr h => ?_)
  · obtain ⟨x, t, rfl, _⟩ := h
    rfl
  · obtain ⟨x, t, rfl, ht, k1, k2⟩ := h
    obtain ⟨fI, fdI, iC, tI, FI, bI⟩ := NL.ini
    refine ⟨_, pss_one (ps_if (pt_not (pt_val (pe_cal G hr (by decide) (by rfl) (pa_cons (pv 0) pa_nil)))) (pss_one (ps_raise rfl (takes_of rfl rfl rfl rfl) (pmk_oex (dvs := []) NL.oex iC tI FI (hr.mono (by decide)) bI .nil pass0 (by rfl) NL.g (pa_cons (pv 0) pa_nil)))) pss_nil), ?_⟩
    refine ⟨_, rfl, x, t, rfl, ht, _, rfl, ?_⟩
    show if (!letterB x) = true then _ else _
    cases hb : letterB x with
    | true => exact iteF (k2 hb)
    | false => exact iteT ⟨_, rfl, by show 1 ≤ 1000; decide, mk1 (Q := fun cls d H' => E cls d H') fun d hd => k1 hb H (Same.refl _) d hd⟩
theorem ok_initRX {f : Addr} {fd : FuncData} (F : Fun K "__init__" "Rims.__init__" sInitR f fd) (T : TxW K mg C) (TC : TxRC K mg CR) (TA : TxA mg) (R : TxR mg) (GL : Cal P w K mg base "is_listed" 1 ["value"] (spListE K)) (GF : Cal P w K mg base "is_filled" 1 ["value"] (spFilled K C))
    (GP : CalX P w K mg base "need_few_places" 4 ["many"] (spFewPX CTM)) (GB : Cal P w K mg base "need_balanced" 3 ["letters"] (spNeedB K)) (GN : Cal P w K mg base "nexts_of" 1 ["words"] (spNexts K C)) :
    FnOk P w K mg base (L2.CX P w) 5 f fd ["self", "words"] (spInitRX K C CR CTM) := by
  refine F.okX scInitR (fun vs H Q E h => ?_) (fun cdv A outer s H vs Q E hr h => ?_)
  · obtain ⟨H0, p, dx, a, xs, ws, rfl, _⟩ := h
    rfl
  · obtain ⟨H0, p, dx, a, xs, ws, rfl, s0, p0, hp, hS, hW, l1, l4, hne, l24, l60, k⟩ := h
    obtain ⟨tW, mW⟩ := R.words
    refine ⟨_, pss_cons (ps_if (PW.pt (pw_or (pt_not (pt_val (pe_cal GL hr (by decide) (by rfl) (pa_cons (pv 1) pa_nil)))) (pw_or1 (pt_not (pt_chain op_le op_le pe_int (pe_callB call_len_seq (by rfl) TA.len PySem.boot_len (pa_cons (pv 1) pa_nil)) (pe_glob (v := .int 4) (by rfl) mW ⟨_, rfl⟩)))))) (pss_one ps_never) pss_nil)
      (pss_cons (ps_if (pt_not (pt_val (pe_callB (cr_all rfl) (by rfl) T.all (by decide +kernel) (pa_cons (pe_lc (own := [("word", 3)]) (g := gName 3) (tt := tYes) rfl scInitR.nd (pi_list (pv 1))
          (blkOk_by (N := nInitR) (sc := defScope sInitR) (by decide +kernel)) (fun _ _ _ _ _ => pg_name (i := 3) scInitR.nd rfl (Or.inl rfl)) (fun _ _ _ _ _ => pts_nil)
          (fun _ _ _ _ _ => pe_cal GF hr (by decide) (by rfl) (pa_cons (pv 3) pa_nil))) pa_nil)))) (pss_one ps_never) pss_nil)
      (pss_cons (ps_setLc2 (i := 2) (own := [("word", 3), ("letter", 4)]) (vs1 := [4]) (g := gName 3) (tt := tYes) (g1 := gName 4) (tt1 := tYes) rfl scInitR.nd rfl rfl (sw_true rfl rfl rfl (by decide +kernel)) (pi_list (pv 1))
          (blkOk_by (N := nInitR) (sc := defScope sInitR) (by decide +kernel)) (by decide) (fun _ _ _ _ _ => pg_name (i := 3) scInitR.nd rfl (Or.inl rfl)) (fun _ _ _ _ _ => pts_nil)
          (fun _ _ _ _ _ => pi_tupK (K := K) rfl (pe_fldK (K := K) rfl (pv 3) rfl)) (fun _ _ _ _ _ => pg_name (i := 4) scInitR.nd rfl (Or.inl rfl)) (fun _ _ _ _ _ => pts_nil) (fun _ _ _ _ _ => pv 4))
      (pss_cons (ps_expr (pe_calX GP hr (by decide) (passes_call (takes_of rfl rfl rfl rfl) (fun _ _ _ _ h => h)) (by rfl) (pa_cons (pe_callB call_len_seq (by rfl) TA.len PySem.boot_len (pa_cons (pv 2) pa_nil)) pa_nil)))
      (pss_cons (ps_expr (pe_cal GB hr (by decide) (by rfl) (pa_cons (pv 2) pa_nil)))
      (pss_cons (ps_fld (pv 0) (pe_callTy call_tupB (by rfl) TA.tuple (by decide +kernel) (pa_cons (pv 1) pa_nil)) rfl)
      (pss_cons (ps_fld (pv 0) (pe_callTy call_tupB (by rfl) TA.tuple (by decide +kernel) (pa_cons (pv 2) pa_nil)) rfl)
      (pss_cons (ps_fld (pv 0) (pe_callB call_len_seq (by rfl) TA.len PySem.boot_len (pa_cons (pv 2) pa_nil)) rfl)
      (pss_cons (ps_fld (pv 0) (pe_op op_fdiv (pe_callB call_len_seq (by rfl) TA.len PySem.boot_len (pa_cons (pv 2) pa_nil)) pe_int) rfl)
      (pss_cons (ps_fld (pv 0) (pe_callB (cr_all rfl) (by rfl) T.all (by decide +kernel) (pa_cons (pe_lc (own := [("word", 3)]) (g := gName 3) (tt := tYes) rfl scInitR.nd (pi_list (pv 1))
          (blkOk_by (N := nInitR) (sc := defScope sInitR) (by decide +kernel)) (fun _ _ _ _ _ => pg_name (i := 3) scInitR.nd rfl (Or.inl rfl)) (fun _ _ _ _ _ => pts_nil)
          (fun _ _ _ _ _ => pe_fldK (K := K) rfl (pv 3) rfl)) pa_nil)) rfl)
      (pss_cons (ps_fld (pv 0) (pe_callTy call_tupB (by rfl) TA.tuple (by decide +kernel) (pa_cons (pe_lc2 (own := [("home", 5), ("word", 3), ("_", 6)]) (vs1 := [6]) (g := gTup K 2 (gCons (gName 5) (gCons (gName 3) gNil))) (tt := tYes) (g1 := gName 6) (tt1 := tYes) rfl scInitR.nd (pi_enum (by rfl) R.enum (pa_cons (pv 1) pa_nil))
          (blkOk_by (N := nInitR) (sc := defScope sInitR) (by decide +kernel)) (by decide) (fun _ _ _ _ _ => pg_tup (n := 2) rfl (pgs_cons (pg_name (i := 5) scInitR.nd rfl (Or.inl rfl)) (pgs_cons (pg_name (i := 3) scInitR.nd rfl (Or.inl rfl)) pgs_nil))) (fun _ _ _ _ _ => pts_nil)
          (fun _ _ _ _ _ => pi_tupK (K := K) rfl (pe_fldK (K := K) rfl (pv 3) rfl)) (fun _ _ _ _ _ => pg_name (i := 6) scInitR.nd rfl (Or.inl rfl)) (fun _ _ _ _ _ => pts_nil) (fun _ _ _ _ _ => pv 5)) pa_nil)) rfl)
      (pss_one (ps_fld (pv 0) (pe_cal GN hr (by decide) (by rfl) (pa_cons (pv 1) pa_nil)) rfl)))))))))))), ?_⟩
    have lxw : xs.length = ws.length := hW.length
    have E0 : SqE K H0 a (xs.map V.ref) := .inl hS
    refine ⟨_, rfl, a, _, rfl, E0.same s0, fun H1 s1 => ⟨_, rfl, ?_⟩⟩
    have s01 := s0.trans s1
    refine iteF ?_
    have hp1 := s1 _ _ hp
    refine ⟨_, rfl, a, _, rfl, .inl (s01.seq hS), _, _, rfl, rfl, _, rfl, iteT' (decide_eq_true (by rw [List.length_map, lxw]; omega)) ⟨_, _, rfl, rfl, _, rfl, no_ne (decide_eq_true (by rw [List.length_map, lxw]; omega)) ?_⟩⟩
    refine nx_not_lc ?_
    refine ⟨_, rfl, a, rfl, ⟨_, s01.seq hS⟩, ?_⟩
    refine lcp (walk_list (xs := xs.map V.ref)) (fun _ => true) (fun _ => V.bl true) (by rw [List.length_map]; omega) (fun H2 s => (s01.trans s).seq hS) ?_ ?_
    · intro x hx H2 s2 Qy Qn ky kn
      obtain ⟨q, hq, rfl⟩ := List.mem_map.mp hx
      obtain ⟨u, hu, Wq⟩ := All2.mem hW hq
      have up : 0 < u.length := List.length_pos_iff.mpr (hne u hu)
      refine ⟨rfl, yes_te ⟨_, rfl, q, u, rfl, Wq.same (s01.trans s2), ?_⟩⟩
      rw [decide_eq_true (show (0 : Int) < (u.length : Int) by omega)]
      exact ky rfl H2 (fun _ _ e => e)
    intro D1 H2 hD1 s2 h2
    have s02 := s01.trans s2
    have hp2 := s2 _ _ hp1
    refine ⟨D1, xs.map fun _ => true, rfl, SqL.of (by
      rw [h2, List.filter_eq_self.mpr (fun _ _ => rfl), List.map_map, List.map_map]
      rfl), ?_⟩
    have eall : (xs.map fun _ => true).all id = true := by
      rw [List.all_eq_true]
      intro b hb
      obtain ⟨_, _, rfl⟩ := List.mem_map.mp hb
      rfl
    rw [eall]
    refine ⟨_, rfl, iteF ?_⟩
    refine nx_lc2 ?_
    refine ⟨_, rfl, a, rfl, ⟨_, s02.seq hS⟩, ?_⟩
    refine lc2_out (walk_list (xs := xs.map V.ref)) (fun i => iv (ws.getD i [])) (fun H s => (s02.trans s).seq hS) ?_ ?_
    · rintro i x D H H' hi ⟨rfl, hx⟩ hD sm hDD Nx kN
      obtain ⟨q, hq, rfl⟩ : ∃ q, xs[i]? = some q ∧ x = V.ref q := by
        rw [List.getElem?_map] at hx
        cases e : xs[i]? with
        | none => rw [e] at hx; cases hx
        | some q => rw [e] at hx; exact ⟨q, rfl, (Option.some.inj hx).symm⟩
      obtain ⟨u, hu, Wq⟩ := hW.at hq
      have eu : ws.getD i [] = u := by rw [List.getD_eq_getElem?_getD, hu]; rfl
      obtain ⟨dx1, tl, tk, ks, w1, w2, _⟩ := Wq.same s02
      refine ⟨rfl, yes_te ?_⟩
      refine ⟨_, rfl, q, C, dx1, _, _, rfl, sm _ _ w1, T.cl, T.nL, wf_letters, tl, rfl, ⟨_, WR.Same.seqT sm w2.sq⟩, ?_⟩
      have hft := flat_take hu
      refine lc2_in (walk_tup (xs := iv u)) (fun y => y) hD sm hDD ?_ (fun H s => ?_) ?_ ?_
      · rw [flat_to (by have := (List.getElem?_eq_some_iff.mp hu).1; omega)]
        rw [List.length_map, List.length_map]
        omega
      · exact WR.Same.seqT s w2.sq
      · intro y hy H2 s2 Qy ky Qn
        exact ⟨rfl, yes_te ⟨_, rfl, ky H2 (fun _ _ e => e)⟩⟩
      · intro H2 s2 h2
        refine kN H2 s2 ?_
        rw [h2, List.map_id', eu]
    intro D H3 hD s3 h3
    have eD : ((List.range (xs.map V.ref).length).map fun i => iv (ws.getD i [])).flatten = iv ws.flatten := by
      rw [List.length_map, lxw, flat_to (Nat.le_refl _), List.take_length]
    rw [eD] at h3
    refine at_set ?_
    try dsimp only
    have s03 := s02.trans s3
    have hp3 := s3 _ _ hp2
    have elen : ((iv ws.flatten).length : Int) = (ws.flatten.length : Int) := by rw [List.length_map]
    exact ⟨_, rfl, D, _, rfl, .inl (SqL.of h3), _, rfl, (fun h => absurd h (by rw [elen]; omega)), fun _ H4 s4 => k H4 ((s1.trans (s2.trans s3)).trans s4)⟩
end
end W17
set_option Elab.async false
set_option linter.all false
set_option maxRecDepth 100000
set_option maxHeartbeats 4000000
/-! set(a tuple of ints). -/
namespace WST
open PySem PySem.Spec PyProof.Rows L2 WS
section
variable {P : Program} {w : World} {A : Around} {E : Value → Shared → Prop} {s : Shared}
/-- the heap with the new set, and with the walk of the list besides -/
abbrev hSetT (w : World) (s : Shared) : Heap := s.heap.push (bareSet w)
abbrev hWalk (w : World) (s : Shared) (l : Addr) : Heap := (hSetT w s).push { cls := .type "tuple_iterator", data := .fields #[.ref l, .int 0 0] }
theorem bare_zero {h : Heap} {a : Addr} {ns : List Int} (e : h.get? a = some (bareSet w)) : SetR w h a (fun j => decide (j ∈ ns.take 0)) 0 := setR_new_at e
/-- what set.__init__ leaves -/
def Filled (w : World) (s : Shared) (ns : List Int) (t : Shared) : Prop :=
  ∃ (g : Heap) (k m : Nat), t = { s with heap := g, toks := k } ∧ SetR w g s.heap.objs.size (fun j => decide (j ∈ ns)) m ∧ m ≤ ns.length ∧ ∀ b o, s.heap.get? b = some o → g.get? b = some o
theorem init_tup {l : Addr} {its : Array Value} {ns : List Int} (quiet : A.handled = none) (hl : s.heap.IsTuple l its) (hit : IntsAre its.toList ns) (few : ns.length + 1 < scanBound) :
    wpAny (model P w) A (Builtin.«set.__init__» ⟨[.ref s.heap.objs.size, .ref l], []⟩) (fun r t => r = .done (.ret .none) ∧ Filled w s ns t) E { s with heap := hSetT w s } := by
  have many : its.size = ns.length := by have z := hit.length; rwa [Array.length_toList] at z
  have new : (hSetT w s).get? s.heap.objs.size = some (bareSet w) := Heap.get?_push_size _ rfl
  have old : ∀ {b o}, s.heap.get? b = some o → (hSetT w s).get? b = some o := fun e => Heap.get?_push_of_some _ e
  have ty : Shared.TypeIs { s with heap := hSetT w s } (.ref s.heap.objs.size) "set" := ⟨_, new, rfl⟩
  have hl1 : (hSetT w s).IsTuple l its := hl.push _
  have lo : l < s.heap.objs.size := by obtain ⟨_, e, _⟩ := hl; exact Heap.lt_size e
  have sz : (hSetT w s).objs.size = s.heap.objs.size + 1 := Heap.size_push ..
  obtain ⟨⟨c0, d0, x0, o0⟩, at0, cls0, n0, dat0⟩ := id hl1
  simp only at cls0 dat0
  subst cls0 dat0
  have u1 := PySem.F.sub_tuple_set
  have u2 := PySem.F.sub_tuple_frozenset
  have u3 : (Value.type "tuple" == Value.type "dict") = false := rfl
  unfold Builtin.«set.__init__» noKeywords Builtin.Frozenset.updateFrom
  generalize hid : pyIter = it
  wp_walk
  subst hid
  refine wpAny_pyIter_tuple hl1 (wpAny_bind (wpAny_runValue ?_))
  have off : s.heap.objs.size ∉ [(hSetT w s).objs.size, l] := by
    intro m
    rcases List.mem_cons.mp m with m | m
    · exact absurd (m.trans sz) (Nat.ne_of_lt (Nat.lt_succ_self _))
    · exact absurd (List.mem_singleton.mp m).symm (Nat.ne_of_lt lo)
  have apart : l ≠ (hSetT w s).objs.size := fun e => absurd (e.trans sz) (Nat.ne_of_lt (Nat.lt_succ_of_lt lo))
  refine set_update_ints (Walks.tuple (by simpa using quiet) _ l apart its).toS _ off ns many few (fun i v q => ?_) (its.size - 0) 0 { s with heap := hWalk w s l } (by omega) (Nat.zero_le _) ⟨⟨_, Heap.get?_push_size _ rfl, rfl, rfl⟩, hl1.push _⟩ ⟨0, Nat.le_refl 0, bare_zero (Heap.get?_push_of_some _ new)⟩ fun t m mv le S => ?_
  · have lt : i < ns.length := by rw [← many]; exact (Array.getElem?_eq_some_iff.mp q).1
    obtain ⟨k, e⟩ := hit.int_at i v (by rw [Array.getElem?_toList]; exact q)
    rw [List.getD_eq_getElem?_getD, List.getElem?_eq_getElem lt] at e
    exact ⟨_, k, List.getElem?_eq_getElem lt, e⟩
  · obtain ⟨g, q, d, k, z⟩ := t
    obtain rfl : q = s.gens := mv.gens
    obtain rfl : d = s.drawn := mv.drawn
    obtain rfl : z = s.os := mv.os
    refine wpAny_pure (wpAny_pure ⟨rfl, g, k, m, rfl, S, by rw [← many]; exact le, fun b o e => ?_⟩)
    have lb : b < s.heap.objs.size := Heap.lt_size e
    refine mv.heap b o (fun h => ?_) (Heap.get?_push_of_some _ (old e))
    rcases List.mem_cons.mp h with h | h
    · exact absurd h (Nat.ne_of_lt lb)
    · exact absurd ((List.mem_singleton.mp h).trans sz) (Nat.ne_of_lt (Nat.lt_succ_of_lt lb))
/-- set(xs) of a tuple of ints -/
theorem set_tup {l : Addr} {its : Array Value} {ns : List Int} {Q : Value → Shared → Prop} (quiet : A.handled = none) (hl : s.heap.IsTuple l its) (hit : IntsAre its.toList ns) (few : ns.length + 1 < scanBound)
    (fin : ∀ t, Filled w s ns t → Q (.ref s.heap.objs.size) t) : wpAny (model P w) A (call (.type "set") [.ref l]) Q E s := by
  have F := PySem.F.called_set
  obtain ⟨top, below, mro⟩ := F.mro
  have f1 := F.made; have f2 := F.sub; have f3 := F.notType; have f4 := F.canCreate
  have f5 := PySem.F.typeCall_set_1 (.ref l)
  have new : (hSetT w s).get? s.heap.objs.size = some (bareSet w) := Heap.get?_push_size _ rfl
  have ty : Shared.TypeIs { s with heap := hSetT w s } (.ref s.heap.objs.size) "set" := ⟨_, new, rfl⟩
  have f6 := F.init.lookup; have f7 := F.init.bind (.ref s.heap.objs.size)
  refine wpAny_call (codeAny_of_tree (show wpAny _ _ (callAny (.type "set") _) _ _ _ from wpAny_pure ⟨Code.quiet_builtin _ (by decide +kernel), codeAny_builtin PySem.F.entry_type_call ?_⟩))
  rw [Around.under_plain (weight_type_call_type "set" [.ref l] []) rfl]
  repeat (any_goals (first | assumption | wp_step))
  refine codeAny_mono (code_set_led1 (.ref l) (E := E) (Q₁ := fun v t => v = .ref s.heap.objs.size ∧ t = { s with heap := hSetT w s }) ⟨rfl, rfl⟩) ?_
  rintro (e | fl) t ht
  · exact ht
  cases fl with
  | next => exact ht.elim
  | brk => exact ht.elim
  | cont => exact ht.elim
  | ret v =>
  obtain ⟨rfl, rfl⟩ := ht
  repeat (any_goals (first | assumption | wp_step))
  refine codeAny_mono (codeAny_call_builtin (R := wants (fun v t => v = .none ∧ Filled w s ns t) E) F.init.plain PySem.F.entry_set_init (check_set_init_1 ty ?_)) ?_
  · refine wpAny_mono (init_tup (by simpa using quiet) hl hit few) ?_ fun _ _ z => z
    rintro _ t ⟨rfl, z⟩
    exact ⟨rfl, z⟩
  rintro (e | fl) t ht
  · exact ht
  cases fl with
  | next => exact ht.elim
  | brk => exact ht.elim
  | cont => exact ht.elim
  | ret v =>
  obtain ⟨rfl, z⟩ := ht
  repeat (any_goals (first | assumption | wp_step))
  exact fin _ z
end
section
variable {X : Cx}
def rSetTI (K : PySem.W.Frag) (w : World) : List V → Hp → VK → Prop := fun xs H Q => ∃ (p : Addr) (ns : List Int), xs = [.ref p] ∧ SqT K H p (ns.map V.int) ∧ ns.length ≤ 1000 ∧
  ∀ (D : Addr) (L : List Int), H D = none → L.Nodup → (∀ k, k ∈ L ↔ k ∈ ns) → Q (.ref D) (upd H D (SetO w D (fun j => decide (j ∈ ns)) L.length))
theorem call_setLI (hc : X.calm = true) : CallR X (.type "set") (rSetTI X.K X.w) := by
  intro pins s σ H xs us Q I rel ask
  obtain ⟨p, ns, rfl, hs, few, q⟩ := ask
  obtain ⟨u, rfl, ru⟩ := vals1 rel
  cases ru
  obtain ⟨its, rv, pl, hlen⟩ := I.tuple hs
  refine set_tup (ns := ns) (I.ok.hd hc) pl (by simpa using ints_of_vals rv) (by unfold scanBound; omega) fun t ⟨g, k, m, e, S, le, keep⟩ => ?_
  subst e
  have J := I.laid (t' := k) keep (Nat.le_refl _) (setO_new S)
  obtain ⟨o, es, ep, tb, e1, e2, e3, e4, nd, mem, e5, e6, sz, _⟩ := S
  have z := q s.heap.objs.size (es.toList.map keyOf) (I.hok.fresh (Nat.le_refl _)) nd fun k => by rw [← mem k, decide_eq_true_eq]
  rw [List.length_map, Array.length_toList, sz] at z
  exact ⟨.ref _, _, J, rfl, z⟩
end
end WST
set_option Elab.async false
set_option linter.all false
set_option maxRecDepth 100000
set_option maxHeartbeats 1000000
namespace W17
open PySem L2 PySem.Spec PyProof.Rows WR WB WE WS
/-! ### mates of the places that are kept -/
theorem dc_walk {J : It} {n : Nat} {G : Hp → Prop} {Y : Nat → Hp → V → Hp → Prop} (w : Walk J n G Y) {g : TG} {tt : TT} {tk tv : TE} {vs : List Nat} {σ : L2.St} {H1 : Hp} {D : Addr} {Qd : Hp → Prop} (Pv : Nat → Hp → Prop) (h0 : Pv 0 (L2.upd H1 D (.dK []))) (hl : ∀ i H, i ≤ n → Pv i H → G H)
    (hs : ∀ i x H H', i < n → Pv i H → Y i H x H' → g x (wipe σ vs) H' fun σ2 H2 => wipe σ2 vs = wipe σ vs ∧ tt σ2 H2 fun b H3 =>
      if b = true then tk σ2 H3 fun y H4 => tv σ2 H4 fun z H5 => ∃ kvs k, y = kV k ∧ H5 D = some (.dK kvs) ∧ kvs.length < sizeLine ∧ Pv (i + 1) (L2.upd H5 D (.dK (putK kvs k z))) else Pv (i + 1) H3) (hd : ∀ H, Pv n H → Qd H) :
    ∃ W : Nat → Nat → Hp → Prop, (∃ m, W 0 m (L2.upd H1 D (.dK []))) ∧ ∀ i m H, W i m H →
      (J.stop i H ∧ Qd H) ∨ (J.go i H ∧ ∃ Nx : Hp → Prop, (∀ H', Nx H' → ∃ m', m' < m ∧ W (i + 1) m' H') ∧ ∀ x H', J.yld i H x H' → g x (wipe σ vs) H' fun σ2 H2 => wipe σ2 vs = wipe σ vs ∧ tt σ2 H2 fun b H3 =>
        if b = true then tk σ2 H3 fun y H4 => tv σ2 H4 fun z H5 => ∃ kvs k, y = kV k ∧ H5 D = some (.dK kvs) ∧ kvs.length < sizeLine ∧ Nx (L2.upd H5 D (.dK (putK kvs k z))) else Nx H3) := by
  refine ⟨fun i m H => m = n - i ∧ i ≤ n ∧ Pv i H, ⟨n, by simp, Nat.zero_le _, h0⟩, ?_⟩
  rintro i m H ⟨rfl, hi, p⟩
  have q := hl i H hi p
  by_cases lt : i < n
  · exact .inr ⟨w.goes i H lt q, Pv (i + 1), fun H' p' => ⟨n - (i + 1), by omega, rfl, lt, p'⟩, fun x H' y => hs i x H H' lt p (w.yields i H x H' lt q y)⟩
  · have e : i = n := by omega
    subst e
    exact .inl ⟨w.stops H q, hd H p⟩
theorem ret_lc {wi : TI} {g : TG} {tt : TT} {te : TE} {vs : List Nat} {D : Ends} {σ : L2.St} {H : Hp} (h : wi σ H fun J H1 => tLc (fun _ H R => R J H) g tt te vs σ H1 D.rt) : tRet (tLc wi g tt te vs) D σ H := h
/-- where each place stands among those that are kept -/
def ixO : List Nat → Nat → List (L2.Key × V)
  | [], _ => []
  | k :: r, o => (.inl (k : Int), .int (o : Int)) :: ixO r (o + 1)
theorem ixO_snoc : ∀ (ks : List Nat) (k o : Nat), ixO (ks ++ [k]) o = ixO ks o ++ [(.inl (k : Int), .int ((o + ks.length : Nat) : Int))]
  | [], k, o => rfl
  | x :: r, k, o => by
    show (_, _) :: ixO (r ++ [k]) (o + 1) = _
    rw [ixO_snoc r k (o + 1), show o + 1 + r.length = o + (x :: r).length by rw [List.length_cons]; omega]
    rfl
theorem ixO_len : ∀ (ks : List Nat) (o : Nat), (ixO ks o).length = ks.length
  | [], _ => rfl
  | x :: r, o => by
    show (ixO r (o + 1)).length + 1 = _
    rw [ixO_len r]
    rfl
theorem ixO_val : ∀ (ks : List Nat) (o k : Nat), k ∈ ks → valV (ixO ks o) (.inl (k : Int)) = some (.int ((o + ks.idxOf k : Nat) : Int))
  | x :: r, o, k, h => by
    by_cases e : x = k
    · subst e
      rw [List.idxOf_cons_self]
      exact valV_pos rfl
    · have e2 : ((.inl (x : Int) : L2.Key)) ≠ .inl (k : Int) := fun z => e (by injection z with z; omega)
      have hr : k ∈ r := (List.mem_cons.mp h).resolve_left fun z => e z.symm
      show valV ((.inl (x : Int), .int (o : Int)) :: ixO r (o + 1)) (.inl (k : Int)) = _
      have ex : (x :: r).idxOf k = r.idxOf k + 1 := by
        rw [List.idxOf_cons, show (x == k) = false from beq_eq_false_iff_ne.mpr e]
        rfl
      rw [ex]
      have ih := ixO_val r (o + 1) k hr
      rw [show o + 1 + r.idxOf k = o + (r.idxOf k + 1) by omega] at ih
      rw [← ih]
      exact valV_neg e2
theorem ixO_keys : ∀ (ks : List Nat) (o : Nat), ∀ kv ∈ ixO ks o, ∃ k ∈ ks, kv.1 = .inl (k : Int)
  | x :: r, o, kv, h => by
    rcases List.mem_cons.mp h with rfl | h
    · exact ⟨x, List.mem_cons_self, rfl⟩
    · obtain ⟨k, hk, e⟩ := ixO_keys r (o + 1) kv h
      exact ⟨k, List.mem_cons_of_mem _ hk, e⟩
theorem putK_new {kvs : List (L2.Key × V)} {k : L2.Key} {v : V} (h : ∀ kv ∈ kvs, kv.1 ≠ k) : putK kvs k v = kvs ++ [(k, v)] := by
  unfold putK
  rw [if_neg]
  intro z
  obtain ⟨kv, hk, e⟩ := List.any_eq_true.mp z
  exact h kv hk (of_decide_eq_true e)
def keptF (mt : List Int) (ks : List Nat) : List Nat := ks.map fun k => ks.idxOf (mtn mt k)
def spMam : Sp := fun vs H Q _ => ∃ (m q : Addr) (mt : List Int) (ks : List Nat), vs = [.ref m, .ref q] ∧ H m = some (.lst (iv mt)) ∧ H q = some (.lst (iv (nats ks))) ∧ ks.Nodup ∧ ks.length ≤ 100 ∧ (∀ k ∈ ks, mt[k]? = some ((mtn mt k : Nat) : Int) ∧ mtn mt k ∈ ks) ∧ ∀ l H', H l = none → Same H H' → H' l = some (.lst (iv (nats (keptF mt ks)))) → Q (.ref l) H'
abbrev sMam : Stmt := top 23
abbrev nMam : List Str := ["mates", "places", "stands", "at", "place"]
theorem scMam : FnScope nMam ["mates", "places"] (defScope sMam) := ⟨rfl, rfl, rfl, by decide +kernel, rfl, by decide +kernel, by decide +kernel⟩
section
variable {P : Program} {w : World} {K : PySem.W.Frag} {mg : Str → Option Value} {base : Heap} {C CR CS CTM : Addr}
theorem ok_Mam {f : Addr} {fd : FuncData} (F : Fun K "mates_among" "mates_among" sMam f fd) (N : TN mg)   : FnOk P w K mg base CX0 1 f fd ["mates", "places"] (spMam) := by
  refine F.ok scMam (fun vs H Q E h => ?_) (fun cdv A outer s H vs Q E hr h => ?_)
  · obtain ⟨m, q, mt, ks, rfl, _⟩ := h
    rfl
  · obtain ⟨m, q, mt, ks, rfl, hm, hq, nd, l100, hk, k⟩ := h
    refine ⟨_, pss_cons (ps_set (i := 2) scMam.nd rfl (Or.inr rfl) (pe_dc (own := [("at", 3), ("place", 4)]) (g := gTup K 2 (gCons (gName 3) (gCons (gName 4) gNil))) (tt := tYes) rfl scMam.nd (pi_enum (by rfl) N.enumerate (pa_cons (pv 1) pa_nil)) (blkOk_by (N := nMam) (sc := defScope sMam) (by decide +kernel)) (fun _ _ _ _ _ => (pg_tup (n := 2) rfl (pgs_cons (pg_name (i := 3) scMam.nd rfl (Or.inl rfl)) (pgs_cons (pg_name (i := 4) scMam.nd rfl (Or.inl rfl)) pgs_nil)))) (fun _ _ _ _ _ => pts_nil) (fun _ _ _ _ _ => pv 4) (fun _ _ _ _ _ => pv 3)))
      (pss_one (ps_ret (pe_lc (own := [("place", 4)]) (g := gName 4) (tt := tYes) rfl scMam.nd (pi_list (pv 1)) (blkOk_by (N := nMam) (sc := defScope sMam) (by decide +kernel)) (fun _ _ _ _ _ => (pg_name (i := 4) scMam.nd rfl (Or.inl rfl))) (fun _ _ _ _ _ => pts_nil) (fun _ _ _ _ _ => (pe_dget (by have hh : _ + 64 < cLine := hr.units; exact Nat.lt_of_le_of_lt (Nat.add_le_add_left (by decide : 1 ≤ 64) _) hh) (pv 2) (pe_ix (ixl (K := K) rfl) (pv 0) (pv 4) (fun _ _ => rfl)) (by intro _ _; rfl)))))), ?_⟩
    have sq0 : SqL K H q (iv (nats ks)) := SqL.of hq
    refine ⟨_, rfl, q, _, rfl, sq0, fun D hD => dc_walk (walk_enum (K := K) (a := q) (xs := iv (nats ks))) (fun i H' => Same H H' ∧ H' D = some (.dK (ixO (ks.take i) 0))) ⟨same_upd hD, upd_same⟩ (fun i H' _ p => p.1.seq sq0) ?_ ?_⟩
    · rintro i x H1 H2 hi ⟨s1, g1⟩ ⟨T, a, b, rfl, hT, rfl, ea, eb⟩
      have hik : i < ks.length := by
        rw [List.length_map] at hi
        unfold nats at hi
        rwa [List.length_map] at hi
      cases ea
      have eb : (iv (nats ks))[i]? = some b := eb
      have eb2 : b = V.int ((ks[i] : Nat) : Int) := by
        rw [List.getElem?_map] at eb
        unfold nats at eb
        rw [List.getElem?_map, List.getElem?_eq_getElem hik] at eb
        exact (Option.some.inj eb).symm
      subst eb2
      have sT := same_upd (o := .tup [.int (i : Nat), .int ((ks[i] : Nat) : Int)]) hT
      have nTD : D ≠ T := ne_of_none g1 hT
      refine ⟨T, _, rfl, SqT.of upd_same, rfl, _, _, rfl, _, _, rfl, rfl, rfl, yes_te ?_⟩
      refine ⟨_, rfl, _, rfl, _, .inl ((ks[i] : Nat) : Int), rfl, sT _ _ g1, ?_, ?_, ?_⟩
      · rw [ixO_len, List.length_take]
        exact Evl.sz_lt (by omega)
      · intro b o e
        rw [upd_ne (fun z => by rw [z, hD] at e; cases e)]
        exact sT _ _ (s1 _ _ e)
      · rw [upd_same, putK_new]
        · rw [List.take_succ_eq_append_getElem hik, ixO_snoc, List.length_take, Nat.zero_add, Nat.min_eq_left (Nat.le_of_lt hik)]
        · intro kv hkv z
          obtain ⟨k', hk', e⟩ := ixO_keys _ _ kv hkv
          rw [z] at e
          have e2 : ks[i] = k' := by
            injection e with e
            omega
          obtain ⟨j, hj, e3⟩ := List.getElem_of_mem hk'
          rw [List.length_take] at hj
          rw [List.getElem_take] at e3
          have := List.pairwise_iff_getElem.mp nd j i (by omega) hik (by omega)
          exact this (by rw [e3, e2])
    · rintro H1 ⟨s1, g1⟩
      rw [List.length_map] at g1
      unfold nats at g1
      rw [List.length_map, List.take_length] at g1
      have hm1 := s1 _ _ hm
      have hq1 := s1 _ _ hq
      refine at_set ?_
      try dsimp only
      refine ret_lc ?_
      refine ⟨_, rfl, q, rfl, ⟨_, SqL.of hq1⟩, ?_⟩
      refine lcp (walk_list (K := K) (a := q) (xs := iv (nats ks))) (fun _ => true) (fun x => match x with | .int z => .int ((ks.idxOf (mtn mt z.toNat) : Nat) : Int) | y => y) (by rw [List.length_map]; unfold nats; rw [List.length_map]; omega) (fun H2 s => SqL.of (s _ _ hq1)) ?_ ?_
      · intro x hx H2 s2 Qy Qn ky kn
        obtain ⟨z, hz, rfl⟩ := List.mem_map.mp hx
        obtain ⟨k0, hk0, rfl⟩ := List.mem_map.mp hz
        obtain ⟨m1, m2⟩ := hk k0 hk0
        refine ⟨rfl, yes_te ?_⟩
        refine ⟨_, rfl, _, rfl, _, rfl, m, _, _, _, rfl, rfl, SqL.of (s2 _ _ hm1), atI_nat (iv_get m1), D, _, rfl, .inl ⟨_, .inl ((mtn mt k0 : Nat) : Int), .inl (s2 _ _ g1), rfl, (ixO_val ks 0 _ m2).symm⟩, ?_⟩
        have := ky rfl H2 (Same.refl _)
        rw [Nat.zero_add]
        exact this
      · intro l H2 hl s2 h2
        refine k l H2 (s1.free hl) (s1.trans s2) ?_
        rw [h2, List.filter_eq_self.mpr (fun _ _ => rfl)]
        unfold iv nats keptF
        rw [List.map_map, List.map_map, List.map_map, List.map_map]
        rfl
end
end W17
set_option Elab.async false
set_option linter.all false
set_option maxRecDepth 100000
set_option maxHeartbeats 1000000
namespace W17
open PySem L2 PySem.Spec PyProof.Rows WR WB WE WS
/-! ### two promises of one def, one without errors; rims of letters and homes -/
def spOr (s1 s2 : Sp) : Sp := fun vs H Q E => s1 vs H Q E ∨ s2 vs H Q E
theorem fn_or {P : Program} {w : World} {K : PySem.W.Frag} {mg : Str → Option Value} {base : Heap} {k : Nat} {f : Addr} {fd : FuncData} {ps : List Str} {s1 s2 : Sp} (F1 : FnOk P w K mg base CX0 k f fd ps s1) (F2 : FnOk P w K mg base (L2.CX P w) k f fd ps s2) : FnOk P w K mg base (L2.CX P w) k f fd ps (spOr s1 s2) := by
  refine ⟨fun vs H Q E h => h.elim (F1.len vs H Q E) (F2.len vs H Q E), fun A outer s H args us vs Q E hr e0 hb r h => ?_⟩
  rcases h with h | h
  · refine codeAny_mono (F1.run A outer s H args us vs Q E hr e0 hb r h) fun r s' q => ?_
    match r, q with
    | .ok (.ret u), q => exact q
    | .error e, q => exact (show False from q).elim
  · exact F2.run A outer s H args us vs Q E hr e0 hb r h
structure MkRX (P : Program) (w : World) (K : PySem.W.Frag) (mg : Str → Option Value) (base : Heap) (C CR CTM : Addr) : Prop where
  ex : ∃ (f : Addr) (fd : FuncData), Mk K CR f ∧ FnOk P w K mg base (L2.CX P w) 5 f fd ["self", "words"] (spOr (spInitR K C CR) (spInitRX K C CR CTM)) ∧ Binds K fd ["self", "words"] []
  g : mg "Rims" = some (.ref CR)
theorem pe_rimsX {X : Cx} {C CR CTM : Addr} {p pos : Pos} {e : Expr} {es : List Expr} {t : TA} {j : Nat} {K : PySem.W.Frag} {E : XK} (hK : X.K = K) (M : MkRX X.prog X.w K X.mg X.base C CR CTM) (hr : Room j X.A) (hkj : 6 ≤ j) (hx : Passes (L2.CX X.prog X.w) X E) (hg : Gl X "Rims") (ha : PA X (e :: es) t)
    (he : starEach (e :: es) X.env = (false, eval e X.env) :: starEach es X.env := by rfl) (hpl : (backTo pos (starEach es X.env)).any (·.1) = false := by rfl) :
    PE X (.Call (.Name "Rims" p) (e :: es) [] pos) (tMake CR (spOr (spInitR K C CR) (spInitRX K C CR CTM)) [] E t) := by
  subst hK
  obtain ⟨f, fd, M1, F, hb⟩ := M.ex
  exact pe_make M1 F (hr.mono hkj) hg M.g hb .nil hx ha (by decide) he hpl
theorem CallR.or {X : Cx} {f : Value} {r1 r2 : List V → Hp → VK → Prop} (h1 : CallR X f r1) (h2 : CallR X f r2) : CallR X f (fun xs H Q => r1 xs H Q ∨ r2 xs H Q) := fun pins s σ H xs us Q I rel h => h.elim (h1 pins s σ H xs us Q I rel) (h2 pins s σ H xs us Q I rel)
theorem rng_add (a b : Nat) : List.range (a + b) = List.range a ++ (List.range b).map fun j => a + j := by
  refine List.ext_getElem (by simp) fun i h1 h2 => ?_
  rw [List.getElem_range]
  by_cases c : i < a
  · rw [List.getElem_append_left (by simpa using c), List.getElem_range]
  · rw [List.getElem_append_right (by simp only [List.length_range]; omega), List.getElem_map, List.getElem_range, List.length_range]
    omega
/-- the letters of one home are the word that stands there -/
theorem blk : ∀ (ws : List (List Int)) (f i : Nat), i < ws.length → ((List.range ws.flatten.length).filter fun j => decide ((hmF f ws).getD j 0 = ((f + i : Nat) : Int))).map (fun j => ws.flatten.getD j 0) = ws.getD i []
  | w :: r, f, i, hi => by
    have fl : (w :: r).flatten = w ++ r.flatten := List.flatten_cons
    have hl : (w :: r).flatten.length = w.length + r.flatten.length := by rw [fl, List.length_append]
    have h0 : hmF f (w :: r) = List.replicate w.length (f : Int) ++ hmF (f + 1) r := rfl
    have lft : ∀ j, j < w.length → (hmF f (w :: r)).getD j 0 = (f : Int) ∧ (w :: r).flatten.getD j 0 = w.getD j 0 := fun j hj => by
      rw [h0, fl]
      refine ⟨?_, ?_⟩
      · rw [List.getD_eq_getElem?_getD, List.getElem?_append_left (by rw [List.length_replicate]; exact hj), List.getElem?_replicate, if_pos hj]
        rfl
      · rw [List.getD_eq_getElem?_getD, List.getD_eq_getElem?_getD, List.getElem?_append_left hj]
    have rgt : ∀ j, (hmF f (w :: r)).getD (w.length + j) 0 = (hmF (f + 1) r).getD j 0 ∧ (w :: r).flatten.getD (w.length + j) 0 = r.flatten.getD j 0 := fun j => by
      rw [h0, fl]
      refine ⟨?_, ?_⟩
      · rw [List.getD_eq_getElem?_getD, List.getD_eq_getElem?_getD, List.getElem?_append_right (by rw [List.length_replicate]; omega), List.length_replicate, show w.length + j - w.length = j by omega]
      · rw [List.getD_eq_getElem?_getD, List.getD_eq_getElem?_getD, List.getElem?_append_right (by omega), show w.length + j - w.length = j by omega]
    rw [hl, rng_add, List.filter_append, List.map_append, List.filter_map, List.map_map]
    have e2 : ((List.range r.flatten.length).filter ((fun j => decide ((hmF f (w :: r)).getD j 0 = ((f + i : Nat) : Int))) ∘ fun j => w.length + j)) = (List.range r.flatten.length).filter fun j => decide ((hmF (f + 1) r).getD j 0 = ((f + i : Nat) : Int)) := by
      refine List.filter_congr fun j _ => ?_
      show decide ((hmF f (w :: r)).getD (w.length + j) 0 = _) = _
      rw [(rgt j).1]
    have e3 : ((List.range r.flatten.length).filter fun j => decide ((hmF (f + 1) r).getD j 0 = ((f + i : Nat) : Int))).map ((fun j => (w :: r).flatten.getD j 0) ∘ fun j => w.length + j) = ((List.range r.flatten.length).filter fun j => decide ((hmF (f + 1) r).getD j 0 = ((f + i : Nat) : Int))).map fun j => r.flatten.getD j 0 := by
      refine List.map_congr_left fun j _ => ?_
      exact (rgt j).2
    rw [e2, e3]
    cases i with
    | zero =>
      have f1 : (List.range w.length).filter (fun j => decide ((hmF f (w :: r)).getD j 0 = ((f + 0 : Nat) : Int))) = List.range w.length := by
        refine List.filter_eq_self.mpr fun j hj => ?_
        rw [(lft j (List.mem_range.mp hj)).1]
        exact decide_eq_true (by omega)
      have f2 : (List.range r.flatten.length).filter (fun j => decide ((hmF (f + 1) r).getD j 0 = ((f + 0 : Nat) : Int))) = [] := by
        refine List.filter_eq_nil_iff.mpr fun j hj => ?_
        have hj2 : j < (hmF (f + 1) r).length := by rw [hmF_len]; exact List.mem_range.mp hj
        rw [getD_lt hj2, decide_eq_true_iff]
        have := (hmF_rng r (f + 1) _ (List.getElem_mem hj2)).1
        omega
      rw [f1, f2]
      show _ ++ [] = w
      rw [List.append_nil]
      refine List.ext_getElem (by simp) fun j h1 h2 => ?_
      rw [List.getElem_map, List.getElem_range, (lft j h2).2, getD_lt h2]
    | succ i =>
      have f1 : (List.range w.length).filter (fun j => decide ((hmF f (w :: r)).getD j 0 = ((f + (i + 1) : Nat) : Int))) = [] := by
        refine List.filter_eq_nil_iff.mpr fun j hj => ?_
        rw [(lft j (List.mem_range.mp hj)).1, decide_eq_true_iff]
        omega
      rw [f1]
      have ih := blk r (f + 1) i (by have : i + 1 < r.length + 1 := hi; omega)
      rw [show f + 1 + i = f + (i + 1) by omega] at ih
      rw [ih]
      rfl
theorem asc_eq : ∀ {a b : List Int}, a.Pairwise (· < ·) → b.Pairwise (· < ·) → (∀ z, z ∈ a ↔ z ∈ b) → a = b
  | [], [], _, _, _ => rfl
  | [], y :: b, _, _, h => absurd ((h y).mpr List.mem_cons_self) (by simp)
  | x :: a, [], _, _, h => absurd ((h x).mp List.mem_cons_self) (by simp)
  | x :: a, y :: b, ha, hb, h => by
    have h1 := List.pairwise_cons.mp ha
    have h2 := List.pairwise_cons.mp hb
    have e : x = y := by
      rcases List.mem_cons.mp ((h x).mp List.mem_cons_self) with e | m
      · exact e
      · rcases List.mem_cons.mp ((h y).mpr List.mem_cons_self) with e | m2
        · exact e.symm
        · have := h2.1 x m
          have := h1.1 y m2
          omega
    subst e
    rw [asc_eq h1.2 h2.2 fun z => ?_]
    constructor
    · intro hz
      rcases List.mem_cons.mp ((h z).mp (List.mem_cons_of_mem _ hz)) with e | m
      · have := h1.1 z hz
        omega
      · exact m
    · intro hz
      rcases List.mem_cons.mp ((h z).mpr (List.mem_cons_of_mem _ hz)) with e | m
      · have := h2.1 z hz
        omega
      · exact m
/-- each word that has letters is the home of one -/
theorem hm_all {ws : List (List Int)} (hne : ∀ w ∈ ws, w ≠ []) (z : Int) : z ∈ hmF 0 ws ↔ ∃ i : Nat, i < ws.length ∧ z = (i : Int) := by
  constructor
  · intro hz
    have := hmF_rng ws 0 z hz
    exact ⟨z.toNat, by omega, by omega⟩
  · rintro ⟨i, hi, rfl⟩
    have b := blk ws 0 i hi
    have hw : ws.getD i [] ≠ [] := by
      rw [List.getD_eq_getElem?_getD, List.getElem?_eq_getElem hi]
      exact hne _ (List.getElem_mem hi)
    rw [← b] at hw
    obtain ⟨j, hj⟩ := List.exists_mem_of_ne_nil _ (mt List.map_eq_nil_iff.mpr hw)
    obtain ⟨h1, h2⟩ := List.mem_filter.mp hj
    have hj2 : j < (hmF 0 ws).length := by rw [hmF_len]; exact List.mem_range.mp h1
    rw [getD_lt hj2, decide_eq_true_iff, Nat.zero_add] at h2
    rw [← h2]
    exact List.getElem_mem hj2
theorem app_mk_lc {K : PySem.W.Frag} {C : Addr} {sq : Sp} {i : Nat} {wi : TI} {g : TG} {tt : TT} {te : TE} {vs : List Nat} {D : Ends} {σ : L2.St} {H : Hp}
    (h : ∃ wv, σ[i]? = some (some wv) ∧ tyV K "list" wv H ∧ wi σ H fun J H1 => tLc (fun _ H R => R J H) g tt te vs σ H1 fun y H2 => ∀ x dx, H2 x = none → H2 dx = none → dx ≠ x →
      sq ([.ref x, y] ++ []) (L2.upd (L2.upd H2 dx (.own x)) x (.ins C dx [])) (fun v H3 => v = .non ∧ rAppend wv [.ref x] H3 fun _ H4 => D.nx σ H4) E0) : tDrop (tBM K "list" rAppend (tVar i) (tCons (tMake C sq [] E0 (tCons (tLc wi g tt te vs) tNil)) tNil)) D σ H := h
def spRF (K : PySem.W.Frag) (C CR CTM : Addr) : Sp := fun vs H Q E => ∃ (lq hq : Addr) (ws : List (List Int)), vs = [.ref lq, .ref hq] ∧ SqE K H lq (iv ws.flatten) ∧ SqE K H hq (iv (hmF 0 ws)) ∧ 1 ≤ ws.length ∧ ws.length ≤ 4 ∧ (∀ w ∈ ws, w ≠ []) ∧ ws.flatten.length ≤ 60 ∧ Lts ws.flatten ∧
  ((RimOk ws ∧ ∀ q H' xs, Same H H' → RimsAt K C CR H' q xs ws → Q (.ref q) H') ∨ (24 < ws.flatten.length ∧ BadM CTM E H (.str "letters") 24))
abbrev sRF : Stmt := top 55
abbrev nRF : List Str := ["letters", "homes", "words", "home", "at", "letter"]
theorem scRF : FnScope nRF ["letters", "homes"] (defScope sRF) := ⟨rfl, rfl, rfl, by decide +kernel, rfl, by decide +kernel, by decide +kernel⟩
section
variable {P : Program} {w : World} {K : PySem.W.Frag} {mg : Str → Option Value} {base : Heap} {C CR CS CTM : Addr}
theorem ok_RF {f : Addr} {fd : FuncData} (F : Fun K "rims_from" "rims_from" sRF f fd) (N : TN mg) (T : TxW K mg C) (TC : TxRC K mg CR) (MW : MkW P w K mg base C) (MR : MkRX P w K mg base C CR CTM)  : FnOk P w K mg base (L2.CX P w) 8 f fd ["letters", "homes"] (spRF K C CR CTM) := by
  refine F.okX scRF (fun vs H Q E h => ?_) (fun cdv A outer s H vs Q E hr h => ?_)
  · obtain ⟨lq, hq, ws, rfl, _⟩ := h
    rfl
  · obtain ⟨lq, hq, ws, rfl, hl, hh, l1, l4, hne, l60, lts, h⟩ := h
    refine ⟨_, pss_cons (ps_set (i := 2) scRF.nd rfl (Or.inl rfl) (pe_lst pa_nil))
      (pss_cons (ps_for (passes_of rfl) rfl (pi_list (pe_callB (cr_sortedSet rfl) (by rfl) N.sorted (by decide +kernel) (pa_cons (pe_callTy (CallR.or (call_setLI rfl) (WST.call_setLI rfl)) (by rfl) N.set (by decide +kernel) (pa_cons (pv 1) pa_nil)) pa_nil))) (pg_name (i := 3) scRF.nd rfl (Or.inr rfl))
      (pss_one (ps_expr (pe_bm PySem.F.plainAttrs_list PySem.F.slot_list_append PySem.F.type_list_append mt_append (pv 2) (pa_cons (pe_word MW T hr (by decide) (by rfl) (pa_cons (pe_lc (own := [("at", 4), ("letter", 5)]) (g := gTup K 2 (gCons (gName 4) (gCons (gName 5) gNil))) rfl scRF.nd (WE.pi_enumA (K := K) rfl (by rfl) N.enumerate (pa_cons (pv 0) pa_nil)) (blkOk_by (N := nRF) (sc := defScope sRF) (by decide +kernel)) (fun _ _ _ _ _ => (pg_tup (n := 2) rfl (pgs_cons (pg_name (i := 4) scRF.nd rfl (Or.inl rfl)) (pgs_cons (pg_name (i := 5) scRF.nd rfl (Or.inl rfl)) pgs_nil)))) (fun _ _ _ _ _ => (pts_one (pt_cmpR op_eq (pe_ix ((ixl (K := K) rfl).or (ixt (K := K) rfl)) (pv 1) (pv 4) (fun _ _ => rfl)) (pv 3) (nomark _)))) (fun _ _ _ _ _ => (pv 5))) pa_nil)) pa_nil)))))
      (pss_one (ps_ret (pe_rimsX rfl MR hr (by decide) (passes_call (takes_of rfl rfl rfl rfl) (fun _ _ _ _ h => h)) (by rfl) (pa_cons (pv 2) pa_nil))))), ?_⟩
    refine ⟨Nat.zero_le _, fun w0 hw0 => ?_⟩
    have s1 := same_upd (o := .lst []) hw0
    have gw1 : L2.upd H w0 (.lst []) w0 = some (.lst []) := upd_same
    obtain ⟨H1, e1⟩ : ∃ H1, H1 = L2.upd H w0 (.lst []) := ⟨_, rfl⟩
    rw [← e1] at s1 gw1 ⊢
    have hl1 := hl.same s1
    have hh1 := hh.same s1
    have lh : (hmF 0 ws).length ≤ 1000 := by rw [hmF_len]; omega
    try dsimp only
    refine at_set ?_
    try dsimp only
    refine ⟨_, rfl, ?_⟩
    refine (fun cont => Or.elim hh1 (fun h => Or.inl ⟨hq, hmF 0 ws, rfl, h, lh, cont⟩) (fun h => Or.inr ⟨hq, hmF 0 ws, rfl, h, lh, cont⟩)) ?_
    intro S L hS ndL memL
    have lL : L.length ≤ 4 := by
      have := L2.nat_nodup_len (L.map Int.toNat) (List.range ws.length) (List.pairwise_map.mpr (ndL.imp_of_mem fun {a b} ha hb ne e => ne (by
        obtain ⟨i, _, rfl⟩ := (hm_all hne a).mp ((memL a).mp ha)
        obtain ⟨j, _, rfl⟩ := (hm_all hne b).mp ((memL b).mp hb)
        omega))) fun y hy => by
        obtain ⟨z, hz, rfl⟩ := List.mem_map.mp hy
        obtain ⟨i, hi, rfl⟩ := (hm_all hne z).mp ((memL z).mp hz)
        exact List.mem_range.mpr (by omega)
      rw [List.length_map, List.length_range] at this
      omega
    have s2 := same_upd (o := SetO w S (fun j => decide (j ∈ hmF 0 ws)) L.length) hS
    refine ⟨S, _, L.length, rfl, upd_same, by omega, fun ks p3 hlt hmem hlen hp3 => ?_⟩
    have eks : ks = (List.range ws.length).map fun (i : Nat) => (i : Int) := by
      refine asc_eq hlt (List.pairwise_map.mpr (List.pairwise_lt_range.imp fun {a b} h => by omega)) fun z => ?_
      rw [hmem, decide_eq_true_iff, hm_all hne, List.mem_map]
      constructor
      · rintro ⟨i, hi, rfl⟩
        exact ⟨i, List.mem_range.mpr hi, rfl⟩
      · rintro ⟨i, hi, rfl⟩
        exact ⟨i, List.mem_range.mp hi, rfl⟩
    subst eks
    have s3 := s2.trans (same_upd (o := .lst (iv ((List.range ws.length).map fun (i : Nat) => (i : Int)))) hp3)
    have gk : L2.upd (L2.upd H1 S (SetO w S (fun j => decide (j ∈ hmF 0 ws)) L.length)) p3 (.lst (iv ((List.range ws.length).map fun (i : Nat) => (i : Int)))) p3 = some (.lst (iv ((List.range ws.length).map fun (i : Nat) => (i : Int)))) := upd_same
    have gw3 := s3 _ _ gw1
    have np3 : p3 ≠ w0 := fun e => by
      have h3 := (s2 _ _ gw1)
      rw [← e] at h3
      cases (h3.symm.trans hp3)
    refine ⟨p3, rfl, ⟨_, SqL.of gk⟩, for_list (K := K) (a := p3) (xs := iv ((List.range ws.length).map fun (i : Nat) => (i : Int))) (fun i σ H' => ∃ (v3 v4 v5 : Option V) (xs : List Addr), σ = [some (.ref lq), some (.ref hq), some (.ref w0), v3, v4, v5] ∧ Same H H' ∧ H' p3 = some (.lst (iv ((List.range ws.length).map fun (i : Nat) => (i : Int)))) ∧ H' w0 = some (.lst (xs.map V.ref)) ∧ Wds K C H' xs (ws.take i)) ⟨none, none, none, [], rfl, s1.trans s3, gk, gw3, .nil⟩ (fun i σ H' _ ⟨_, _, _, _, _, _, g, _⟩ => SqL.of g) ?_ ?_⟩
    · rintro i x σ H4 hi ⟨v3, v4, v5, xs, rfl, s4, g4, gw4, W4⟩
      have hik : i < ws.length := by
        have := (List.getElem?_eq_some_iff.mp hi).1
        simpa using this
      obtain rfl : x = V.int (i : Int) := by
        rw [List.getElem?_map, List.getElem?_map, List.getElem?_range hik] at hi
        exact (Option.some.inj hi).symm
      have hl4 := hl.same s4
      have hh4 := hh.same s4
      have lxs : xs.length = i := by
        have := W4.length
        rw [List.length_take] at this
        omega
      refine at_set ?_
      try dsimp only
      refine app_mk_lc ?_
      refine ⟨_, rfl, .inl ⟨rfl, _, SqL.of gw4⟩, _, rfl, lq, _, rfl, hl4, fun J G wk hG => ?_⟩
      refine lcE wk (fun j => decide ((hmF 0 ws).getD j 0 = (i : Int))) (fun j => V.int (ws.flatten.getD j 0)) (by rw [List.length_map]; omega) hG ?_ ?_
      · intro j x hx H5 s5 T0 hT Qy Qn ky kn
        have hj : j < ws.flatten.length := by
          have := (List.getElem?_eq_some_iff.mp hx).1
          rwa [List.length_map] at this
        have hjh : j < (hmF 0 ws).length := by rw [hmF_len]; exact hj
        obtain rfl : x = V.int (ws.flatten.getD j 0) := by
          rw [List.getElem?_map, List.getElem?_eq_getElem hj] at hx
          rw [getD_lt hj]
          exact (Option.some.inj hx).symm
        have sT := same_upd (o := .tup [.int (j : Nat), .int (ws.flatten.getD j 0)]) hT
        have hh5 := (hh4.same s5).same sT
        have gh : (iv (hmF 0 ws))[j]? = some (V.int ((hmF 0 ws).getD j 0)) := iv_get (by rw [List.getElem?_eq_getElem hjh, getD_lt hjh])
        refine ⟨T0, _, rfl, SqT.of upd_same, rfl, _, _, rfl, _, _, rfl, rfl, rfl, _, rfl, _, rfl, hh5.elim (fun h => .inl ⟨hq, _, _, _, rfl, rfl, h, atI_nat gh, _, rfl, rfl, _, rfl, ?_⟩) (fun h => .inr ⟨hq, _, _, _, rfl, rfl, h, atI_nat gh, _, rfl, rfl, _, rfl, ?_⟩)⟩
        all_goals (
          refine ite2 (fun hb => ?_) (fun hb => ?_)
          · exact ⟨_, rfl, ky (decide_eq_true (by have := of_decide_eq_true hb; injection this)) _ sT⟩
          · exact kn (decide_eq_false fun e => hb (decide_eq_true (by rw [e]))) _ sT)
      · intro D H5 hD s5 h5
        have ew : (((List.range (iv ws.flatten).length).filter fun j => decide ((hmF 0 ws).getD j 0 = (i : Int))).map fun j => V.int (ws.flatten.getD j 0)) = iv (ws.getD i []) := by
          rw [List.length_map]
          have b := blk ws 0 i hik
          rw [Nat.zero_add] at b
          rw [← b]
          unfold iv
          rw [List.map_map]
          rfl
        rw [ew] at h5
        have ewi : ws.getD i [] = ws[i] := by rw [List.getD_eq_getElem?_getD, List.getElem?_eq_getElem hik]; rfl
        rw [ewi] at h5
        have hmem := List.getElem_mem hik
        have lw : ws[i].length ≤ ws.flatten.length := word_le hmem
        intro xw dxw nx ndx _
        refine make_at nx ndx (.inl (SqL.of h5)) (by omega) (lts.word hmem) fun H6 s6 W6 => ?_
        have s46 := s5.trans s6
        refine ⟨w0, _, _, rfl, rfl, s46 _ _ gw4, Evl.sz_lt (by rw [List.length_map]; omega), ?_⟩
        refine ⟨_, _, _, xs ++ [xw], rfl, fun b o e => ?_, ?_, ?_, ?_⟩
        · rw [upd_ne (fun z => by rw [z, hw0] at e; cases e)]
          exact (s4.trans s46) _ _ e
        · rw [upd_ne np3]
          exact s46 _ _ g4
        · rw [upd_same, List.map_append]
          rfl
        · rw [List.take_succ_eq_append_getElem hik]
          have gw6 := s46 _ _ gw4
          exact ((W4.imp fun _ _ h => (h.same s46).keptL gw6 Kept.upd)).app (.cons (W6.keptL gw6 Kept.upd) .nil)
    · rintro σ H4 ⟨v3, v4, v5, xs, rfl, s4, g4, gw4, W4⟩
      rw [List.length_map, List.length_map, List.length_range, List.take_length] at W4
      refine ⟨_, rfl, ?_⟩
      intro q dq nq ndq _
      rcases h with ⟨ok, k⟩ | ⟨l24, k⟩
      · exact .inl (rims_at nq ndq (SqL.of gw4) W4 ok fun H6 s6 R6 => k q H6 xs (s4.trans s6) R6)
      · have s0 : Same H4 (L2.upd (L2.upd H4 dq (.own q)) q (.ins CR dq [])) := fun b o e => by
          rw [upd_ne (ne_of_none e nq), upd_ne (ne_of_none e ndq)]
          exact e
        exact .inr ⟨H4, q, dq, w0, xs, ws, rfl, s0, nq, upd_same, SqL.of gw4, W4, l1, l4, hne, l24, l60, fun H6 s6 => k H6 (s4.trans (s0.trans s6))⟩
end
end W17
set_option Elab.async false
set_option linter.all false
set_option maxRecDepth 100000
set_option maxHeartbeats 1000000
namespace W17
open PySem L2 PySem.Spec PyProof.Rows WR WB WE WS
/-! ### a letter and its contrary put in: letters, homes, mates -/
def upM (p : Nat) (m : Int) : Int := if m < (p : Int) then m else m + 2
def insM (mt : List Int) (p : Nat) : List Int := (mt.map (upM p)).take p ++ [((p + 1 : Nat) : Int), ((p : Nat) : Int)] ++ (mt.map (upM p)).drop p
section
variable {A B : List (List Int)} {u v : List Int} {k : Int}
theorem fl_in : (A ++ [u ++ [k, -k] ++ v] ++ B).flatten = (A ++ [u ++ v] ++ B).flatten.take (A.flatten.length + u.length) ++ [k, -k] ++ (A ++ [u ++ v] ++ B).flatten.drop (A.flatten.length + u.length) := by
  have e1 : (A ++ [u ++ v] ++ B).flatten = (A.flatten ++ u) ++ (v ++ B.flatten) := by simp [List.append_assoc]
  have e2 : (A ++ [u ++ [k, -k] ++ v] ++ B).flatten = (A.flatten ++ u) ++ [k, -k] ++ (v ++ B.flatten) := by simp [List.append_assoc]
  rw [e1, e2, show A.flatten.length + u.length = (A.flatten ++ u).length by rw [List.length_append], List.take_left, List.drop_left]
theorem hm_in : hmF 0 (A ++ [u ++ [k, -k] ++ v] ++ B) = (hmF 0 (A ++ [u ++ v] ++ B)).take (A.flatten.length + u.length) ++ [(A.length : Int), (A.length : Int)] ++ (hmF 0 (A ++ [u ++ v] ++ B)).drop (A.flatten.length + u.length) := by
  have e1 : hmF 0 (A ++ [u ++ v] ++ B) = (hmF 0 A ++ List.replicate u.length (A.length : Int)) ++ (List.replicate v.length (A.length : Int) ++ hmF (A.length + 1) B) := by
    rw [hmF_app, hmF_app, Nat.zero_add, Nat.zero_add]
    have : hmF A.length [u ++ v] = List.replicate u.length (A.length : Int) ++ List.replicate v.length (A.length : Int) := by
      unfold hmF
      rw [show hmF (A.length + 1) [] = [] from rfl, List.append_nil, List.length_append, ← List.replicate_append_replicate]
    rw [this, show (A ++ [u ++ v]).length = A.length + 1 by rw [List.length_append]; rfl]
    simp only [List.append_assoc]
  have e2 : hmF 0 (A ++ [u ++ [k, -k] ++ v] ++ B) = (hmF 0 A ++ List.replicate u.length (A.length : Int)) ++ [(A.length : Int), (A.length : Int)] ++ (List.replicate v.length (A.length : Int) ++ hmF (A.length + 1) B) := by
    rw [hmF_app, hmF_app, Nat.zero_add, Nat.zero_add]
    have : hmF A.length [u ++ [k, -k] ++ v] = List.replicate u.length (A.length : Int) ++ [(A.length : Int), (A.length : Int)] ++ List.replicate v.length (A.length : Int) := by
      unfold hmF
      rw [show hmF (A.length + 1) [] = [] from rfl, List.append_nil, List.length_append, List.length_append, ← List.replicate_append_replicate, ← List.replicate_append_replicate]
      rfl
    rw [this, show (A ++ [u ++ [k, -k] ++ v]).length = A.length + 1 by rw [List.length_append]; rfl]
    simp only [List.append_assoc]
  have l : A.flatten.length + u.length = (hmF 0 A ++ List.replicate u.length (A.length : Int)).length := by rw [List.length_append, hmF_len, List.length_replicate]
  rw [e1, e2, l, List.take_left, List.drop_left]
theorem bal_in (xs ys : List Int) (k : Int) : Fr.bal (xs ++ [k, -k] ++ ys) = Fr.bal (xs ++ ys) := by
  have c : ∀ z : Int, Fr.cnt (xs ++ [k, -k] ++ ys) z = Fr.cnt (xs ++ ys) z := fun z => by
    unfold Fr.cnt
    simp only [List.count_append, List.count_cons, List.count_nil]
    have e1 : (k == z) = (-k == -z) := by
      by_cases h : k = z
      · subst h; simp
      · rw [beq_eq_false_iff_ne.mpr h, beq_eq_false_iff_ne.mpr (by omega)]
    have e2 : (-k == z) = (k == -z) := by
      by_cases h : -k = z
      · subst h; simp
      · rw [beq_eq_false_iff_ne.mpr h, beq_eq_false_iff_ne.mpr (by omega)]
    rw [e1, e2]
    omega
  unfold Fr.bal
  simp only [c]
theorem rim_in (ok : RimOk (A ++ [u ++ v] ++ B)) (hk : 1 ≤ k.natAbs ∧ k.natAbs ≤ 26) (l : (A ++ [u ++ v] ++ B).flatten.length + 2 ≤ 24) : RimOk (A ++ [u ++ [k, -k] ++ v] ++ B) := by
  obtain ⟨o1, o2, o3, o4, o5, o6⟩ := ok
  have ll : (A ++ [u ++ [k, -k] ++ v] ++ B).length = (A ++ [u ++ v] ++ B).length := by simp only [List.length_append, List.length_cons, List.length_nil]
  refine ⟨by rw [ll]; exact o1, by rw [ll]; exact o2, fun w hw => ?_, ?_, ?_, ?_⟩
  · rcases List.mem_append.mp hw with hw | hw
    · rcases List.mem_append.mp hw with hw | hw
      · exact o3 w (List.mem_append_left _ (List.mem_append_left _ hw))
      · rw [List.mem_singleton.mp hw]
        simp
    · exact o3 w (List.mem_append_right _ hw)
  · rw [len_in2]
    rw [len_in] at l
    omega
  · rw [fl_in]
    intro x hx
    rcases List.mem_append.mp hx with hx | hx
    · rcases List.mem_append.mp hx with hx | hx
      · exact o5 x (List.mem_of_mem_take hx)
      · simp only [List.mem_cons, List.mem_nil_iff, or_false] at hx
        rcases hx with rfl | rfl <;> omega
    · exact o5 x (List.mem_of_mem_drop hx)
  · rw [fl_in, bal_in, List.take_append_drop]
    exact o6
end
theorem upM_e {n p m : Nat} (hm : m < n) : upM p (m : Int) = ((eIn n p m : Nat) : Int) := by
  unfold upM eIn
  by_cases c : m < p
  · rw [if_pos (by omega), if_pos c]
  · rw [if_neg (by omega), if_neg c, if_pos hm]
    omega
theorem insM_len {mt : List Int} {p : Nat} (hp : p ≤ mt.length) : (insM mt p).length = mt.length + 2 := by
  unfold insM
  simp only [List.length_append, List.length_take, List.length_drop, List.length_map, List.length_cons, List.length_nil]
  omega
theorem insM_at {n p : Nat} {mt : List Int} (h : MatesOk n mt) (hp : p ≤ n) : mtn (insM mt p) p = p + 1 ∧ mtn (insM mt p) (p + 1) = p ∧ ∀ i, i < n → mtn (insM mt p) (eIn n p i) = eIn n p (mtn mt i) := by
  have lm : mt.length = n := h.1
  have lt : ((mt.map (upM p)).take p).length = p := by
    rw [List.length_take, List.length_map]
    omega
  have g1 : ∀ i, i < p → (insM mt p).getD i 0 = upM p (mt.getD i 0) := fun i hi => by
    unfold insM
    rw [List.getD_eq_getElem?_getD, List.getElem?_append_left (by rw [List.length_append, lt]; omega), List.getElem?_append_left (by rw [lt]; exact hi), List.getElem?_take_of_lt hi, List.getElem?_map, List.getElem?_eq_getElem (by omega), getD_lt (by omega)]
    rfl
  have g2 : ∀ i, p + 2 ≤ i → i < n + 2 → (insM mt p).getD i 0 = upM p (mt.getD (i - 2) 0) := fun i h1 h2 => by
    unfold insM
    rw [List.getD_eq_getElem?_getD, List.getElem?_append_right (by rw [List.length_append, lt]; exact h1), List.length_append, lt, List.getElem?_drop, List.getElem?_map]
    rw [show p + (i - (p + [((p + 1 : Nat) : Int), ((p : Nat) : Int)].length)) = i - 2 by simp only [List.length_cons, List.length_nil]; omega, List.getElem?_eq_getElem (by omega), getD_lt (by omega)]
    rfl
  refine ⟨?_, ?_, fun i hi => ?_⟩
  · unfold mtn insM
    rw [List.getD_eq_getElem?_getD, List.getElem?_append_left (by rw [List.length_append, lt]; simp), List.getElem?_append_right (by rw [lt]; exact Nat.le_refl _), lt, Nat.sub_self]
    rfl
  · unfold mtn insM
    rw [List.getD_eq_getElem?_getD, List.getElem?_append_left (by rw [List.length_append, lt]; simp), List.getElem?_append_right (by rw [lt]; omega), lt, show p + 1 - p = 1 by omega]
    rfl
  · obtain ⟨m1, _, m3⟩ := mtn_at h hi
    have key : upM p (mt.getD i 0) = ((eIn n p (mtn mt i) : Nat) : Int) := by rw [m3]; exact upM_e m1
    by_cases c : i < p
    · have e0 : eIn n p i = i := if_pos c
      rw [e0]
      unfold mtn
      rw [g1 i c, key]
      rfl
    · have e0 : eIn n p i = i + 2 := by
        unfold eIn
        rw [if_neg c, if_pos hi]
      rw [e0]
      unfold mtn
      rw [g2 (i + 2) (by omega) (by omega), show i + 2 - 2 = i by omega, key]
      rfl
theorem eIn_cases {n p i : Nat} (hp : p ≤ n) (hi : i < n + 2) : i = p ∨ i = p + 1 ∨ ∃ j, j < n ∧ i = eIn n p j := by
  by_cases c : i < p
  · exact .inr (.inr ⟨i, by omega, (if_pos c).symm⟩)
  · by_cases c1 : i = p
    · exact .inl c1
    · by_cases c2 : i = p + 1
      · exact .inr (.inl c2)
      · refine .inr (.inr ⟨i - 2, by omega, ?_⟩)
        unfold eIn
        rw [if_neg (by omega), if_pos (by omega)]
        omega
/-- the mates put in are mates -/
theorem mat_in {A B : List (List Int)} {u v : List Int} {k : Int} {mt : List Int} (h : MatOk (A ++ [u ++ v] ++ B).flatten mt) : MatOk (A ++ [u ++ [k, -k] ++ v] ++ B).flatten (insM mt (A.flatten.length + u.length)) := by
  obtain ⟨n, hn⟩ : ∃ n, n = (A ++ [u ++ v] ++ B).flatten.length := ⟨_, rfl⟩
  obtain ⟨p, hpp⟩ : ∃ p, p = A.flatten.length + u.length := ⟨_, rfl⟩
  have hpn : p ≤ n := by rw [hn, hpp, len_in]; omega
  have P := h.1
  rw [← hn] at P
  obtain ⟨i1, i2, i3⟩ := insM_at P.1 hpn
  have ll : (insM mt p).length = n + 2 := by rw [insM_len (by rw [P.1.1]; exact hpn), P.1.1]
  have l2 : (A ++ [u ++ [k, -k] ++ v] ++ B).flatten.length = n + 2 := by rw [len_in2, hn, len_in]
  -- letters
  have fe := fl_in (A := A) (B := B) (u := u) (v := v) (k := k)
  rw [← hpp] at fe
  have lt : ((A ++ [u ++ v] ++ B).flatten.take p).length = p := by rw [List.length_take, ← hn]; omega
  have f1 : (A ++ [u ++ [k, -k] ++ v] ++ B).flatten.getD p 0 = k := by
    rw [fe, List.getD_eq_getElem?_getD, List.getElem?_append_left (by rw [List.length_append, lt]; simp), List.getElem?_append_right (by rw [lt]; exact Nat.le_refl _), lt, Nat.sub_self]
    rfl
  have f2 : (A ++ [u ++ [k, -k] ++ v] ++ B).flatten.getD (p + 1) 0 = -k := by
    rw [fe, List.getD_eq_getElem?_getD, List.getElem?_append_left (by rw [List.length_append, lt]; simp), List.getElem?_append_right (by rw [lt]; omega), lt, show p + 1 - p = 1 by omega]
    rfl
  have f3 : ∀ i, i < n → (A ++ [u ++ [k, -k] ++ v] ++ B).flatten.getD (eIn n p i) 0 = (A ++ [u ++ v] ++ B).flatten.getD i 0 := fun i hi => by
    rw [fe]
    by_cases c : i < p
    · rw [show eIn n p i = i from if_pos c, List.getD_eq_getElem?_getD, List.getElem?_append_left (by rw [List.length_append, lt]; omega), List.getElem?_append_left (by rw [lt]; exact c), List.getElem?_take_of_lt c, List.getD_eq_getElem?_getD]
    · have e0 : eIn n p i = i + 2 := by
        unfold eIn
        rw [if_neg c, if_pos hi]
      rw [e0, List.getD_eq_getElem?_getD, List.getElem?_append_right (by rw [List.length_append, lt]; simp; omega), List.length_append, lt, List.getElem?_drop, List.getD_eq_getElem?_getD]
      rw [show p + (i + 2 - (p + [k, -k].length)) = i by simp only [List.length_cons, List.length_nil]; omega]
  have lm : ∀ i, i < n → (A ++ [u ++ v] ++ B).flatten.getD (mtn mt i) 0 = -(A ++ [u ++ v] ++ B).flatten.getD i 0 := fun i hi => by
    have := h.2 i (by rw [P.1.1]; exact hi)
    show (A ++ [u ++ v] ++ B).flatten.getD (mt.getD i 0).toNat 0 = _
    rw [show mt.getD i 0 = mt[i]'(by rw [P.1.1]; exact hi) from getD_lt _]
    exact this
  have bj := eIn_bij hpn
  have at_ : ∀ i, i < n + 2 → mtn (insM mt p) i < n + 2 ∧ mtn (insM mt p) i ≠ i ∧ mtn (insM mt p) (mtn (insM mt p) i) = i ∧ (A ++ [u ++ [k, -k] ++ v] ++ B).flatten.getD (mtn (insM mt p) i) 0 = -(A ++ [u ++ [k, -k] ++ v] ++ B).flatten.getD i 0 := fun i hi => by
    rcases eIn_cases hpn hi with rfl | rfl | ⟨j, hj, rfl⟩
    · rw [i1, i2, f1, f2]
      exact ⟨by omega, by omega, rfl, rfl⟩
    · rw [i2, i1, f1, f2]
      exact ⟨by omega, by omega, rfl, by omega⟩
    · have m1 := (mtn_at P.1 hj).1
      obtain ⟨v1, v2⟩ := pair_inv P hj
      rw [i3 j hj, i3 _ m1, v1, f3 _ m1, f3 _ hj]
      exact ⟨bj.lt _ (by omega), fun e => v2 (bj.inj _ _ (by omega) (by omega) e), rfl, lm j hj⟩
  have nn : ∀ i (hi : i < (insM mt p).length), (insM mt p)[i] = ((mtn (insM mt p) i : Nat) : Int) := fun i hi => by
    have e0 : 0 ≤ (insM mt p)[i] := by
      have hm := List.getElem_mem hi
      unfold insM at hm
      rcases List.mem_append.mp hm with hm | hm
      · rcases List.mem_append.mp hm with hm | hm
        · obtain ⟨m, hm2, e⟩ := List.mem_map.mp (List.mem_of_mem_take hm)
          have := (P.1.2 m hm2).1
          unfold insM
          rw [← e]
          unfold upM
          split <;> omega
        · unfold insM
          simp only [List.mem_cons, List.mem_nil_iff, or_false] at hm
          rcases hm with e | e <;> rw [e] <;> omega
      · obtain ⟨m, hm2, e⟩ := List.mem_map.mp (List.mem_of_mem_drop hm)
        have := (P.1.2 m hm2).1
        unfold insM
        rw [← e]
        unfold upM
        split <;> omega
    unfold mtn
    rw [getD_lt hi]
    omega
  rw [← hpp]
  refine ⟨?_, fun i hi => ?_⟩
  · rw [l2]
    refine mates_ok_of ll (mtn (insM mt p)) fun i hi => ?_
    obtain ⟨a1, a2, a3, _⟩ := at_ i (by rw [← ll]; exact hi)
    exact ⟨nn i hi, a1, a2, a3⟩
  · obtain ⟨_, _, _, a4⟩ := at_ i (by rw [← ll]; exact hi)
    rw [nn i hi, Int.toNat_natCast]
    exact a4
end W17
set_option Elab.async false
set_option linter.all false
set_option maxRecDepth 100000
set_option maxHeartbeats 1000000
namespace W17
open PySem L2 PySem.Spec PyProof.Rows WR WB WE WS
/-! ### a letter and its contrary put in -/
theorem home_mid {A B : List (List Int)} {u v : List Int} (hv : v ≠ []) : home (A ++ [u ++ v] ++ B) (A.flatten.length + u.length) = A.length := by
  have := List.length_pos_iff.mpr hv
  rw [hm_mid A B (u ++ v) (by rw [List.length_append]; omega), if_neg (by omega), if_pos (by rw [List.length_append]; omega)]
def spWP (K : PySem.W.Frag) (C CR CS CBS CNP CNL CTM : Addr) : Sp := fun vs H Q E => ∃ x pl l : V, vs = [x, pl, l] ∧ ((NotC K CS H x ∧ Bad "part" CBS E H (.str "sewing")) ∨
  ∃ (p rp : Addr) (xs : List Addr) (ws : List (List Int)) (mt : List Int) (t1 t2 : String), x = .ref p ∧ SewAt K C CR CS H p rp xs ws mt ∧ RimOk ws ∧ MatOk ws.flatten mt ∧ Typ H pl t1 ∧ Typ H l t2 ∧
    ((plB pl ws.flatten.length = false ∧ Bad "value" CNP E H pl) ∨ (plB pl ws.flatten.length = true ∧ letterB l = false ∧ Bad "value" CNL E H l) ∨
      ∃ (A B : List (List Int)) (u v : List Int) (k : Int), ws = A ++ [u ++ v] ++ B ∧ v ≠ [] ∧ pl = .int ((A.flatten.length + u.length : Nat) : Int) ∧ l = .int k ∧ (1 ≤ k.natAbs ∧ k.natAbs ≤ 26) ∧ ((24 < ws.flatten.length + 2 ∧ BadM CTM E H (.str "letters") 24) ∨
        (ws.flatten.length + 2 ≤ 24 ∧ ∀ q H' rq xs2, Same H H' → SewAt K C CR CS H' q rq xs2 (A ++ [u ++ [k, -k] ++ v] ++ B) (insM mt (A.flatten.length + u.length)) → Q (.ref q) H'))))
abbrev sWP : Stmt := top 63
abbrev nWP : List Str := ["sewing", "place", "letter", "rims", "home", "letters", "homes", "moved", "mate"]
theorem scWP : FnScope nWP ["sewing", "place", "letter"] (defScope sWP) := ⟨rfl, rfl, rfl, by decide +kernel, rfl, by decide +kernel, by decide +kernel⟩
section
variable {P : Program} {w : World} {K : PySem.W.Frag} {mg : Str → Option Value} {base : Heap} {C CR CS CBS CNP CNL CTM : Addr}
theorem ok_WP {f : Addr} {fd : FuncData} (F : Fun K "with_pair" "with_pair" sWP f fd) (N : TN mg) (T : TxW K mg C) (TC : TxRC K mg CR) (TS : TxSC K mg CS) (MS : MkS P w K mg base C CR CS) (G_need_sewing : CalX P w K mg base "need_sewing" 4 ["value", "part"] (spNeedS K C CR CS CBS)) (G_need_place : CalX P w K mg base "need_place" 4 ["rims", "value"] (spNeedPX K C CR CNP)) (G_need_letter : CalX P w K mg base "need_letter" 4 ["value"] (spNeedL CNL)) (G_rims_from : CalX P w K mg base "rims_from" 8 ["letters", "homes"] (spRF K C CR CTM)) : FnOk P w K mg base (L2.CX P w) 10 f fd ["sewing", "place", "letter"] (spWP K C CR CS CBS CNP CNL CTM) := by
  refine F.okX scWP (fun vs H Q E h => ?_) (fun cdv A outer s H vs Q E hr h => ?_)
  · obtain ⟨x, pl, l, rfl, _⟩ := h
    rfl
  · obtain ⟨x, pl, l, rfl, h⟩ := h
    refine ⟨_, pss_cons (ps_expr (pe_calX G_need_sewing hr (by decide) (passes_call (takes_of rfl rfl rfl rfl) (fun _ _ _ _ h => h)) (by rfl) (pa_cons (pv 0) (pa_cons pe_str pa_nil))))
      (pss_cons (ps_set (i := 3) scWP.nd rfl (Or.inl rfl) (pe_fld (pv 0) rfl))
      (pss_cons (ps_expr (pe_calX G_need_place hr (by decide) (passes_call (takes_of rfl rfl rfl rfl) (fun _ _ _ _ h => h)) (by rfl) (pa_cons (pv 3) (pa_cons (pv 1) pa_nil))))
      (pss_cons (ps_expr (pe_calX G_need_letter hr (by decide) (passes_call (takes_of rfl rfl rfl rfl) (fun _ _ _ _ h => h)) (by rfl) (pa_cons (pv 2) pa_nil)))
      (pss_cons (ps_set (i := 4) scWP.nd rfl (Or.inl rfl) (pe_ix ix_tup (pe_fld (pv 3) rfl) (pv 1) (fun _ _ => rfl)))
      (pss_cons (ps_set (i := 5) scWP.nd rfl (Or.inl rfl) (pe_op op_catB (pe_op op_catB (pe_slice sl_tupB (pe_fld (pv 3) rfl) po_none (po_some (pv 1))) (pe_tupB (pa_cons (pv 2) (pa_cons (pe_un un_neg (pv 2)) pa_nil)))) (pe_slice sl_tupB (pe_fld (pv 3) rfl) (po_some (pv 1)) po_none)))
      (pss_cons (ps_set (i := 6) scWP.nd rfl (Or.inl rfl) (pe_op op_catB (pe_op op_catB (pe_slice sl_tupB (pe_fld (pv 3) rfl) po_none (po_some (pv 1))) (pe_tupB (pa_cons (pv 4) (pa_cons (pv 4) pa_nil)))) (pe_slice sl_tupB (pe_fld (pv 3) rfl) (po_some (pv 1)) po_none)))
      (pss_cons (ps_setLc (i := 7) (own := [("mate", 8)]) (g := gName 8) (tt := tYes) rfl scWP.nd rfl rfl (sw_true rfl rfl rfl (by decide +kernel)) (pi_tup (pe_fld (pv 0) rfl)) (blkOk_by (N := nWP) (sc := defScope sWP) (by decide +kernel)) (fun _ _ _ _ _ => (pg_name (i := 8) scWP.nd rfl (Or.inl rfl))) (fun _ _ _ _ _ => pts_nil) (fun _ _ _ _ _ => (pe_ifExp (pt_cmpR op_lt (pv 8) (pv 1) (nomark _)) (pv 8) (pe_op op_add (pv 8) pe_int))))
      (pss_one (ps_ret (pe_sewK rfl MS TS hr (by decide) (by rfl) (pa_cons (pe_calX G_rims_from hr (by decide) (passes_call (takes_of rfl rfl rfl rfl) (fun _ _ _ _ h => h)) (by rfl) (pa_cons (pv 5) (pa_cons (pv 6) pa_nil))) (pa_cons (pe_op op_cat (pe_op op_cat (pe_slice sl_list (pv 7) po_none (po_some (pv 1))) (pe_lst (pa_cons (pe_op op_add (pv 1) pe_int) (pa_cons (pv 1) pa_nil)))) (pe_slice sl_list (pv 7) (po_some (pv 1)) po_none)) pa_nil)))))))))))), ?_⟩
    rcases h with ⟨hN, kb⟩ | ⟨p, rp, xs, ws, mt, t1, t2, rfl, hS, ok, mok, ht1, ht2, h⟩
    · exact ⟨_, rfl, x, _, rfl, .inl ⟨hN, kb⟩⟩
    obtain ⟨dx, tm, tc, tp, h1, R1, h3, h4, h5⟩ := id hS
    obtain ⟨d2, tw, tl, th, tn, r1, r2, r3, r4, r5, r6⟩ := id R1
    refine ⟨_, rfl, .ref p, _, rfl, .inr ⟨⟨p, rp, xs, ws, mt, rfl, hS⟩, ?_⟩⟩
    refine ⟨_, rfl, p, CS, dx, _, _, rfl, h1, TS.cl, TS.n1, sf_rims, ?_⟩
    try dsimp only
    refine at_set ?_
    try dsimp only
    refine ⟨_, rfl, _, rfl, rp, pl, t1, xs, ws, rfl, R1, ht1, ?_, fun hpl => ?_⟩
    · intro hb
      rcases h with ⟨_, kb⟩ | ⟨ha, _⟩ | ⟨A', B', u, v, k, rfl, hv, rfl, _⟩
      · exact kb
      · rw [hb] at ha
        cases ha
      · rw [plB_nat (by
          rw [len_in]
          have := List.length_pos_iff.mpr hv
          omega)] at hb
        cases hb
    refine ⟨_, rfl, l, t2, rfl, ht2, ?_, fun hl => ?_⟩
    · intro hb
      rcases h with ⟨ha, _⟩ | ⟨_, _, kb⟩ | ⟨A', B', u, v, k, rfl, hv, rfl, rfl, hk, _⟩
      · rw [hpl] at ha
        cases ha
      · exact kb
      · rw [letter_ok hk] at hb
        cases hb
    obtain ⟨A', B', u, v, k, rfl, hv, rfl, rfl, hk, h⟩ := (h.resolve_left fun z => by rw [hpl] at z; cases z.1).resolve_left fun z => by
      have := z.2.1
      rw [hl] at this
      cases this
    have hvl := List.length_pos_iff.mpr hv
    have pn : A'.flatten.length + u.length < (A' ++ [u ++ v] ++ B').flatten.length := by rw [len_in]; omega
    have l24 := ok.2.2.2.1
    obtain ⟨pp, epp⟩ : ∃ pp, pp = A'.flatten.length + u.length := ⟨_, rfl⟩
    have ghm := iv_get (home_at pn).1
    have ehm : home (A' ++ [u ++ v] ++ B') pp = A'.length := by rw [epp]; exact home_mid hv
    rw [← epp] at pn ghm h ⊢
    rw [ehm] at ghm
    try dsimp only
    refine ⟨_, rfl, rp, CR, d2, _, _, rfl, r1, TC.cl, TC.n6, rf_homes, _, rfl, th, _, _, _, rfl, rfl, r5.sq, atI_nat ghm, ?_⟩
    try dsimp only
    refine at_set ?_
    try dsimp only
    -- letters
    refine ⟨_, rfl, rp, CR, d2, _, _, rfl, r1, TC.cl, TC.n2, rf_letters, _, rfl, _, rfl, tl, _, rfl, r4, fun q1 H1 s1 B1 => ?_⟩
    refine ⟨_, rfl, _, rfl, _, rfl, by show 2 ≤ sizeLine; decide, fun q2 H2 s2 B2 => ?_⟩
    have c1 : cutV (iv (A' ++ [u ++ v] ++ B').flatten) none (some ((pp : Nat) : Int)) = iv ((A' ++ [u ++ v] ++ B').flatten.take pp) := cut_to (by omega)
    have c2 : cutV (iv (A' ++ [u ++ v] ++ B').flatten) (some ((pp : Nat) : Int)) none = iv ((A' ++ [u ++ v] ++ B').flatten.drop pp) := cut_from (by omega)
    rw [c1] at B1
    have s12 := s1.trans s2
    refine ⟨q1, q2, _, _, rfl, rfl, SqB.same s2 B1, B2, Evl.sz_of (by rw [List.length_map, List.length_take]; show _ + 2 ≤ _; omega), fun q3 H3 s3 B3 => ?_⟩
    have s13 := s12.trans s3
    refine ⟨_, rfl, rp, CR, d2, _, _, rfl, s13 _ _ r1, TC.cl, TC.n2, rf_letters, _, rfl, _, rfl, tl, _, rfl, SqB.same s13 r4, fun q4 H4 s4 B4 => ?_⟩
    rw [c2] at B4
    refine ⟨q3, q4, _, _, rfl, rfl, SqB.same s4 B3, B4, Evl.sz_of (by rw [List.length_append, List.length_map, List.length_take, List.length_map, List.length_drop]; show _ + 2 + _ ≤ _; omega), fun q5 H5 s5 B5 => ?_⟩
    have s15 := s13.trans (s4.trans s5)
    have fl2 := fl_in (A := A') (B := B') (u := u) (v := v) (k := k)
    have hm2 := hm_in (A := A') (B := B') (u := u) (v := v) (k := k)
    rw [← epp] at fl2 hm2
    have L5 : SqB K H5 q5 (iv (A' ++ [u ++ [k, -k] ++ v] ++ B').flatten) := by
      rw [fl2]
      unfold iv at B5 ⊢
      rw [List.map_append, List.map_append]
      exact B5
    clear B1 B2 B3 B4 B5 s2 s3 s4 s5 s12 s13
    try dsimp only
    refine at_set ?_
    try dsimp only
    -- homes
    have lhm : (hmF 0 (A' ++ [u ++ v] ++ B')).length = (A' ++ [u ++ v] ++ B').flatten.length := hmF_len _ _
    refine ⟨_, rfl, rp, CR, d2, _, _, rfl, s15 _ _ r1, TC.cl, TC.n6, rf_homes, _, rfl, _, rfl, th, _, rfl, SqB.same s15 r5, fun q6 H6 s6 B6 => ?_⟩
    rw [cut_to (by omega)] at B6
    refine ⟨_, rfl, _, rfl, by show 2 ≤ sizeLine; decide, fun q7 H7 s7 B7 => ?_⟩
    refine ⟨q6, q7, _, _, rfl, rfl, SqB.same s7 B6, B7, Evl.sz_of (by rw [List.length_map, List.length_take]; show _ + 2 ≤ _; omega), fun q8 H8 s8 B8 => ?_⟩
    have s18 := s15.trans (s6.trans (s7.trans s8))
    refine ⟨_, rfl, rp, CR, d2, _, _, rfl, s18 _ _ r1, TC.cl, TC.n6, rf_homes, _, rfl, _, rfl, th, _, rfl, SqB.same s18 r5, fun q9 H9 s9 B9 => ?_⟩
    rw [cut_from (by omega)] at B9
    refine ⟨q8, q9, _, _, rfl, rfl, SqB.same s9 B8, B9, Evl.sz_of (by rw [List.length_append, List.length_map, List.length_take, List.length_map, List.length_drop]; show _ + 2 + _ ≤ _; omega), fun qa Ha sa Ba => ?_⟩
    have s5a := (s6.trans (s7.trans s8)).trans (s9.trans sa)
    have s1a := s15.trans s5a
    have La := SqB.same s5a L5
    have Hm : SqB K Ha qa (iv (hmF 0 (A' ++ [u ++ [k, -k] ++ v] ++ B'))) := by
      rw [hm2]
      unfold iv at Ba ⊢
      rw [List.map_append, List.map_append]
      exact Ba
    clear B6 B7 B8 B9 Ba s6 s7 s8 s9 sa s5a L5 s15 s18
    try dsimp only
    refine at_set ?_
    try dsimp only
    -- mates, moved
    refine sq_lcS ?_
    refine ⟨_, rfl, p, CS, dx, _, _, rfl, s1a _ _ h1, TS.cl, TS.n2, sf_mates, tm, rfl, ⟨_, (SqB.same s1a h3).sq⟩, ?_⟩
    refine lcp (walk_tup (K := K) (a := tm) (xs := iv mt)) (fun _ => true) (fun x => match x with | .int z => .int (upM pp z) | y => y) (by rw [List.length_map, mok.1.1.1]; omega) (fun H2 s => (SqB.same s (SqB.same s1a h3)).sq) ?_ ?_
    · intro x hx H2 s2 Qy Qn ky kn
      obtain ⟨z, hz, rfl⟩ := List.mem_map.mp hx
      refine ⟨rfl, yes_te ?_⟩
      have kk := ky rfl H2 (Same.refl _)
      refine ⟨_, rfl, _, rfl, _, _, rfl, rfl, _, rfl, ?_⟩
      refine ite2 (fun hb => ⟨_, rfl, ?_⟩) (fun hb => ⟨_, rfl, _, _, rfl, rfl, ?_⟩)
      · have e : upM pp z = z := if_pos (of_decide_eq_true hb)
        have kk : Qy (.int (upM pp z)) H2 := kk
        rw [e] at kk
        exact kk
      · have e : upM pp z = z + 2 := if_neg fun c => hb (decide_eq_true c)
        have kk : Qy (.int (upM pp z)) H2 := kk
        rw [e] at kk
        exact kk
    · intro D Hb hD sb hb
      have gD : Hb D = some (.lst (iv (mt.map (upM pp)))) := by
        rw [hb, List.filter_eq_self.mpr (fun _ _ => rfl)]
        unfold iv
        rw [List.map_map, List.map_map]
        rfl
      have s1b := s1a.trans sb
      have Lb := SqB.same sb La
      have Hmb := SqB.same sb Hm
      have lmt : mt.length = (A' ++ [u ++ v] ++ B').flatten.length := mok.1.1.1
      obtain ⟨o1, o2, o3, o4, o5, o6⟩ := id ok
      have ll : (A' ++ [u ++ [k, -k] ++ v] ++ B').length = (A' ++ [u ++ v] ++ B').length := by simp only [List.length_append, List.length_cons, List.length_nil]
      have lf : (A' ++ [u ++ [k, -k] ++ v] ++ B').flatten.length = (A' ++ [u ++ v] ++ B').flatten.length + 2 := by rw [len_in2, len_in]
      have hne2 : ∀ w ∈ A' ++ [u ++ [k, -k] ++ v] ++ B', w ≠ [] := fun w hw => by
        rcases List.mem_append.mp hw with hw | hw
        · rcases List.mem_append.mp hw with hw | hw
          · exact o3 w (List.mem_append_left _ (List.mem_append_left _ hw))
          · rw [List.mem_singleton.mp hw]
            simp
        · exact o3 w (List.mem_append_right _ hw)
      have lts2 : Lts (A' ++ [u ++ [k, -k] ++ v] ++ B').flatten := fun x hx => by
        rw [fl2] at hx
        rcases List.mem_append.mp hx with hx | hx
        · rcases List.mem_append.mp hx with hx | hx
          · exact o5 x (List.mem_of_mem_take hx)
          · simp only [List.mem_cons, List.mem_nil_iff, or_false] at hx
            rcases hx with rfl | rfl <;> omega
        · exact o5 x (List.mem_of_mem_drop hx)
      try dsimp only
      refine at_set ?_
      try dsimp only
      refine ⟨_, rfl, _, rfl, q5, qa, A' ++ [u ++ [k, -k] ++ v] ++ B', rfl, .inr Lb.sq, .inr Hmb.sq, by rw [ll]; exact o1, by rw [ll]; exact o2, hne2, by rw [lf]; omega, lts2, ?_⟩
      rcases h with ⟨l25, kM⟩ | ⟨l24', kq⟩
      · exact .inr ⟨by rw [lf]; exact l25, fun Hc sc => kM Hc (s1b.trans sc)⟩
      have ok2 := rim_in ok hk l24'
      refine .inl ⟨ok2, fun rq Hc xs2 sc Rc => ?_⟩
      have gDc := sc _ _ gD
      -- the mates
      refine ⟨_, rfl, _, rfl, _, rfl, D, _, rfl, SqL.of gDc, fun p1 hp1 => ?_⟩
      have c3 : cutV (iv (mt.map (upM pp))) none (some ((pp : Nat) : Int)) = iv ((mt.map (upM pp)).take pp) := cut_to (by rw [List.length_map]; omega)
      have c4 : cutV (iv (mt.map (upM pp))) (some ((pp : Nat) : Int)) none = iv ((mt.map (upM pp)).drop pp) := cut_from (by rw [List.length_map]; omega)
      rw [c3]
      have t1 := same_upd (o := .lst (iv ((mt.map (upM pp)).take pp))) hp1
      have g1 : L2.upd Hc p1 (.lst (iv ((mt.map (upM pp)).take pp))) p1 = some (.lst (iv ((mt.map (upM pp)).take pp))) := upd_same
      generalize L2.upd Hc p1 (.lst (iv ((mt.map (upM pp)).take pp))) = Hd at t1 g1 ⊢
      refine ⟨_, rfl, _, _, rfl, rfl, _, rfl, by show 2 ≤ sizeLine; decide, fun p2 hp2 => ?_⟩
      have t2 := same_upd (o := .lst [.int ((pp : Int) + 1), .int (pp : Int)]) hp2
      have g2 : L2.upd Hd p2 (.lst [.int ((pp : Int) + 1), .int (pp : Int)]) p2 = some (.lst [.int ((pp : Int) + 1), .int (pp : Int)]) := upd_same
      have g1' := t2 _ _ g1
      generalize L2.upd Hd p2 (.lst [.int ((pp : Int) + 1), .int (pp : Int)]) = He at t2 g2 g1' ⊢
      refine ⟨p1, p2, _, _, rfl, rfl, g1', g2, Evl.sz_of (by rw [List.length_map, List.length_take, List.length_map]; show _ + 2 ≤ _; omega), fun p3 hp3 => ?_⟩
      have t3 := same_upd (o := .lst (iv ((mt.map (upM pp)).take pp) ++ [.int ((pp : Int) + 1), .int (pp : Int)])) hp3
      have g3 : L2.upd He p3 (.lst (iv ((mt.map (upM pp)).take pp) ++ [.int ((pp : Int) + 1), .int (pp : Int)])) p3 = some (.lst (iv ((mt.map (upM pp)).take pp) ++ [.int ((pp : Int) + 1), .int (pp : Int)])) := upd_same
      generalize L2.upd He p3 (.lst (iv ((mt.map (upM pp)).take pp) ++ [.int ((pp : Int) + 1), .int (pp : Int)])) = Hf at t3 g3 ⊢
      have tcf := t1.trans (t2.trans t3)
      refine ⟨_, rfl, _, rfl, _, rfl, D, _, rfl, SqL.of (tcf _ _ gDc), fun p4 hp4 => ?_⟩
      rw [c4]
      have t4 := same_upd (o := .lst (iv ((mt.map (upM pp)).drop pp))) hp4
      have g4 : L2.upd Hf p4 (.lst (iv ((mt.map (upM pp)).drop pp))) p4 = some (.lst (iv ((mt.map (upM pp)).drop pp))) := upd_same
      have g3' := t4 _ _ g3
      generalize L2.upd Hf p4 (.lst (iv ((mt.map (upM pp)).drop pp))) = Hg at t4 g4 g3' ⊢
      refine ⟨p3, p4, _, _, rfl, rfl, g3', g4, Evl.sz_of (by rw [List.length_append, List.length_map, List.length_take, List.length_map, List.length_map, List.length_drop, List.length_map]; show _ + 2 + _ ≤ _; omega), fun p5 hp5 => ?_⟩
      have t5 := same_upd (o := .lst (iv ((mt.map (upM pp)).take pp) ++ [.int ((pp : Int) + 1), .int (pp : Int)] ++ iv ((mt.map (upM pp)).drop pp))) hp5
      have g5 : L2.upd Hg p5 (.lst (iv ((mt.map (upM pp)).take pp) ++ [.int ((pp : Int) + 1), .int (pp : Int)] ++ iv ((mt.map (upM pp)).drop pp))) p5 = some (.lst (iv (insM mt pp))) := by
        rw [upd_same]
        unfold insM iv
        rw [List.map_append, List.map_append]
        rfl
      have tall := tcf.trans (t4.trans t5)
      intro q dq nq ndq _
      have mk2 := mat_in (A := A') (B := B') (u := u) (v := v) (k := k) mok
      rw [← epp] at mk2
      exact sew_at nq ndq (Rc.same tall) ok2 (.inl (SqL.of g5)) mk2 fun Hz sz Sz => kq q Hz rq xs2 ((s1b.trans sc).trans (tall.trans sz)) Sz
end
end W17
set_option Elab.async false
set_option linter.all false
set_option maxRecDepth 100000
set_option maxHeartbeats 1000000
namespace W17
open PySem L2 PySem.Spec PyProof.Rows WR WB WE WS
/-! ### two places taken out -/
/-- ws is ws2 without the places p and q, p's next; e: where the places that are kept stood -/
structure Cut2 (ws2 ws : List (List Int)) (e : Nat → Nat) (p q : Nat) : Prop where
  ins : ∃ t, Cy.Ins ws.flatten.length (nxN ws) (nxN ws2) e p q t
  len : ws2.flatten.length = ws.flatten.length + 2
  asc : ∀ i j, i < j → j < ws.flatten.length → e i < e j
  lets : ∀ i, i < ws.flatten.length → ws2.flatten.getD (e i) 0 = ws.flatten.getD i 0
  homs : ∀ i, i < ws.flatten.length → home ws2 (e i) = home ws i
  cnt : ws.length = ws2.length
  ne : ∀ w ∈ ws, w ≠ []
theorem gd_l {X Y : List Int} {i : Nat} (h : i < X.length) : (X ++ Y).getD i 0 = X.getD i 0 := by
  rw [List.getD_eq_getElem?_getD, List.getD_eq_getElem?_getD, List.getElem?_append_left h]
theorem gd_r {X Y : List Int} {i : Nat} (j : Nat) (h : i = X.length + j) : (X ++ Y).getD i 0 = Y.getD j 0 := by
  rw [List.getD_eq_getElem?_getD, List.getD_eq_getElem?_getD, List.getElem?_append_right (by omega), show i - X.length = j by omega]
theorem cut_in {A B : List (List Int)} {u v : List Int} {x y : Int} (hA : ∀ w ∈ A, w ≠ []) (hB : ∀ w ∈ B, w ≠ []) (huv : u ++ v ≠ []) :
    Cut2 (A ++ [u ++ [x, y] ++ v] ++ B) (A ++ [u ++ v] ++ B) (eIn (A ++ [u ++ v] ++ B).flatten.length (A.flatten.length + u.length)) (A.flatten.length + u.length) (A.flatten.length + u.length + 1) := by
  have hpn : A.flatten.length + u.length ≤ (A ++ [u ++ v] ++ B).flatten.length := by rw [len_in]; omega
  refine ⟨⟨_, ins_mid A B u v x y hA hB huv⟩, by rw [len_in2, len_in], fun i j hij hj => ?_, fun i hi => ?_, fun i hi => home_in hi, by simp only [List.length_append, List.length_cons, List.length_nil], fun w hw => ?_⟩
  · unfold eIn
    repeat' (first | omega | split)
  · have e1 : (A ++ [u ++ v] ++ B).flatten = (A.flatten ++ u) ++ (v ++ B.flatten) := by simp [List.append_assoc]
    have e2 : (A ++ [u ++ [x, y] ++ v] ++ B).flatten = (A.flatten ++ u) ++ ([x, y] ++ (v ++ B.flatten)) := by simp [List.append_assoc]
    have lp : (A.flatten ++ u).length = A.flatten.length + u.length := List.length_append
    by_cases c : i < A.flatten.length + u.length
    · rw [show eIn _ _ i = i from if_pos c, e1, e2, gd_l (X := A.flatten ++ u) (by rw [lp]; exact c), gd_l (X := A.flatten ++ u) (by rw [lp]; exact c)]
    · have e0 : eIn (A ++ [u ++ v] ++ B).flatten.length (A.flatten.length + u.length) i = i + 2 := by
        unfold eIn
        rw [if_neg c, if_pos hi]
      rw [e0, e1, e2, gd_r (X := A.flatten ++ u) (i := i + 2) (2 + (i - (A.flatten.length + u.length))) (by rw [lp]; omega), gd_r (X := [x, y]) (i - (A.flatten.length + u.length)) (by simp only [List.length_cons, List.length_nil]), gd_r (X := A.flatten ++ u) (i := i) (i - (A.flatten.length + u.length)) (by rw [lp]; omega)]
  · rcases List.mem_append.mp hw with hw | hw
    · rcases List.mem_append.mp hw with hw | hw
      · exact hA w hw
      · rw [List.mem_singleton.mp hw]
        exact huv
    · exact hB w hw
theorem cut_wr {A B : List (List Int)} {u : List Int} {x y : Int} (hA : ∀ w ∈ A, w ≠ []) (hB : ∀ w ∈ B, w ≠ []) (hu : u ≠ []) :
    Cut2 (A ++ [[y] ++ u ++ [x]] ++ B) (A ++ [u] ++ B) (eWr (A ++ [u] ++ B).flatten.length A.flatten.length u.length) (A.flatten.length + u.length + 1) A.flatten.length := by
  have len : (A ++ [u] ++ B).flatten.length = A.flatten.length + u.length + B.flatten.length := by
    simp only [List.flatten_append, List.length_append, List.flatten_cons, List.flatten_nil, List.append_nil]
  have lw2 : ([y] ++ u ++ [x]).length = u.length + 2 := by
    rw [List.length_append, List.length_append]
    simp only [List.length_cons, List.length_nil]
    omega
  have len2 : (A ++ [[y] ++ u ++ [x]] ++ B).flatten.length = A.flatten.length + u.length + B.flatten.length + 2 := by
    simp only [List.flatten_append, List.length_append, List.flatten_cons, List.flatten_nil, List.append_nil, List.length_cons, List.length_nil]
    omega
  have e1 : (A ++ [u] ++ B).flatten = A.flatten ++ (u ++ B.flatten) := by simp [List.append_assoc]
  have e2 : (A ++ [[y] ++ u ++ [x]] ++ B).flatten = A.flatten ++ ([y] ++ (u ++ ([x] ++ B.flatten))) := by simp [List.append_assoc]
  refine ⟨⟨_, ins_wrap A B u x y hA hB hu⟩, by rw [len2, len], fun i j hij hj => ?_, fun i hi => ?_, fun i hi => ?_, by simp only [List.length_append, List.length_cons, List.length_nil], fun w hw => ?_⟩
  · unfold eWr
    repeat' (first | omega | split)
  · rw [len] at hi
    by_cases c : i < A.flatten.length
    · rw [show eWr _ _ _ i = i from if_pos c, e1, e2, gd_l (X := A.flatten) c, gd_l (X := A.flatten) c]
    · by_cases c2 : i < A.flatten.length + u.length
      · have e0 : eWr (A ++ [u] ++ B).flatten.length A.flatten.length u.length i = i + 1 := by
          unfold eWr
          rw [if_neg c, if_pos c2]
        rw [e0, e1, e2, gd_r (X := A.flatten) (i := i + 1) (1 + (i - A.flatten.length)) (by omega), gd_r (X := [y]) (i - A.flatten.length) (by simp only [List.length_cons, List.length_nil]), gd_r (X := A.flatten) (i := i) (i - A.flatten.length) (by omega), gd_l (X := u) (by omega), gd_l (X := u) (by omega)]
      · have e0 : eWr (A ++ [u] ++ B).flatten.length A.flatten.length u.length i = i + 2 := by
          unfold eWr
          rw [if_neg c, if_neg c2, if_pos (by rw [len]; exact hi)]
        rw [e0, e1, e2, gd_r (X := A.flatten) (i := i + 2) (1 + (u.length + (1 + (i - A.flatten.length - u.length)))) (by omega), gd_r (X := [y]) (u.length + (1 + (i - A.flatten.length - u.length))) (by simp only [List.length_cons, List.length_nil]), gd_r (X := u) (1 + (i - A.flatten.length - u.length)) rfl, gd_r (X := [x]) (i - A.flatten.length - u.length) (by simp only [List.length_cons, List.length_nil]), gd_r (X := A.flatten) (i := i) (u.length + (i - A.flatten.length - u.length)) (by omega), gd_r (X := u) (i - A.flatten.length - u.length) rfl]
  · rw [len] at hi
    have h1 := hm_mid A B u (j := i) hi
    have h2 := fun {j} (hj : j < A.flatten.length + (u.length + 2) + B.flatten.length) => hm_mid A B ([y] ++ u ++ [x]) (j := j) (by rw [lw2]; exact hj)
    rw [h1]
    by_cases c : i < A.flatten.length
    · rw [show eWr _ _ _ i = i from if_pos c, h2 (by omega), if_pos c, if_pos c]
    · by_cases c2 : i < A.flatten.length + u.length
      · have e0 : eWr (A ++ [u] ++ B).flatten.length A.flatten.length u.length i = i + 1 := by
          unfold eWr
          rw [if_neg c, if_pos c2]
        rw [e0, h2 (by omega), lw2, if_neg c, if_neg (show ¬ i + 1 < A.flatten.length by omega), if_pos c2, if_pos (show i + 1 < A.flatten.length + (u.length + 2) by omega)]
      · have e0 : eWr (A ++ [u] ++ B).flatten.length A.flatten.length u.length i = i + 2 := by
          unfold eWr
          rw [if_neg c, if_neg c2, if_pos (by rw [len]; exact hi)]
        rw [e0, h2 (by omega), lw2, if_neg c, if_neg (show ¬ i + 2 < A.flatten.length by omega), if_neg c2, if_neg (show ¬ i + 2 < A.flatten.length + (u.length + 2) by omega), show i + 2 - A.flatten.length - (u.length + 2) = i - A.flatten.length - u.length by omega]
  · rcases List.mem_append.mp hw with hw | hw
    · rcases List.mem_append.mp hw with hw | hw
      · exact hA w hw
      · rw [List.mem_singleton.mp hw]
        exact hu
    · exact hB w hw
end W17
set_option Elab.async false
set_option linter.all false
set_option maxRecDepth 100000
set_option maxHeartbeats 1000000
namespace W17
open PySem L2 PySem.Spec PyProof.Rows WR WB WE WS
/-! ### mates of what is left -/
theorem asc_eqN : ∀ {a b : List Nat}, a.Pairwise (· < ·) → b.Pairwise (· < ·) → (∀ z, z ∈ a ↔ z ∈ b) → a = b
  | [], [], _, _, _ => rfl
  | [], y :: b, _, _, h => absurd ((h y).mpr List.mem_cons_self) (by simp)
  | x :: a, [], _, _, h => absurd ((h x).mp List.mem_cons_self) (by simp)
  | x :: a, y :: b, ha, hb, h => by
    have h1 := List.pairwise_cons.mp ha
    have h2 := List.pairwise_cons.mp hb
    have e : x = y := by
      rcases List.mem_cons.mp ((h x).mp List.mem_cons_self) with e | m
      · exact e
      · rcases List.mem_cons.mp ((h y).mpr List.mem_cons_self) with e | m2
        · exact e.symm
        · have := h2.1 x m
          have := h1.1 y m2
          omega
    subst e
    rw [asc_eqN h1.2 h2.2 fun z => ?_]
    constructor
    · intro hz
      rcases List.mem_cons.mp ((h z).mp (List.mem_cons_of_mem _ hz)) with e | m
      · have := h1.1 z hz
        omega
      · exact m
    · intro hz
      rcases List.mem_cons.mp ((h z).mpr (List.mem_cons_of_mem _ hz)) with e | m
      · have := h2.1 z hz
        omega
      · exact m
section
variable {ws2 ws : List (List Int)} {e : Nat → Nat} {p q : Nat}
theorem Cut2.bij (C : Cut2 ws2 ws e p q) : Cy.Bij (ws.flatten.length + 2) e ∧ e ws.flatten.length = p ∧ e (ws.flatten.length + 1) = q ∧ nxN ws2 p = q := by
  obtain ⟨t, I⟩ := C.ins
  exact ⟨I.he, I.en, I.en1, I.pq⟩
theorem Cut2.pq (C : Cut2 ws2 ws e p q) : p ≠ q ∧ p < ws2.flatten.length ∧ q < ws2.flatten.length := by
  obtain ⟨b, h1, h2, _⟩ := C.bij
  rw [C.len]
  refine ⟨fun z => ?_, by rw [← h1]; exact b.lt _ (by omega), by rw [← h2]; exact b.lt _ (by omega)⟩
  have := b.inj ws.flatten.length (ws.flatten.length + 1) (by omega) (by omega) (by rw [h1, h2, z])
  omega
theorem Cut2.e_in (C : Cut2 ws2 ws e p q) {i : Nat} (hi : i < ws.flatten.length) : e i < ws2.flatten.length ∧ e i ≠ p ∧ e i ≠ q := by
  obtain ⟨b, h1, h2, _⟩ := C.bij
  rw [C.len]
  refine ⟨b.lt _ (by omega), fun z => ?_, fun z => ?_⟩
  · have := b.inj i ws.flatten.length (by omega) (by omega) (z.trans h1.symm)
    omega
  · have := b.inj i (ws.flatten.length + 1) (by omega) (by omega) (z.trans h2.symm)
    omega
theorem Cut2.of_in (C : Cut2 ws2 ws e p q) {k : Nat} (hk : k < ws2.flatten.length) (np : k ≠ p) (nq : k ≠ q) : ∃ i, i < ws.flatten.length ∧ e i = k := by
  obtain ⟨b, h1, h2, _⟩ := C.bij
  rw [C.len] at hk
  obtain ⟨i, hi, hie⟩ := b.hit hk
  have n1 : i ≠ ws.flatten.length := fun z => np (by rw [← hie, z, h1])
  have n2 : i ≠ ws.flatten.length + 1 := fun z => nq (by rw [← hie, z, h2])
  exact ⟨i, by omega, hie⟩
theorem Cut2.kept (C : Cut2 ws2 ws e p q) : (List.range ws2.flatten.length).filter (fun i => !(decide (i = p) || decide (i = q))) = (List.range ws.flatten.length).map e := by
  refine asc_eqN ((List.pairwise_lt_range).filter _) (List.pairwise_map.mpr (List.pairwise_lt_range.imp_of_mem fun {a b} _ hb h => C.asc a b h (List.mem_range.mp hb))) fun z => ?_
  rw [List.mem_filter, List.mem_range, List.mem_map]
  constructor
  · rintro ⟨h1, h2⟩
    simp only [Bool.not_eq_true', Bool.or_eq_false_iff, decide_eq_false_iff_not] at h2
    obtain ⟨i, hi, he⟩ := C.of_in h1 h2.1 h2.2
    exact ⟨i, List.mem_range.mpr hi, he⟩
  · rintro ⟨i, hi, rfl⟩
    obtain ⟨a1, a2, a3⟩ := C.e_in (List.mem_range.mp hi)
    refine ⟨a1, ?_⟩
    simp only [Bool.not_eq_true', Bool.or_eq_false_iff, decide_eq_false_iff_not]
    exact ⟨a2, a3⟩
/-- where each goes, p and q taken out -/
def m3 (mt : List Int) (p q k : Nat) : Nat := if k = mtn mt q then mtn mt p else if k = mtn mt p then mtn mt q else mtn mt k
def setM (mt : List Int) (p q : Nat) : List Int := (mt.set (mtn mt p) ((mtn mt q : Nat) : Int)).set (mtn mt q) ((mtn mt p : Nat) : Int)
def takM (mt : List Int) (p q : Nat) (ks : List Nat) : List Int := nats (keptF (setM mt p q) ks)
variable {mt : List Int}
theorem setM_at (P : PairOk ws2.flatten.length mt) (hp : p < ws2.flatten.length) (hq : q < ws2.flatten.length) {k : Nat} (hk : k < ws2.flatten.length) : (setM mt p q)[k]? = some ((m3 mt p q k : Nat) : Int) ∧ mtn (setM mt p q) k = m3 mt p q k := by
  have lm : mt.length = ws2.flatten.length := P.1.1
  have a1 := (mtn_at P.1 hp).1
  have b1 := (mtn_at P.1 hq).1
  have key : (setM mt p q)[k]? = some ((m3 mt p q k : Nat) : Int) := by
    unfold setM m3
    rw [List.getElem?_set, List.getElem?_set, List.length_set]
    by_cases c1 : mtn mt q = k
    · rw [if_pos c1, if_pos (by omega), if_pos c1.symm]
    · rw [if_neg c1, if_neg (show ¬ k = mtn mt q from fun z => c1 z.symm)]
      by_cases c2 : mtn mt p = k
      · rw [if_pos c2, if_pos (by omega), if_pos c2.symm]
      · rw [if_neg c2, if_neg (show ¬ k = mtn mt p from fun z => c2 z.symm)]
        exact (mtn_at P.1 hk).2.1
  refine ⟨key, ?_⟩
  show ((setM mt p q).getD k 0).toNat = _
  rw [List.getD_eq_getElem?_getD, key]
  rfl
/-- places that are kept have mates that are kept -/
theorem m3_ok (P : PairOk ws2.flatten.length mt) (hp : p < ws2.flatten.length) (hq : q < ws2.flatten.length) (npq : p ≠ q) {k : Nat} (hk : k < ws2.flatten.length) (kp : k ≠ p) (kq : k ≠ q) : m3 mt p q k < ws2.flatten.length ∧ m3 mt p q k ≠ p ∧ m3 mt p q k ≠ q ∧ m3 mt p q k ≠ k ∧ m3 mt p q (m3 mt p q k) = k := by
  have a1 := (mtn_at P.1 hp).1
  have b1 := (mtn_at P.1 hq).1
  have k1 := (mtn_at P.1 hk).1
  obtain ⟨ip, np⟩ := pair_inv P hp
  obtain ⟨iq, nq⟩ := pair_inv P hq
  obtain ⟨ik, nk⟩ := pair_inv P hk
  have nab : mtn mt p ≠ mtn mt q := fun z => npq (by rw [← ip, z, iq])
  by_cases c1 : k = mtn mt q
  · -- the mate of q
    have e1 : m3 mt p q k = mtn mt p := if_pos c1
    have aq : mtn mt p ≠ q := fun z => kp (by rw [c1, ← z, ip])
    rw [e1]
    refine ⟨a1, np, aq, by rw [c1]; exact nab, ?_⟩
    unfold m3
    rw [if_neg nab, if_pos rfl, c1]
  · by_cases c2 : k = mtn mt p
    · have e1 : m3 mt p q k = mtn mt q := by
        unfold m3
        rw [if_neg c1, if_pos c2]
      have bp : mtn mt q ≠ p := fun z => kq (by rw [c2, ← z, iq])
      rw [e1]
      refine ⟨b1, bp, nq, by rw [c2]; exact nab.symm, ?_⟩
      unfold m3
      rw [if_pos rfl, c2]
    · have e1 : m3 mt p q k = mtn mt k := by
        unfold m3
        rw [if_neg c1, if_neg c2]
      have mp : mtn mt k ≠ p := fun z => c2 (by rw [← z, ik])
      have mq : mtn mt k ≠ q := fun z => c1 (by rw [← z, ik])
      rw [e1]
      refine ⟨k1, mp, mq, nk, ?_⟩
      unfold m3
      rw [if_neg (fun z => kq (by rw [← ik, z, iq])), if_neg (fun z => kp (by rw [← ik, z, ip])), ik]
theorem idx_map {n : Nat} {f : Nat → Nat} (h : ∀ i j, i < j → j < n → f i < f j) {j : Nat} (hj : j < n) : ((List.range n).map f).idxOf (f j) = j := by
  have nd : ((List.range n).map f).Nodup := List.pairwise_map.mpr (List.pairwise_lt_range.imp_of_mem fun {a b} _ hb lt => Nat.ne_of_lt (h a b lt (List.mem_range.mp hb)))
  have hl : j < ((List.range n).map f).length := by simpa using hj
  have e : ((List.range n).map f)[j] = f j := by rw [List.getElem_map, List.getElem_range]
  have := nd.idxOf_getElem j hl
  rw [e] at this
  exact this
/-- what the mates of what is left are -/
theorem takM_at (C : Cut2 ws2 ws e p q) (P : PairOk ws2.flatten.length mt) : (takM mt p q ((List.range ws.flatten.length).map e)).length = ws.flatten.length ∧ ∀ i, i < ws.flatten.length → mtn (takM mt p q ((List.range ws.flatten.length).map e)) i < ws.flatten.length ∧ (takM mt p q ((List.range ws.flatten.length).map e))[i]? = some ((mtn (takM mt p q ((List.range ws.flatten.length).map e)) i : Nat) : Int) ∧ e (mtn (takM mt p q ((List.range ws.flatten.length).map e)) i) = m3 mt p q (e i) := by
  obtain ⟨npq, hp, hq⟩ := C.pq
  have ll : (takM mt p q ((List.range ws.flatten.length).map e)).length = ws.flatten.length := by
    unfold takM nats keptF
    simp only [List.length_map, List.length_range]
  refine ⟨ll, fun i hi => ?_⟩
  obtain ⟨a1, a2, a3⟩ := C.e_in hi
  obtain ⟨b1, b2, b3, _⟩ := m3_ok P hp hq npq a1 a2 a3
  obtain ⟨j, hj, ej⟩ := C.of_in b1 b2 b3
  have g : (takM mt p q ((List.range ws.flatten.length).map e))[i]? = some ((j : Nat) : Int) := by
    unfold takM nats keptF
    rw [List.getElem?_map, List.getElem?_map, List.getElem?_map, List.getElem?_range hi]
    show some (((((List.range ws.flatten.length).map e).idxOf (mtn (setM mt p q) (e i)) : Nat)) : Int) = _
    rw [(setM_at P hp hq a1).2, ← ej, idx_map C.asc hj]
  have gm : mtn (takM mt p q ((List.range ws.flatten.length).map e)) i = j := by
    unfold mtn
    rw [List.getD_eq_getElem?_getD, g]
    rfl
  rw [gm]
  exact ⟨hj, g, ej⟩
theorem take_mat (C : Cut2 ws2 ws e p q) (h : MatOk ws2.flatten mt) (hl : ws2.flatten.getD p 0 = -ws2.flatten.getD q 0) : MatOk ws.flatten (takM mt p q ((List.range ws.flatten.length).map e)) := by
  obtain ⟨npq, hp, hq⟩ := C.pq
  have P := h.1
  obtain ⟨ll, at_⟩ := takM_at C P
  have bj := C.bij.1
  have lm : ∀ k, k < ws2.flatten.length → ws2.flatten.getD (mtn mt k) 0 = -ws2.flatten.getD k 0 := fun k hk => by
    have := h.2 k (by rw [P.1.1]; exact hk)
    show ws2.flatten.getD (mt.getD k 0).toNat 0 = _
    rw [show mt.getD k 0 = mt[k]'(by rw [P.1.1]; exact hk) from getD_lt _]
    exact this
  have l3 : ∀ k, k < ws2.flatten.length → k ≠ p → k ≠ q → ws2.flatten.getD (m3 mt p q k) 0 = -ws2.flatten.getD k 0 := fun k hk _ _ => by
    unfold m3
    by_cases c1 : k = mtn mt q
    · rw [if_pos c1, lm p hp, c1, lm q hq, hl]
    · rw [if_neg c1]
      by_cases c2 : k = mtn mt p
      · rw [if_pos c2, lm q hq, c2, lm p hp, hl]
        omega
      · rw [if_neg c2]
        exact lm k hk
  have nn : ∀ i (hi : i < (takM mt p q ((List.range ws.flatten.length).map e)).length), (takM mt p q ((List.range ws.flatten.length).map e))[i] = ((mtn (takM mt p q ((List.range ws.flatten.length).map e)) i : Nat) : Int) := fun i hi => by
    have := (at_ i (by rw [← ll]; exact hi)).2.1
    rw [List.getElem?_eq_getElem hi] at this
    exact Option.some.inj this
  refine ⟨mates_ok_of ll (mtn (takM mt p q ((List.range ws.flatten.length).map e))) fun i hi => ?_, fun i hi => ?_⟩
  · have hi2 : i < ws.flatten.length := by rw [← ll]; exact hi
    obtain ⟨a1, _, a3⟩ := at_ i hi2
    obtain ⟨b1, b2, b3⟩ := C.e_in hi2
    obtain ⟨c1, c2, c3, c4, c5⟩ := m3_ok P hp hq npq b1 b2 b3
    refine ⟨nn i hi, a1, fun z => c4 (by rw [← a3, z]), ?_⟩
    obtain ⟨d1, _, d3⟩ := at_ _ a1
    rw [a3, c5] at d3
    exact bj.inj _ _ (by omega) (by omega) d3
  · have hi2 : i < ws.flatten.length := by rw [← ll]; exact hi
    obtain ⟨a1, _, a3⟩ := at_ i hi2
    obtain ⟨b1, b2, b3⟩ := C.e_in hi2
    rw [nn i hi, Int.toNat_natCast, ← C.lets _ a1, a3, l3 _ b1 b2 b3, C.lets _ hi2]
/-- the cost stays if they were mates; else it stays or falls by two -/
theorem take_cost (C : Cut2 ws2 ws e p q) (hne2 : ∀ w ∈ ws2, w ≠ []) (h : MatOk ws2.flatten mt) (hl : ws2.flatten.getD p 0 = -ws2.flatten.getD q 0) :
    (mtn mt p = q → costF ws (takM mt p q ((List.range ws.flatten.length).map e)) = costF ws2 mt) ∧
    (mtn mt p ≠ q → costF ws (takM mt p q ((List.range ws.flatten.length).map e)) = costF ws2 mt ∨ costF ws (takM mt p q ((List.range ws.flatten.length).map e)) = costF ws2 mt - 2) := by
  obtain ⟨npq, hp, hq⟩ := C.pq
  have P := h.1
  obtain ⟨ll, at_⟩ := takM_at C P
  obtain ⟨t, I⟩ := C.ins
  have T := take_mat C h hl
  obtain ⟨ip, np⟩ := pair_inv P hp
  obtain ⟨iq, nq⟩ := pair_inv P hq
  refine ⟨fun c => ?_, fun c => ?_⟩
  · refine (ins_cost C.ne hne2 C.len I T.1 P c (by rw [← c, ip]) fun i hi => ?_).symm
    rw [(at_ i hi).2.2]
    obtain ⟨b1, b2, b3⟩ := C.e_in hi
    unfold m3
    rw [if_neg (fun z => b2 (by rw [z, ← c, ip])), if_neg (fun z => b3 (by rw [z, c]))]
  · have b1 := (mtn_at P.1 hq).1
    have npb : p ≠ mtn mt q := fun z => c (by rw [z, iq])
    have nab : mtn mt p ≠ mtn mt q := fun z => npq (by rw [← ip, z, iq])
    have f := free_cost hne2 h hp hq npq I.pq c
    have i1 := ins_cost C.ne hne2 C.len I T.1 (swpF_pair P hp b1) (by
      rw [swpF_mtn (by rw [P.1.1]; exact hp), Cy.swp_l, iq, Cy.swp_o npq.symm nq.symm]) (by
      rw [swpF_mtn (by rw [P.1.1]; exact hq), Cy.swp_o npq.symm nq.symm, Cy.swp_r]) fun i hi => by
      obtain ⟨d1, d2, d3⟩ := C.e_in hi
      rw [(at_ i hi).2.2, swpF_mtn (by rw [P.1.1]; exact d1)]
      unfold m3
      by_cases c1 : e i = mtn mt q
      · rw [if_pos c1, c1, Cy.swp_r, Cy.swp_o np nab]
      · rw [if_neg c1, Cy.swp_o d2 c1]
        by_cases c2 : e i = mtn mt p
        · rw [if_pos c2, c2, ip, Cy.swp_l]
        · rw [if_neg c2, Cy.swp_o]
          · intro z
            exact c2 (by rw [← z, (pair_inv P d1).1])
          · intro z
            exact d3 (by rw [← (pair_inv P d1).1, z, iq])
    rw [← i1]
    exact f
end
end W17
set_option Elab.async false
set_option linter.all false
set_option maxRecDepth 100000
set_option maxHeartbeats 1000000
namespace W17
open PySem L2 PySem.Spec PyProof.Rows WR WB WE WS
/-! ### a place and its next taken out -/
theorem pe_tupBK {X : Cx} {K : PySem.W.Frag} (hK : X.K = K) {es : List Expr} {t : TA} {pos : Pos} {x1} (h : PA X es t) : PE X (.Tuple es x1 pos) (fun σ H Q => t σ H fun xs H1 => xs.length ≤ sizeLine ∧ NewB K H1 Q xs) := hK ▸ pe_tupB h
theorem bal_perm {xs ys : List Int} (h : xs.Perm ys) : Fr.bal xs = Fr.bal ys := by
  have c : ∀ z : Int, Fr.cnt xs z = Fr.cnt ys z := fun z => by
    unfold Fr.cnt
    rw [h.count_eq, h.count_eq]
  unfold Fr.bal
  simp only [c]
theorem Cut2.perm {ws2 ws : List (List Int)} {e : Nat → Nat} {p q : Nat} (C : Cut2 ws2 ws e p q) : ws2.flatten.Perm (ws.flatten ++ [ws2.flatten.getD p 0, ws2.flatten.getD q 0]) := by
  obtain ⟨npq, hp, hq⟩ := C.pq
  have e1 : ws2.flatten = (List.range ws2.flatten.length).map fun i => ws2.flatten.getD i 0 := self_map _
  have e2 : ws.flatten ++ [ws2.flatten.getD p 0, ws2.flatten.getD q 0] = ((List.range ws.flatten.length).map e ++ [p, q]).map fun i => ws2.flatten.getD i 0 := by
    rw [List.map_append, List.map_map]
    congr 1
    conv => lhs; rw [self_map ws.flatten]
    refine List.map_congr_left fun i hi => ?_
    exact (C.lets i (List.mem_range.mp hi)).symm
  rw [e2]
  conv => lhs; rw [e1]
  refine List.Perm.map _ ((List.perm_ext_iff_of_nodup List.nodup_range ?_).mpr fun z => ?_)
  · refine List.nodup_append.mpr ⟨?_, by simp [npq], fun a ha b hb z => ?_⟩
    · exact List.pairwise_map.mpr (List.pairwise_lt_range.imp_of_mem fun {a b} _ hb lt => Nat.ne_of_lt (C.asc a b lt (List.mem_range.mp hb)))
    · obtain ⟨i, hi, rfl⟩ := List.mem_map.mp ha
      obtain ⟨_, n1, n2⟩ := C.e_in (List.mem_range.mp hi)
      simp only [List.mem_cons, List.mem_nil_iff, or_false] at hb
      rcases hb with h | h
      · exact n1 (z.trans h)
      · exact n2 (z.trans h)
  · rw [List.mem_range, List.mem_append, List.mem_map]
    constructor
    · intro hz
      by_cases z1 : z = p
      · exact .inr (by simp [z1])
      · by_cases z2 : z = q
        · exact .inr (by simp [z2])
        · obtain ⟨i, hi, he⟩ := C.of_in hz z1 z2
          exact .inl ⟨i, List.mem_range.mpr hi, he⟩
    · rintro (⟨i, hi, rfl⟩ | h)
      · exact (C.e_in (List.mem_range.mp hi)).1
      · simp only [List.mem_cons, List.mem_nil_iff, or_false] at h
        rcases h with rfl | rfl
        · exact hp
        · exact hq
theorem Cut2.rim {ws2 ws : List (List Int)} {e : Nat → Nat} {p q : Nat} (C : Cut2 ws2 ws e p q) (ok : RimOk ws2) (hl : ws2.flatten.getD p 0 = -ws2.flatten.getD q 0) : RimOk ws := by
  obtain ⟨o1, o2, o3, o4, o5, o6⟩ := ok
  have P := C.perm
  refine ⟨by rw [C.cnt]; exact o1, by rw [C.cnt]; exact o2, C.ne, by have := C.len; omega, fun x hx => o5 x (P.mem_iff.mpr (List.mem_append_left _ hx)), ?_⟩
  have b := bal_perm P
  have e2 : ws.flatten ++ [ws2.flatten.getD p 0, ws2.flatten.getD q 0] = ws.flatten ++ [ws2.flatten.getD p 0, -ws2.flatten.getD p 0] ++ [] := by
    rw [List.append_nil, show ws2.flatten.getD q 0 = -ws2.flatten.getD p 0 by omega]
  rw [e2, bal_in, List.append_nil, o6] at b
  exact b.symm
theorem lcRM {n : Nat} {g : TG} {tt : TT} {te : TE} {vs : List Nat} {σ : L2.St} {H1 : Hp} {Q : VK} (f : Nat → Bool) (R : Hp → V → Nat → Prop) (hst : ∀ H H' v b, R H v b → Same H H' → R H' v b) (hput : ∀ D H ws o v b, H D = some (.lst ws) → R H v b → R (L2.upd H D o) v b) (hz : n < 40000)
    (hs : ∀ i, i < n → ∀ H, Same H1 H → ∀ (Qy : V → Hp → Prop) (Qn : Hp → Prop), (f i = true → ∀ v H', Same H H' → R H' v i → Qy v H') → (f i = false → ∀ H', Same H H' → Qn H') →
      g (.int ((i : Nat) : Int)) (wipe σ vs) H fun σ2 H2 => wipe σ2 vs = wipe σ vs ∧ tt σ2 H2 fun b H3 => if b = true then te σ2 H3 Qy else Qn H3)
    (hd : ∀ (D : Addr) H' ws, H1 D = none → Same H1 H' → H' D = some (.lst ws) → All2 (R H') ws ((List.range n).filter f) → Q (.ref D) H') : tLc (fun _ H R => R (Itr 0 n) H) g tt te vs σ H1 Q := by
  intro D hD
  refine lc_it (walk_range (lo := 0) (n := n)) (fun i H => Same H1 H ∧ ∃ ws, H D = some (.lst ws) ∧ All2 (R H) ws ((List.range i).filter f)) ⟨fun b o e => by rw [upd_ne (ne_of_none e hD)]; exact e, [], upd_same, .nil⟩ (fun i H _ q => trivial) ?_ ?_
  · rintro i x H H' hi ⟨sm, ws, hw, h2⟩ ⟨rfl, ex⟩
    obtain rfl : x = V.int ((i : Nat) : Int) := by
      rw [ex]
      show V.int (0 + ((i : Nat) : Int)) = _
      rw [Int.zero_add]
    refine hs i hi H' sm _ _ (fun hf v H2 s2 r => ⟨_, s2 _ _ hw, ?_, ?_, ?_⟩) (fun hf H2 s2 => ⟨fun b o e => s2 b o (sm b o e), ws, s2 _ _ hw, ?_⟩)
    · refine Evl.sz_lt ?_
      rw [h2.length]
      have := List.length_filter_le f (List.range i)
      rw [List.length_range] at this
      omega
    · intro b o e
      rw [upd_ne (ne_of_none e hD)]
      exact s2 b o (sm b o e)
    · refine ⟨_, upd_same, ?_⟩
      rw [List.range_succ, List.filter_append, List.filter_cons, if_pos hf]
      exact All2.app (h2.imp fun _ _ r => hput _ _ _ _ _ _ (s2 _ _ hw) (hst _ _ _ _ r s2)) (.cons (hput _ _ _ _ _ _ (s2 _ _ hw) r) .nil)
    · rw [List.range_succ, List.filter_append, List.filter_cons, if_neg (by rw [hf]; decide)]
      show All2 (R H2) ws ((List.range i).filter f ++ [])
      rw [List.append_nil]
      exact h2.imp fun _ _ r => hst _ _ _ _ r s2
  · rintro H ⟨sm, ws, hw, h2⟩
    exact hd D H ws hD sm hw h2
theorem all_int : ∀ {vs : List V} {is : List Nat}, All2 (fun v i => v = V.int ((i : Nat) : Int)) vs is → vs = iv (nats is) := by
  intro vs is h
  induction h with
  | nil => rfl
  | cons h1 _ ih => rw [h1, ih]; rfl
theorem hm_map (ws : List (List Int)) : hmF 0 ws = (List.range ws.flatten.length).map fun i => ((home ws i : Nat) : Int) := by
  refine List.ext_getElem (by simp [hmF_len]) fun i h1 h2 => ?_
  have hi : i < ws.flatten.length := by rw [hmF_len] at h1; exact h1
  have := (home_at hi).1
  rw [List.getElem?_eq_getElem h1] at this
  rw [List.getElem_map, List.getElem_range]
  exact Option.some.inj this
theorem nx_at {ws : List (List Int)} (hne : ∀ w ∈ ws, w ≠ []) {k : Nat} (hk : k < ws.flatten.length) : (nxF 0 ws)[k]? = some ((nxN ws k : Nat) : Int) := by
  have hl : k < (nxF 0 ws).length := by rw [nxF_len]; exact hk
  have h0 := (nxF_rng ws 0 hne _ (List.getElem_mem hl)).1
  rw [List.getElem?_eq_getElem hl]
  unfold nxN
  rw [getD_lt hl]
  congr 1
  omega
theorem let_at {ls : List Int} {k : Nat} (hk : k < ls.length) : (iv ls)[k]? = some (V.int (ls.getD k 0)) := iv_get (by rw [List.getElem?_eq_getElem hk, getD_lt hk])
def spWO (K : PySem.W.Frag) (C CR CS CBS CNP CMF : Addr) : Sp := fun vs H Q E => ∃ x pl : V, vs = [x, pl] ∧ ((NotC K CS H x ∧ Bad "part" CBS E H (.str "sewing")) ∨
  ∃ (p rp : Addr) (xs : List Addr) (ws : List (List Int)) (mt : List Int) (t1 : String), x = .ref p ∧ SewAt K C CR CS H p rp xs ws mt ∧ RimOk ws ∧ MatOk ws.flatten mt ∧ Typ H pl t1 ∧
    ((plB pl ws.flatten.length = false ∧ Bad "value" CNP E H pl) ∨ ∃ k : Nat, pl = .int (k : Int) ∧ k < ws.flatten.length ∧
      ((ws.flatten.getD k 0 ≠ -ws.flatten.getD (nxN ws k) 0 ∧ Bad "part" CMF E H (.str "letters")) ∨ (ws.flatten.getD k 0 = -ws.flatten.getD (nxN ws k) 0 ∧ (ws.getD (home ws k) []).length = 2 ∧ Bad "part" CMF E H (.str "empty")) ∨
        ∃ (ws' : List (List Int)) (e : Nat → Nat), ws.flatten.getD k 0 = -ws.flatten.getD (nxN ws k) 0 ∧ (ws.getD (home ws k) []).length ≠ 2 ∧ Cut2 ws ws' e k (nxN ws k) ∧
          ∀ q H' rq xs2, Same H H' → SewAt K C CR CS H' q rq xs2 ws' (takM mt k (nxN ws k) ((List.range ws'.flatten.length).map e)) → Q (.ref q) H')))
abbrev sWO : Stmt := top 64
abbrev nWO : List Str := ["sewing", "place", "rims", "behind", "mates", "kept", "letters", "homes", "one"]
theorem scWO : FnScope nWO ["sewing", "place"] (defScope sWO) := ⟨rfl, rfl, rfl, by decide +kernel, rfl, by decide +kernel, by decide +kernel⟩
section
variable {P : Program} {w : World} {K : PySem.W.Frag} {mg : Str → Option Value} {base : Heap} {C CR CS CBS CNP CMF CTM : Addr}
theorem ok_WO {f : Addr} {fd : FuncData} (F : Fun K "without_pair" "without_pair" sWO f fd) (N : TN mg) (T : TxW K mg C) (TC : TxRC K mg CR) (TS : TxSC K mg CS) (MS : MkS P w K mg base C CR CS) (MF : ErrC P w K mg base CMF "Misfit" ["self", "part"] (spI1 "part" CMF)) (G_need_sewing : CalX P w K mg base "need_sewing" 4 ["value", "part"] (spNeedS K C CR CS CBS)) (G_need_place : CalX P w K mg base "need_place" 4 ["rims", "value"] (spNeedPX K C CR CNP)) (G_rims_from : CalX P w K mg base "rims_from" 8 ["letters", "homes"] (spRF K C CR CTM)) (G_mates_among : Cal P w K mg base "mates_among" 1 ["mates", "places"] (spMam)) : FnOk P w K mg base (L2.CX P w) 10 f fd ["sewing", "place"] (spWO K C CR CS CBS CNP CMF) := by
  refine F.okX scWO (fun vs H Q E h => ?_) (fun cdv A outer s H vs Q E hr h => ?_)
  · obtain ⟨x, pl, rfl, _⟩ := h
    rfl
  · obtain ⟨x, pl, rfl, h⟩ := h
    obtain ⟨fMF, fdMF, iMF, tMF, FMF, bMF⟩ := MF.ini
    refine ⟨_, pss_cons (ps_expr (pe_calX G_need_sewing hr (by decide) (passes_call (takes_of rfl rfl rfl rfl) (fun _ _ _ _ h => h)) (by rfl) (pa_cons (pv 0) (pa_cons pe_str pa_nil))))
      (pss_cons (ps_set (i := 2) scWO.nd rfl (Or.inr rfl) (pe_fld (pv 0) rfl))
      (pss_cons (ps_expr (pe_calX G_need_place hr (by decide) (passes_call (takes_of rfl rfl rfl rfl) (fun _ _ _ _ h => h)) (by rfl) (pa_cons (pv 2) (pa_cons (pv 1) pa_nil))))
      (pss_cons (ps_set (i := 3) scWO.nd rfl (Or.inr rfl) (pe_ix ix_tup (pe_fld (pv 2) rfl) (pv 1) (fun _ _ => rfl)))
      (pss_cons (ps_if (pt_cmpR op_ne (pe_ix ix_tup (pe_fld (pv 2) rfl) (pv 1) (fun _ _ => rfl)) (pe_un un_neg (pe_ix ix_tup (pe_fld (pv 2) rfl) (pv 3) (fun _ _ => rfl))) (nomark _)) (pss_one (ps_raise rfl (takes_of rfl rfl rfl rfl) (pmk_oex (dvs := []) MF.oex iMF tMF FMF (hr.mono (by decide)) bMF .nil pass0 (by rfl) MF.g (pa_cons pe_str pa_nil)))) pss_nil)
      (pss_cons (ps_if (pt_cmpR op_eq (pe_fld (pe_ix ix_tup (pe_fld (pv 2) rfl) (pe_ix ix_tup (pe_fld (pv 2) rfl) (pv 1) (fun _ _ => rfl)) (fun _ _ => rfl)) rfl) pe_int (nomark _)) (pss_one (ps_raise rfl (takes_of rfl rfl rfl rfl) (pmk_oex (dvs := []) MF.oex iMF tMF FMF (hr.mono (by decide)) bMF .nil pass0 (by rfl) MF.g (pa_cons pe_str pa_nil)))) pss_nil)
      (pss_cons (ps_set (i := 4) scWO.nd rfl (Or.inl rfl) (pe_callTy call_list_of (by rfl) N.list (by decide +kernel) (pa_cons (pe_fld (pv 0) rfl) pa_nil)))
      (pss_cons (ps_asg (pe_tup (pa_cons (pe_ix ix_tup (pe_fld (pv 0) rfl) (pv 3) (fun _ _ => rfl)) (pa_cons (pe_ix ix_tup (pe_fld (pv 0) rfl) (pv 1) (fun _ _ => rfl)) pa_nil))) (pg_tup (n := 2) rfl (pgs_cons (pg_sub (pv 4) (pe_ix ix_tup (pe_fld (pv 0) rfl) (pv 1) (fun _ _ => rfl)) set_list) (pgs_cons (pg_sub (pv 4) (pe_ix ix_tup (pe_fld (pv 0) rfl) (pv 3) (fun _ _ => rfl)) set_list) pgs_nil))))
      (pss_cons (ps_setLc (i := 5) (own := [("one", 8)]) (g := gName 8) rfl scWO.nd rfl rfl (sw_true rfl rfl rfl (by decide +kernel)) (pi_range1 (by rfl) N.range (pa_cons (pe_fld (pv 2) rfl) pa_nil)) (blkOk_by (N := nWO) (sc := defScope sWO) (by decide +kernel)) (fun _ _ _ _ _ => (pg_name (i := 8) scWO.nd rfl (Or.inl rfl))) (fun _ _ _ _ _ => (pts_one (pt_cmpR (op_notInK (K := K) rfl) (pv 8) (pe_tupBK (K := K) rfl (pa_cons (pv 1) (pa_cons (pv 3) pa_nil))) (by rfl)))) (fun _ _ _ _ _ => (pv 8)))
      (pss_cons (ps_setLc (i := 6) (own := [("one", 8)]) (g := gName 8) (tt := tYes) rfl scWO.nd rfl rfl (sw_true rfl rfl rfl (by decide +kernel)) (pi_list (pv 5)) (blkOk_by (N := nWO) (sc := defScope sWO) (by decide +kernel)) (fun _ _ _ _ _ => (pg_name (i := 8) scWO.nd rfl (Or.inl rfl))) (fun _ _ _ _ _ => pts_nil) (fun _ _ _ _ _ => (pe_ix (ixt (K := K) rfl) (pe_fldK (K := K) rfl (pv 2) rfl) (pv 8) (fun _ _ => rfl))))
      (pss_cons (ps_setLc (i := 7) (own := [("one", 8)]) (g := gName 8) (tt := tYes) rfl scWO.nd rfl rfl (sw_true rfl rfl rfl (by decide +kernel)) (pi_list (pv 5)) (blkOk_by (N := nWO) (sc := defScope sWO) (by decide +kernel)) (fun _ _ _ _ _ => (pg_name (i := 8) scWO.nd rfl (Or.inl rfl))) (fun _ _ _ _ _ => pts_nil) (fun _ _ _ _ _ => (pe_ix (ixt (K := K) rfl) (pe_fldK (K := K) rfl (pv 2) rfl) (pv 8) (fun _ _ => rfl))))
      (pss_one (ps_ret (pe_sewK rfl MS TS hr (by decide) (by rfl) (pa_cons (pe_calX G_rims_from hr (by decide) (passes_call (takes_of rfl rfl rfl rfl) (fun _ _ _ _ h => h)) (by rfl) (pa_cons (pv 6) (pa_cons (pv 7) pa_nil))) (pa_cons (pe_cal G_mates_among hr (by decide) (by rfl) (pa_cons (pv 4) (pa_cons (pv 5) pa_nil))) pa_nil))))))))))))))), ?_⟩
    rcases h with ⟨hN, kb⟩ | ⟨p, rp, xs, ws, mt, t1, rfl, hS, ok, mok, ht1, h⟩
    · exact ⟨_, rfl, x, _, rfl, .inl ⟨hN, kb⟩⟩
    obtain ⟨dx, tm, tc, tp, h1, R1, h3, h4, h5⟩ := id hS
    obtain ⟨d2, tw, tl, th, tn, r1, r2, r3, r4, r5, r6⟩ := id R1
    refine ⟨_, rfl, .ref p, _, rfl, .inr ⟨⟨p, rp, xs, ws, mt, rfl, hS⟩, ?_⟩⟩
    refine ⟨_, rfl, p, CS, dx, _, _, rfl, h1, TS.cl, TS.n1, sf_rims, ?_⟩
    try dsimp only
    refine at_set ?_
    try dsimp only
    refine ⟨_, rfl, _, rfl, rp, pl, t1, xs, ws, rfl, R1, ht1, ?_, fun hpl => ?_⟩
    · intro hb
      rcases h with ⟨_, kb⟩ | ⟨k, rfl, hk, _⟩
      · exact kb
      · rw [plB_nat hk] at hb
        cases hb
    obtain ⟨k, rfl, hk, h⟩ := h.resolve_left fun z => by rw [hpl] at z; cases z.1
    have hne := ok.2.2.1
    have l24 := ok.2.2.2.1
    have hq := nxN_lt hne hk
    obtain ⟨q, eq_⟩ : ∃ q, q = nxN ws k := ⟨_, rfl⟩
    have gnx := iv_get (nx_at hne hk)
    rw [← eq_] at hq gnx h
    try dsimp only
    refine ⟨_, rfl, rp, CR, d2, _, _, rfl, r1, TC.cl, TC.n7, rf_nexts, _, rfl, tn, _, _, _, rfl, rfl, r6.sq, atI_nat gnx, ?_⟩
    try dsimp only
    refine at_set ?_
    try dsimp only
    -- contrary letters
    refine ⟨_, rfl, rp, CR, d2, _, _, rfl, r1, TC.cl, TC.n2, rf_letters, _, rfl, tl, _, _, _, rfl, rfl, r4.sq, atI_nat (let_at hk), _, rfl, rp, CR, d2, _, _, rfl, r1, TC.cl, TC.n2, rf_letters, _, rfl, tl, _, _, _, rfl, rfl, r4.sq, atI_nat (let_at hq), _, rfl, rfl, _, rfl, ?_⟩
    by_cases hl : ws.flatten.getD k 0 = -ws.flatten.getD q 0
    · refine iteF' (by rw [hl]; simp) ?_
      have h := h.resolve_left fun z => z.1 hl
      -- a word of two letters
      obtain ⟨gh, hh⟩ := home_at hk
      have hhx : home ws k < xs.length := by rw [r3.length]; exact hh
      obtain ⟨ns, hns, Wq⟩ := r3.at (List.getElem?_eq_getElem hhx)
      obtain ⟨dxw, twl, twk, ks0, w1, w2, w3, w4⟩ := Wq
      have gw : (xs.map V.ref)[home ws k]? = some (V.ref xs[home ws k]) := by rw [List.getElem?_map, List.getElem?_eq_getElem hhx]; rfl
      have ens : ws.getD (home ws k) [] = ns := by rw [List.getD_eq_getElem?_getD, hns]; rfl
      rw [ens] at h
      refine ⟨_, rfl, rp, CR, d2, _, _, rfl, r1, TC.cl, TC.n1, rf_words, _, rfl, rp, CR, d2, _, _, rfl, r1, TC.cl, TC.n6, rf_homes, _, rfl, th, _, _, _, rfl, rfl, r5.sq, atI_nat (iv_get gh), tw, _, _, _, rfl, rfl, r2.sq, atI_nat gw, _, C, dxw, _, _, rfl, w1, T.cl, T.nN, wf_length, rfl, _, rfl, ?_⟩
      by_cases h2 : ns.length = 2
      · refine iteT' (decide_eq_true (by rw [h2]; rfl)) ?_
        rcases h with ⟨_, _, kb⟩ | ⟨_, _, _, n2, _⟩
        · exact ⟨by show 1 ≤ 1000; decide, mk1 (Q := fun cls d H' => E cls d H') fun d hd => kb H (Same.refl _) d hd⟩
        · exact absurd h2 n2
      · refine iteF' (decide_eq_false fun e => h2 (by injection e with e; omega)) ?_
        obtain ⟨ws', e, _, _, Cu, kq⟩ := h.resolve_left fun z => h2 z.2.1
        obtain ⟨npq, hp2, hq2⟩ := Cu.pq
        have PP := mok.1
        have lm : mt.length = ws.flatten.length := PP.1.1
        obtain ⟨ka, ga, _⟩ := mtn_at PP.1 hk
        obtain ⟨qb, gb, _⟩ := mtn_at PP.1 hq
        refine ⟨_, rfl, p, CS, dx, _, _, rfl, h1, TS.cl, TS.n2, sf_mates, tm, _, rfl, .inr h3.sq, fun D hD => ?_⟩
        have s1 := same_upd (o := .lst (iv mt)) hD
        have gD1 : L2.upd H D (.lst (iv mt)) D = some (.lst (iv mt)) := upd_same
        obtain ⟨H1, e1⟩ : ∃ H1, H1 = L2.upd H D (.lst (iv mt)) := ⟨_, rfl⟩
        rw [← e1] at s1 gD1 ⊢
        clear e1
        try dsimp only
        refine at_set ?_
        try dsimp only
        have h31 := SqB.same s1 h3
        have h11 := s1 _ _ h1
        -- the mates of both are mates
        refine ⟨_, rfl, p, CS, dx, _, _, rfl, h11, TS.cl, TS.n2, sf_mates, _, rfl, tm, _, _, _, rfl, rfl, h31.sq, atI_nat (iv_get gb), _, rfl, p, CS, dx, _, _, rfl, h11, TS.cl, TS.n2, sf_mates, _, rfl, tm, _, _, _, rfl, rfl, h31.sq, atI_nat (iv_get ga), by show 2 ≤ sizeLine; decide, fun t ht => ?_⟩
        have st := same_upd (o := .tup [.int ((mtn mt q : Nat) : Int), .int ((mtn mt k : Nat) : Int)]) ht
        have gt : L2.upd H1 t (.tup [.int ((mtn mt q : Nat) : Int), .int ((mtn mt k : Nat) : Int)]) t = some (.tup [.int ((mtn mt q : Nat) : Int), .int ((mtn mt k : Nat) : Int)]) := upd_same
        have s2 := s1.trans st
        have gD2 := st _ _ gD1
        have h32 := SqB.same s2 h3
        have h12 := s2 _ _ h1
        generalize L2.upd H1 t (.tup [.int ((mtn mt q : Nat) : Int), .int ((mtn mt k : Nat) : Int)]) = H2 at st gt s2 gD2 h32 h12 ⊢
        refine ⟨t, _, rfl, SqT.of gt, rfl, _, _, rfl, ?_⟩
        have h33 : SqB K (L2.upd H2 D (.lst ((iv mt).set (mtn mt k) (.int ((mtn mt q : Nat) : Int))))) tm (iv mt) := SqB.keptL gD2 Kept.upd h32
        have npD : p ≠ D := fun z => by
          rw [z, gD2] at h12
          cases h12
        have h13 : L2.upd H2 D (.lst ((iv mt).set (mtn mt k) (.int ((mtn mt q : Nat) : Int)))) p = some (.ins CS dx (sf rp tm tc (costF ws mt) tp (handF ws mt))) := by rw [upd_ne npD]; exact h12
        refine ⟨_, rfl, _, rfl, p, CS, dx, _, _, rfl, h12, TS.cl, TS.n2, sf_mates, _, rfl, tm, _, _, _, rfl, rfl, h32.sq, atI_nat (iv_get ga), D, _, _, mtn mt k, rfl, rfl, gD2, Evl.ixN_nat (by rw [List.length_map]; omega), ?_⟩
        refine ⟨_, _, rfl, _, rfl, _, rfl, p, CS, dx, _, _, rfl, h13, TS.cl, TS.n2, sf_mates, _, rfl, tm, _, _, _, rfl, rfl, h33.sq, atI_nat (iv_get gb), D, _, _, mtn mt q, rfl, rfl, upd_same, Evl.ixN_nat (by rw [List.length_set, List.length_map]; omega), rfl, ?_⟩
        have s4 : Same H (L2.upd (L2.upd H2 D (.lst ((iv mt).set (mtn mt k) (.int ((mtn mt q : Nat) : Int))))) D (.lst (((iv mt).set (mtn mt k) (.int ((mtn mt q : Nat) : Int))).set (mtn mt q) (.int ((mtn mt k : Nat) : Int))))) := fun b o e => by
          rw [upd_ne (ne_of_none e hD), upd_ne (ne_of_none e hD)]
          exact s2 _ _ e
        have gD4 : (L2.upd (L2.upd H2 D (.lst ((iv mt).set (mtn mt k) (.int ((mtn mt q : Nat) : Int))))) D (.lst (((iv mt).set (mtn mt k) (.int ((mtn mt q : Nat) : Int))).set (mtn mt q) (.int ((mtn mt k : Nat) : Int))))) D = some (.lst (iv (setM mt k q))) := by
          rw [upd_same]
          unfold setM iv
          rw [List.map_set, List.map_set]
        clear h33 h13 s1 st gt s2 gD1 gD2 h31 h32 h11 h12
        generalize (L2.upd (L2.upd H2 D (.lst ((iv mt).set (mtn mt k) (.int ((mtn mt q : Nat) : Int))))) D (.lst (((iv mt).set (mtn mt k) (.int ((mtn mt q : Nat) : Int))).set (mtn mt q) (.int ((mtn mt k : Nat) : Int))))) = H4 at s4 gD4 ⊢
        try dsimp only
        -- the places that are kept
        refine sq_lcS ?_
        refine ⟨_, rfl, rp, CR, d2, _, _, rfl, s4 _ _ r1, TC.cl, TC.n3, rf_many, _, rfl, by omega, by omega, ?_⟩
        rw [Int.toNat_natCast]
        have in2 : ∀ z : Nat, inV (.int (z : Int)) [.int (k : Int), .int (q : Int)] = (decide (z = k) || decide (z = q)) := fun z => by
          unfold inV
          simp only [List.any_cons, List.any_nil, Bool.or_false]
          have ek : ∀ x : Nat, eqV (.int (x : Int)) (.int (z : Int)) = decide (z = x) := fun x => by
            show decide ((x : Int) = (z : Int)) = decide (z = x)
            by_cases c : z = x
            · rw [decide_eq_true c, decide_eq_true (by omega)]
            · rw [decide_eq_false c, decide_eq_false (by omega)]
          rw [ek, ek]
        refine lcRM (fun i => !(decide (i = k) || decide (i = q))) (fun _ v i => v = V.int ((i : Nat) : Int)) (fun _ _ _ _ h _ => h) (fun _ _ _ _ _ _ _ h => h) (by omega) ?_ ?_
        · intro i hi H5 s5 Qy Qn ky kn
          refine ⟨rfl, _, rfl, _, rfl, _, rfl, by show 2 ≤ sizeLine; decide, fun t5 H6 s6 B6 => ⟨t5, _, rfl, .inr B6.sq, rfl, rfl, _, rfl, ?_⟩⟩
          show if (!inV (.int (i : Int)) [.int (k : Int), .int (q : Int)]) = true then _ else _
          rw [in2]
          cases hc : (decide (i = k) || decide (i = q)) with
          | true => exact iteF (kn (by rw [hc]; rfl) H6 s6)
          | false => exact iteT ⟨_, rfl, ky (by rw [hc]; rfl) _ H6 s6 rfl⟩
        intro E1 H5 vs hE s5 gE hv
        obtain rfl := all_int hv
        rw [Cu.kept] at gE
        have s45 := s4.trans s5
        try dsimp only
        refine at_set ?_
        try dsimp only
        have lks : (iv (nats ((List.range ws'.flatten.length).map e))).length = ws'.flatten.length := by
          unfold iv nats
          simp only [List.length_map, List.length_range]
        have wl := Cu.len
        have kin : ∀ x ∈ iv (nats ((List.range ws'.flatten.length).map e)), ∃ i, i < ws'.flatten.length ∧ x = V.int ((e i : Nat) : Int) ∧ e i < ws.flatten.length := fun x hx => by
          obtain ⟨z, hz, rfl⟩ := List.mem_map.mp hx
          obtain ⟨y, hy, rfl⟩ := List.mem_map.mp hz
          obtain ⟨i, hi, rfl⟩ := List.mem_map.mp hy
          exact ⟨i, List.mem_range.mp hi, rfl, (Cu.e_in (List.mem_range.mp hi)).1⟩
        -- their letters
        refine sq_lcS ?_
        refine ⟨_, rfl, E1, rfl, ⟨_, SqL.of gE⟩, ?_⟩
        refine lcp (walk_list (K := K) (a := E1) (xs := iv (nats ((List.range ws'.flatten.length).map e)))) (fun _ => true) (fun x => match x with | .int z => .int (ws.flatten.getD z.toNat 0) | y => y) (by rw [lks]; omega) (fun H2 s => SqL.of (s _ _ gE)) ?_ ?_
        · intro x hx H6 s6 Qy Qn ky kn
          obtain ⟨i, hi, rfl, hei⟩ := kin x hx
          have kk := ky rfl H6 (Same.refl _)
          exact ⟨rfl, yes_te ⟨_, rfl, rp, CR, d2, _, _, rfl, (s45.trans s6) _ _ r1, TC.cl, TC.n2, rf_letters, _, rfl, tl, _, _, _, rfl, rfl, (SqB.same (s45.trans s6) r4).sq, atI_nat (let_at hei), kk⟩⟩
        intro F1 H6 hF1 s6 h6
        have gF1 : H6 F1 = some (.lst (iv ws'.flatten)) := by
          rw [h6, List.filter_eq_self.mpr (fun _ _ => rfl)]
          conv => rhs; rw [self_map ws'.flatten]
          unfold iv nats
          rw [List.map_map, List.map_map, List.map_map, List.map_map]
          refine congrArg (fun x => some (HO.lst x)) (List.map_congr_left fun i hi => ?_)
          show V.int (ws.flatten.getD (e i) 0) = V.int (ws'.flatten.getD i 0)
          rw [Cu.lets i (List.mem_range.mp hi)]
        have s46 := s45.trans s6
        have gE6 := s6 _ _ gE
        try dsimp only
        refine at_set ?_
        try dsimp only
        -- their words
        refine sq_lcS ?_
        refine ⟨_, rfl, E1, rfl, ⟨_, SqL.of gE6⟩, ?_⟩
        refine lcp (walk_list (K := K) (a := E1) (xs := iv (nats ((List.range ws'.flatten.length).map e)))) (fun _ => true) (fun x => match x with | .int z => .int ((home ws z.toNat : Nat) : Int) | y => y) (by rw [lks]; omega) (fun H2 s => SqL.of (s _ _ gE6)) ?_ ?_
        · intro x hx H7 s7 Qy Qn ky kn
          obtain ⟨i, hi, rfl, hei⟩ := kin x hx
          have kk := ky rfl H7 (Same.refl _)
          exact ⟨rfl, yes_te ⟨_, rfl, rp, CR, d2, _, _, rfl, (s46.trans s7) _ _ r1, TC.cl, TC.n6, rf_homes, _, rfl, th, _, _, _, rfl, rfl, (SqB.same (s46.trans s7) r5).sq, atI_nat (iv_get (home_at hei).1), kk⟩⟩
        intro F2 H7 hF2 s7 h7
        have gF2 : H7 F2 = some (.lst (iv (hmF 0 ws'))) := by
          rw [h7, List.filter_eq_self.mpr (fun _ _ => rfl), hm_map ws']
          unfold iv nats
          rw [List.map_map, List.map_map, List.map_map, List.map_map]
          refine congrArg (fun x => some (HO.lst x)) (List.map_congr_left fun i hi => ?_)
          show V.int ((home ws (e i) : Nat) : Int) = V.int ((home ws' i : Nat) : Int)
          rw [Cu.homs i (List.mem_range.mp hi)]
        have s47 := s46.trans s7
        try dsimp only
        refine at_set ?_
        try dsimp only
        have ok' := Cu.rim ok hl
        obtain ⟨u1, u2, u3, u4, u5, u6⟩ := id ok'
        refine ⟨_, rfl, _, rfl, F1, F2, ws', rfl, .inl (SqL.of (s7 _ _ gF1)), .inl (SqL.of gF2), u1, u2, u3, by omega, u5, .inl ⟨ok', fun rq H8 xs2 s8 R8 => ?_⟩⟩
        have s58 := s5.trans ((s6.trans s7).trans s8)
        have s68 := (s6.trans s7).trans s8
        refine ⟨_, rfl, _, rfl, D, E1, setM mt k q, (List.range ws'.flatten.length).map e, rfl, s58 _ _ gD4, s68 _ _ gE, ?_, by rw [List.length_map, List.length_range]; omega, fun z hz => ?_, fun l H9 hl9 s9 g9 => ?_⟩
        · exact List.pairwise_map.mpr (List.pairwise_lt_range.imp_of_mem fun {a b} _ hb lt => Nat.ne_of_lt (Cu.asc a b lt (List.mem_range.mp hb)))
        · obtain ⟨i, hi, rfl⟩ := List.mem_map.mp hz
          obtain ⟨c1, c2, c3⟩ := Cu.e_in (List.mem_range.mp hi)
          obtain ⟨sa, sb⟩ := setM_at PP hk hq c1
          obtain ⟨m1, m2, m4, _⟩ := m3_ok PP hk hq npq c1 c2 c3
          rw [sb]
          refine ⟨sa, ?_⟩
          obtain ⟨j, hj, ej⟩ := Cu.of_in m1 m2 m4
          exact List.mem_map.mpr ⟨j, List.mem_range.mpr hj, ej⟩
        · intro q0 dq nq ndq _
          exact sew_at nq ndq (R8.same s9) ok' (.inl (SqL.of g9)) (take_mat Cu mok hl) fun Hz sz Sz => kq q0 Hz rq xs2 ((s47.trans s8).trans (s9.trans sz)) Sz
    · refine iteT' (by
        have : ¬ V.int (ws.flatten.getD k 0) = V.int (-ws.flatten.getD q 0) := fun e => hl (by injection e)
        show (!decide (V.int (ws.flatten.getD k 0) = V.int (-ws.flatten.getD q 0))) = true
        rw [decide_eq_false this]
        rfl) ?_
      rcases h with ⟨_, kb⟩ | ⟨e, _⟩ | ⟨_, _, e, _⟩
      · exact ⟨by show 1 ≤ 1000; decide, mk1 (Q := fun cls d H' => E cls d H') fun d hd => kb H (Same.refl _) d hd⟩
      · exact absurd e hl
      · exact absurd e hl
end
end W17
set_option Elab.async false
set_option linter.all false
set_option maxRecDepth 100000
set_option maxHeartbeats 1000000
namespace W17
open PySem L2 PySem.Spec PyProof.Rows WR WB WE WS
/-! ### the def that hears what a call refuses -/
abbrev sFault : Stmt := top 77
abbrev nFault : List Str := ["_law_ask", "_law_caught", "error"]
theorem scFault : FnScope nFault ["_law_ask"] (defScope sFault) := ⟨rfl, rfl, rfl, by decide +kernel, rfl, by decide +kernel, by decide +kernel⟩
structure Five (K : PySem.W.Frag) (mg : Str → Option Value) (CBS CMF CTM CNP CNL CH : Addr) : Prop where
  gH : mg "HandleError" = some (.ref CH)
  tS : PySem.W.exmOne K (.ref CBS) (.ref CH) = some true
  tM : PySem.W.exmOne K (.ref CMF) (.ref CH) = some true
  tO : PySem.W.exmOne K (.ref CTM) (.ref CH) = some true
  tN : PySem.W.exmOne K (.ref CNP) (.ref CH) = some true
  tL : PySem.W.exmOne K (.ref CNL) (.ref CH) = some true
  fS : PySem.W.findIn K (.ref CBS) "part" = some none
  fM : PySem.W.findIn K (.ref CMF) "part" = some none
  fW : PySem.W.findIn K (.ref CTM) "what" = some none
  fO : PySem.W.findIn K (.ref CTM) "most" = some none
  fN : PySem.W.findIn K (.ref CNP) "value" = some none
  fL : PySem.W.findIn K (.ref CNL) "value" = some none
  eS : L2.ExcC K CBS
  eM : L2.ExcC K CMF
  eO : L2.ExcC K CTM
  eN : L2.ExcC K CNP
  eL : L2.ExcC K CNL
  nS : PySem.W.kitOne K (.type "NoneType") (.ref CBS) = some false
  nM : PySem.W.kitOne K (.type "NoneType") (.ref CMF) = some false
  nO : PySem.W.kitOne K (.type "NoneType") (.ref CTM) = some false
  nN : PySem.W.kitOne K (.type "NoneType") (.ref CNP) = some false
  nL : PySem.W.kitOne K (.type "NoneType") (.ref CNL) = some false
  MS : PySem.W.kitOne K (.ref CMF) (.ref CBS) = some false
  OS : PySem.W.kitOne K (.ref CTM) (.ref CBS) = some false
  OM : PySem.W.kitOne K (.ref CTM) (.ref CMF) = some false
  NS : PySem.W.kitOne K (.ref CNP) (.ref CBS) = some false
  NM : PySem.W.kitOne K (.ref CNP) (.ref CMF) = some false
  NO : PySem.W.kitOne K (.ref CNP) (.ref CTM) = some false
  LS : PySem.W.kitOne K (.ref CNL) (.ref CBS) = some false
  LM : PySem.W.kitOne K (.ref CNL) (.ref CMF) = some false
  LO : PySem.W.kitOne K (.ref CNL) (.ref CTM) = some false
  LN : PySem.W.kitOne K (.ref CNL) (.ref CNP) = some false
theorem any_f {K : PySem.W.Frag} {t c : Value} {r : List Value} (h : PySem.W.kitOne K t c = some false) : PySem.W.kitAny K t (c :: r) = PySem.W.kitAny K t r := by
  show (match PySem.W.kitOne K t c with | some true => some true | some false => PySem.W.kitAny K t r | none => none) = _
  rw [h]
theorem any_t {K : PySem.W.Frag} {t c : Value} {r : List Value} (h : PySem.W.kitOne K t c = some true) : PySem.W.kitAny K t (c :: r) = some true := by
  show (match PySem.W.kitOne K t c with | some true => some true | some false => PySem.W.kitAny K t r | none => none) = _
  rw [h]
/-- what is made of an error -/
def EF (K : PySem.W.Frag) (CBS CMF CTM CNP CNL : Addr) (Q : VK) : XK := fun cls d H' => ∃ (D dd : Addr) (fs : List (Str × V)) (x1 x2 : V), cls = .ref D ∧ d = some dd ∧ H' dd = some (.xd fs) ∧
  ((D = CBS ∧ fs = [(("part" : Str), x2)] ∧ x1 = .str "sewing") ∨ (D = CMF ∧ fs = [(("part" : Str), x2)] ∧ x1 = .str "misfit") ∨ (D = CTM ∧ fs = [(("most" : Str), x2), (("what" : Str), x1)]) ∨
   (D = CNP ∧ ∃ v pd, fs = [(("value" : Str), v)] ∧ x1 = .str "place" ∧ Dp K H' v pd ∧ RA.Shw pd ∧ x2 = .str pd.shown) ∨ (D = CNL ∧ ∃ v pd, fs = [(("value" : Str), v)] ∧ x1 = .str "letter" ∧ Dp K H' v pd ∧ RA.Shw pd ∧ x2 = .str pd.shown)) ∧
  ∀ H2, Same H' H2 → ∀ t, H2 t = some (.tup [x1, x2]) → Q (.ref t) H2
def TFault (K : PySem.W.Frag) (CBS CMF CTM CNP CNL : Addr) : (XK → Hp → VK → Prop) → Hp → VK → Prop := fun tl H Q => ∀ R : VK, (∀ v H', (∀ H2, Same H' H2 → Q .non H2) → R v H') → tl (EF K CBS CMF CTM CNP CNL Q) H R
theorem takes_len {X : Cx} {W : WX} (t : Takes X W) : Takes X (fun cls d σ H => σ.length = X.N.length → W cls d σ H) := fun u s' ⟨a, B, sI, pins, σ, H, cls, d, e, I, nb, up, sky, na, os, ag, w⟩ =>
  t u s' ⟨a, B, sI, pins, σ, H, cls, d, e, I, nb, up, sky, na, os, ag, w I.len⟩
theorem on2 {a : Addr} {σ : L2.St} (h : σ.length = 3) : (σ.set 2 (some (.ref a)))[2]? = some (some (.ref a)) := by
  match σ, h with
  | [_, _, _], _ => rfl
theorem on1 {a : Addr} {σ : L2.St} (h : σ.length = 3) : (((σ.set 2 (some (.ref a))).set 1 (some (.ref a))).set 2 none)[1]? = some (some (.ref a)) := by
  match σ, h with
  | [_, _, _], _ => rfl
theorem fault_gives {X : Cx} {g CBS CMF CTM CNP CNL CH : Addr} {cdg : Value} {q : Str} (N : TN X.mg) (BS : ErrC X.prog X.w X.K X.mg X.base CBS "BadSewing" ["self", "part"] (spI1 "part" CBS)) (MF : ErrC X.prog X.w X.K X.mg X.base CMF "Misfit" ["self", "part"] (spI1 "part" CMF))
    (TM : ErrC X.prog X.w X.K X.mg X.base CTM "TooMany" ["self", "what", "most"] (spI2 CTM)) (NP : ErrC X.prog X.w X.K X.mg X.base CNP "NoPlace" ["self", "value"] (spI1 "value" CNP)) (NL : ErrC X.prog X.w X.K X.mg X.base CNL "NoLetter" ["self", "value"] (spI1 "value" CNL)) (Z : Five X.K X.mg CBS CMF CTM CNP CNL CH) (hg : X.A.guards = some []) (hr : Room 1 X.A) :
    LamX.GivesTo X nFault "_law_fault" (defScope sFault) g cdg (defBody sFault) "_law_ask" q (TFault X.K CBS CMF CTM CNP CNL) := by
  intro f c' s H Q tl act hc h
  have hu : X.A.units + 64 < cLine := hr.units
  refine ⟨_, pss_cons (ps_set (i := 1) scFault.nd rfl (Or.inl rfl) pe_non)
    (pss_cons (CK.ps_try_keep (X := (cxOf C8.CX0 X.prog X.w X.K X.mg X.base nFault "_law_fault" (defScope sFault) g cdg X.A X.stack s H C8.E0).nox) (i := 2) (out := fun _ _ _ _ => False) (c := .ref CH)
      (say := fun _ _ _ => tAsg (tVar 2) (gName 1))
      (tb := fun W D σ H => ∃ Ech : XK, (∀ cls d σ' H', Ech cls d H' → σ'.length = 3 → W cls d σ' H') ∧ σ[0]? = some (some (.ref f)) ∧ H c' = some (LamX.CodeO c' q) ∧ tl Ech H (fun _ H' => D.nx σ H'))
      rfl rfl rfl LamX.takes0 (fun W pn xe tk _ => ?_)
      scFault.nd rfl rfl ⟨rfl, by decide, .inl Z.gH⟩ (fun a oe cls d pn hz hf => pss_one (ps_set (i := 1) scFault.nd rfl (Or.inl rfl) (pv 2))))
    (pss_cons (ps_if (pt_val (pe_callB CK.call_isC (by rfl) N.isinstance (by decide +kernel) (pa_cons (pv 1) (pa_cons (pe_glob (v := .ref CBS) (by rfl) BS.g rfl) pa_nil)))) (pss_one (ps_ret (pe_tup (pa_cons pe_str (pa_cons (CK.pe_kf BS.xf Z.fS (pv 1)) pa_nil))))) pss_nil)
    (pss_cons (ps_if (pt_val (pe_callB CK.call_isC (by rfl) N.isinstance (by decide +kernel) (pa_cons (pv 1) (pa_cons (pe_glob (v := .ref CMF) (by rfl) MF.g rfl) pa_nil)))) (pss_one (ps_ret (pe_tup (pa_cons pe_str (pa_cons (CK.pe_kf MF.xf Z.fM (pv 1)) pa_nil))))) pss_nil)
    (pss_cons (ps_if (pt_val (pe_callB CK.call_isC (by rfl) N.isinstance (by decide +kernel) (pa_cons (pv 1) (pa_cons (pe_glob (v := .ref CTM) (by rfl) TM.g rfl) pa_nil)))) (pss_one (ps_ret (pe_tup (pa_cons (CK.pe_kf TM.xf Z.fW (pv 1)) (pa_cons (CK.pe_kf TM.xf Z.fO (pv 1)) pa_nil))))) pss_nil)
    (pss_cons (ps_if (pt_val (pe_callB RA.call_isCT (by rfl) N.isinstance (by decide +kernel) (pa_cons (pv 1) (pa_cons (pe_tup (pa_cons (pe_glob (v := .ref CNP) (by rfl) NP.g rfl) (pa_cons (pe_glob (v := .ref CNL) (by rfl) NL.g rfl) pa_nil))) pa_nil))))
      (pss_one (ps_ret (pe_tup (pa_cons (pe_ifExp (pt_val (pe_callB CK.call_isC (by rfl) N.isinstance (by decide +kernel) (pa_cons (pv 1) (pa_cons (pe_glob (v := .ref CNP) (by rfl) NP.g rfl) pa_nil)))) pe_str pe_str)
        (pa_cons (pe_callB (RA.call_reprA hg (by show X.A.units + 3 + 40 < cLine; omega)) (by rfl) N.repr (by decide +kernel) (pa_cons (RA.pe_either (CK.pe_kf NP.xf Z.fN (pv 1)) (CK.pe_kf NL.xf Z.fL (pv 1))) pa_nil)) pa_nil))))) pss_nil)
    (pss_one (ps_ret (pe_ifExp (pt_cmpR op_isN (pv 1) pe_non (nomark _)) pe_non (pe_tup (pa_cons pe_str (pa_cons pe_non pa_nil))))))))))), ?_⟩
  · refine ⟨fun pins s' σ H' D I h' => ?_⟩
    obtain ⟨Ech, hW, h1, h2, h3⟩ := h'
    exact (pss_one (ps_expr (act _ pn xe Ech _ _ (takes_len tk) (fun cls d σ' H' h hl => hW cls d σ' H' h hl)))).run pins s' σ H' D I ⟨h1, h2, h3⟩
  · refine ⟨EF X.K CBS CMF CTM CNP CNL Q, fun cls d σ' H' h1 h2 => ?_, rfl, hc, ?_⟩
    · obtain ⟨D, dd, fs, x1, x2, rfl, rfl, h4, hk, hq⟩ := h1
      have tD : PySem.W.exmOne X.K (.ref D) (.ref CH) = some true := by
        rcases hk with ⟨rfl, _⟩ | ⟨rfl, _⟩ | ⟨rfl, _⟩ | ⟨rfl, _⟩ | ⟨rfl, _⟩
        · exact Z.tS
        · exact Z.tM
        · exact Z.tO
        · exact Z.tN
        · exact Z.tL
      refine ⟨true, tD, fun _ a ha => ?_, fun z => Bool.noConfusion z⟩
      have sa : Same H' (L2.upd H' a (CK.exk a (.ref D) (some dd))) := same_upd ha
      have hdd : (L2.upd H' a (CK.exk a (.ref D) (some dd))) dd = some (.xd fs) := sa _ _ h4
      have hat : (L2.upd H' a (CK.exk a (.ref D) (some dd))) a = some (CK.exk a (.ref D) (some dd)) := upd_same
      refine ⟨_, on2 h2, ?_⟩
      rcases hk with ⟨rfl, rfl, rfl⟩ | ⟨rfl, rfl, rfl⟩ | ⟨rfl, rfl⟩ | ⟨rfl, v, pd, rfl, rfl, hp, hs, rfl⟩ | ⟨rfl, v, pd, rfl, rfl, hp, hs, rfl⟩
      · refine ⟨_, on1 h2, .inr ⟨a, D, dd, _, .ref D, .ref D, true, rfl, hat, hdd, Z.eS, fun u hu => hu, kit_self D, ?_⟩⟩
        refine ⟨_, rfl, iteT ?_⟩
        exact ⟨_, on1 h2, a, dd, _, _, rfl, hat, hdd, lk_eq, by show 2 ≤ sizeLine; decide, fun t ht => hq _ (sa.trans (same_upd ht)) t upd_same⟩
      · refine ⟨_, on1 h2, .inr ⟨a, D, dd, _, .ref CBS, .ref CBS, false, rfl, hat, hdd, Z.eM, fun u hu => hu, Z.MS, ?_⟩⟩
        refine ⟨_, rfl, iteF ?_⟩
        refine ⟨_, on1 h2, .inr ⟨a, D, dd, _, .ref D, .ref D, true, rfl, hat, hdd, Z.eM, fun u hu => hu, kit_self D, ?_⟩⟩
        refine ⟨_, rfl, iteT ?_⟩
        exact ⟨_, on1 h2, a, dd, _, _, rfl, hat, hdd, lk_eq, by show 2 ≤ sizeLine; decide, fun t ht => hq _ (sa.trans (same_upd ht)) t upd_same⟩
      · refine ⟨_, on1 h2, .inr ⟨a, D, dd, _, .ref CBS, .ref CBS, false, rfl, hat, hdd, Z.eO, fun u hu => hu, Z.OS, ?_⟩⟩
        refine ⟨_, rfl, iteF ?_⟩
        refine ⟨_, on1 h2, .inr ⟨a, D, dd, _, .ref CMF, .ref CMF, false, rfl, hat, hdd, Z.eO, fun u hu => hu, Z.OM, ?_⟩⟩
        refine ⟨_, rfl, iteF ?_⟩
        refine ⟨_, on1 h2, .inr ⟨a, D, dd, _, .ref D, .ref D, true, rfl, hat, hdd, Z.eO, fun u hu => hu, kit_self D, ?_⟩⟩
        refine ⟨_, rfl, iteT ?_⟩
        exact ⟨_, on1 h2, a, dd, _, x1, rfl, hat, hdd, (lk_ne (by decide +kernel)).trans lk_eq, _, on1 h2, a, dd, _, _, rfl, hat, hdd, lk_eq, by show 2 ≤ sizeLine; decide, fun t ht => hq _ (sa.trans (same_upd ht)) t upd_same⟩
      · refine ⟨_, on1 h2, .inr ⟨a, D, dd, _, .ref CBS, .ref CBS, false, rfl, hat, hdd, Z.eN, fun u hu => hu, Z.NS, ?_⟩⟩
        refine ⟨_, rfl, iteF ?_⟩
        refine ⟨_, on1 h2, .inr ⟨a, D, dd, _, .ref CMF, .ref CMF, false, rfl, hat, hdd, Z.eN, fun u hu => hu, Z.NM, ?_⟩⟩
        refine ⟨_, rfl, iteF ?_⟩
        refine ⟨_, on1 h2, .inr ⟨a, D, dd, _, .ref CTM, .ref CTM, false, rfl, hat, hdd, Z.eN, fun u hu => hu, Z.NO, ?_⟩⟩
        refine ⟨_, rfl, iteF ?_⟩
        refine ⟨_, on1 h2, by show 2 ≤ sizeLine; decide, fun tp htp => ?_⟩
        have sb := same_upd (o := .tup [V.ref D, V.ref CNL]) htp
        refine .inr ⟨a, D, dd, tp, _, [V.ref D, V.ref CNL], [.ref D, .ref CNL], true, rfl, sb _ _ hat, sb _ _ hdd, Z.eN, upd_same, .cons (.own D) (.cons (.own CNL) .nil), any_t (kit_self D), ?_⟩
        refine ⟨_, rfl, iteT ?_⟩
        refine ⟨_, on1 h2, .inr ⟨a, D, dd, _, .ref D, .ref D, true, rfl, sb _ _ hat, sb _ _ hdd, Z.eN, fun u hu => hu, kit_self D, ?_⟩⟩
        refine ⟨_, rfl, iteT ?_⟩
        refine .inl ⟨_, on1 h2, a, dd, _, v, rfl, sb _ _ hat, sb _ _ hdd, lk_eq, v, pd, rfl, RA.dp_same (sa.trans sb) pd hp, hs, by show 2 ≤ sizeLine; decide, fun t ht => hq _ ((sa.trans sb).trans (same_upd ht)) t upd_same⟩
      · refine ⟨_, on1 h2, .inr ⟨a, D, dd, _, .ref CBS, .ref CBS, false, rfl, hat, hdd, Z.eL, fun u hu => hu, Z.LS, ?_⟩⟩
        refine ⟨_, rfl, iteF ?_⟩
        refine ⟨_, on1 h2, .inr ⟨a, D, dd, _, .ref CMF, .ref CMF, false, rfl, hat, hdd, Z.eL, fun u hu => hu, Z.LM, ?_⟩⟩
        refine ⟨_, rfl, iteF ?_⟩
        refine ⟨_, on1 h2, .inr ⟨a, D, dd, _, .ref CTM, .ref CTM, false, rfl, hat, hdd, Z.eL, fun u hu => hu, Z.LO, ?_⟩⟩
        refine ⟨_, rfl, iteF ?_⟩
        refine ⟨_, on1 h2, by show 2 ≤ sizeLine; decide, fun tp htp => ?_⟩
        have sb := same_upd (o := .tup [V.ref CNP, V.ref D]) htp
        refine .inr ⟨a, D, dd, tp, _, [V.ref CNP, V.ref D], [.ref CNP, .ref D], true, rfl, sb _ _ hat, sb _ _ hdd, Z.eL, upd_same, .cons (.own CNP) (.cons (.own D) .nil), (any_f Z.LN).trans (any_t (kit_self D)), ?_⟩
        refine ⟨_, rfl, iteT ?_⟩
        refine ⟨_, on1 h2, .inr ⟨a, D, dd, _, .ref CNP, .ref CNP, false, rfl, sb _ _ hat, sb _ _ hdd, Z.eL, fun u hu => hu, Z.LN, ?_⟩⟩
        refine ⟨_, rfl, iteF ?_⟩
        refine .inr ⟨_, on1 h2, a, dd, _, v, rfl, sb _ _ hat, sb _ _ hdd, lk_eq, v, pd, rfl, RA.dp_same (sa.trans sb) pd hp, hs, by show 2 ≤ sizeLine; decide, fun t ht => hq _ ((sa.trans sb).trans (same_upd ht)) t upd_same⟩
    · refine h _ fun v H' hq => ?_
      refine ⟨_, rfl, .inl ⟨_, _, _, _, _, rfl, .own CBS, Typ.non.ty, Z.nS, ?_⟩⟩
      refine ⟨_, rfl, iteF ?_⟩
      refine ⟨_, rfl, .inl ⟨_, _, _, _, _, rfl, .own CMF, Typ.non.ty, Z.nM, ?_⟩⟩
      refine ⟨_, rfl, iteF ?_⟩
      refine ⟨_, rfl, .inl ⟨_, _, _, _, _, rfl, .own CTM, Typ.non.ty, Z.nO, ?_⟩⟩
      refine ⟨_, rfl, iteF ?_⟩
      refine ⟨_, rfl, by show 2 ≤ sizeLine; decide, fun tp htp => .inl ⟨_, tp, _, _, _, _, rfl, upd_same, .cons (.own CNP) (.cons (.own CNL) .nil), Typ.non.ty, (any_f Z.nN).trans (any_f Z.nL), ?_⟩⟩
      refine ⟨_, rfl, iteF ?_⟩
      exact ⟨_, rfl, rfl, _, rfl, iteT (hq _ (same_upd htp))⟩
end W17
set_option Elab.async false
set_option linter.all false
set_option maxRecDepth 100000
set_option maxHeartbeats 1000000
namespace W17
open PySem L2 PySem.Spec PyProof.Rows WR WB WE WS
/-! ### the law's own: where each place stands -/
/-- number of the word and index in it, from word f on -/
def spF (f : Nat) : List (List Int) → List (Nat × Nat)
  | [] => []
  | w :: r => ((List.range w.length).map fun t => (f, t)) ++ spF (f + 1) r
theorem spF_snoc : ∀ (ws : List (List Int)) (w : List Int) (f : Nat), spF f (ws ++ [w]) = spF f ws ++ (List.range w.length).map fun t => (f + ws.length, t)
  | [], w, f => by
    show ((List.range w.length).map fun t => (f, t)) ++ [] = [] ++ (List.range w.length).map fun t => (f + 0, t)
    rw [List.append_nil, List.nil_append, Nat.add_zero]
  | u :: r, w, f => by
    show ((List.range u.length).map fun t => (f, t)) ++ spF (f + 1) (r ++ [w]) = (((List.range u.length).map fun t => (f, t)) ++ spF (f + 1) r) ++ _
    rw [spF_snoc r w (f + 1), List.append_assoc, show f + (u :: r).length = f + 1 + r.length by rw [List.length_cons]; omega]
theorem spF_len : ∀ (ws : List (List Int)) (f : Nat), (spF f ws).length = ws.flatten.length
  | [], _ => rfl
  | w :: r, f => by
    show (((List.range w.length).map fun t => (f, t)) ++ spF (f + 1) r).length = _
    rw [List.length_append, spF_len r, List.length_map, List.length_range, List.flatten_cons, List.length_append]
/-- of a place in the word w behind A -/
theorem spF_mid (A B : List (List Int)) (w : List Int) (f t : Nat) (ht : t < w.length) : (spF f (A ++ [w] ++ B))[A.flatten.length + t]? = some (f + A.length, t) := by
  have app : ∀ (xs ys : List (List Int)) (g : Nat), spF g (xs ++ ys) = spF g xs ++ spF (g + xs.length) ys := by
    intro xs
    induction xs with
    | nil => intro ys g; rfl
    | cons u r ih =>
      intro ys g
      show ((List.range u.length).map fun t => (g, t)) ++ spF (g + 1) (r ++ ys) = (((List.range u.length).map fun t => (g, t)) ++ spF (g + 1) r) ++ spF (g + (u :: r).length) ys
      rw [ih, List.append_assoc, show g + (u :: r).length = g + 1 + r.length by rw [List.length_cons]; omega]
  rw [List.append_assoc, app, List.getElem?_append_right (by rw [spF_len]; omega), spF_len, show A.flatten.length + t - A.flatten.length = t by omega]
  show (((List.range w.length).map fun t => (f + A.length, t)) ++ spF (f + A.length + 1) B)[t]? = _
  rw [List.getElem?_append_left (by simpa using ht), List.getElem?_map, List.getElem?_range ht]
  rfl
end W17
set_option Elab.async false
set_option linter.all false
set_option maxRecDepth 100000
set_option maxHeartbeats 1000000
namespace W17
open PySem L2 PySem.Spec PyProof.Rows WR WB WE WS
/-! ### the law's own: a list of pairs, number of the word and index in it -/
theorem cat_lc {te0 : TE} {r : R2} {wi : TI} {g gg : TG} {tt : TT} {te : TE} {vs : List Nat} {D : Ends} {σ : L2.St} {H : Hp}
    (h : te0 σ H fun x H0 => wi σ H0 fun J H1 => tLc (fun _ H R => R J H) g tt te vs σ H1 fun y H2 => r x y H2 fun z H4 => gg z σ H4 D.nx) : tAsg (tOp r te0 (tLc wi g tt te vs)) gg D σ H := h
def PrI (K : PySem.W.Frag) (H : Hp) (v : V) (x : Nat × Nat) : Prop := ∃ t, v = V.ref t ∧ SqT K H t [.int (x.1 : Int), .int (x.2 : Int)]
theorem PrI.same {K : PySem.W.Frag} {H H' : Hp} {v : V} {x : Nat × Nat} (h : PrI K H v x) (s : Same H H') : PrI K H' v x := by
  obtain ⟨t, e, q⟩ := h
  exact ⟨t, e, WR.Same.seqT s q⟩
theorem PrI.put {K : PySem.W.Frag} {D : Addr} {H : Hp} {ws : List V} {o : HO} {v : V} {x : Nat × Nat} (hD : H D = some (.lst ws)) (h : PrI K H v x) : PrI K (L2.upd H D o) v x := by
  obtain ⟨t, e, q⟩ := h
  exact ⟨t, e, SqT.keptL hD Kept.upd q⟩
def spSpots (K : PySem.W.Frag) : Sp := fun vs H Q _ => ∃ (p : Addr) (us : List V) (ws : List (List Int)), vs = [.ref p] ∧ H p = some (.lst us) ∧ LLs H us ws ∧ ws.flatten.length ≤ 60 ∧ ∀ l H' xs, H l = none → Same H H' → H' l = some (.lst xs) → All2 (PrI K H') xs (spF 0 ws) → Q (.ref l) H'
abbrev sSpots : Stmt := top 78
abbrev nSpots : List Str := ["_law_words", "_law_found", "_law_number", "_law_word", "_law_at"]
theorem scSpots : FnScope nSpots ["_law_words"] (defScope sSpots) := ⟨rfl, rfl, rfl, by decide +kernel, rfl, by decide +kernel, by decide +kernel⟩
section
variable {P : Program} {w : World} {K : PySem.W.Frag} {mg : Str → Option Value} {base : Heap} {C CR : Addr}
theorem ok_Spots {f : Addr} {fd : FuncData} (F : Fun K "_law_spots" "_law_spots" sSpots f fd) (N : TN mg)   : FnOk P w K mg base CX0 1 f fd ["_law_words"] (spSpots K) := by
  refine F.ok scSpots (fun vs H Q E h => ?_) (fun cdv A outer s H vs Q E hr h => ?_)
  · obtain ⟨p, us, ws, rfl, _⟩ := h
    rfl
  · obtain ⟨p, us, ws, rfl, hp, hu, l60, k⟩ := h
    refine ⟨_, pss_cons (ps_set (i := 1) scSpots.nd rfl (Or.inl rfl) (pe_lst pa_nil))
      (pss_cons (ps_for PassesOwn.never rfl (pi_enum (by rfl) N.enumerate (pa_cons (pv 0) pa_nil)) (pg_tup (n := 2) rfl (pgs_cons (pg_name (i := 2) scSpots.nd rfl (Or.inr rfl)) (pgs_cons (pg_name (i := 3) scSpots.nd rfl (Or.inl rfl)) pgs_nil)))
      (pss_one (ps_set (i := 1) scSpots.nd rfl (Or.inl rfl) (pe_op op_cat (pv 1) (pe_lc (own := [("_law_at", 4)]) (g := gName 4) (tt := tYes) rfl scSpots.nd (pi_range1 (by rfl) N.range (pa_cons (pe_callB call_len_seq (by rfl) N.len PySem.boot_len (pa_cons (pv 3) pa_nil)) pa_nil)) (blkOk_by (N := nSpots) (sc := defScope sSpots) (by decide +kernel)) (fun _ _ _ _ _ => (pg_name (i := 4) scSpots.nd rfl (Or.inl rfl))) (fun _ _ _ _ _ => pts_nil) (fun _ _ _ _ _ => (pe_tup (pa_cons (pv 2) (pa_cons (pv 4) pa_nil)))))))))
      (pss_one (ps_ret (pv 1)))), ?_⟩
    have lu := hu.length
    refine ⟨Nat.zero_le _, fun fo hfo => ?_⟩
    have s1 := same_upd (o := .lst []) hfo
    refine ⟨_, rfl, p, _, rfl, SqL.of (s1 _ _ hp), ?_⟩
    refine for_it (walk_enum (K := K) (a := p) (xs := us)) (fun i σ H' => ∃ (v2 v3 : Option V) (l : Addr) (xs : List V), σ = [some (.ref p), some (.ref l), v2, v3, none] ∧ Same H H' ∧ H l = none ∧ H' l = some (.lst xs) ∧ All2 (PrI K H') xs (spF 0 (ws.take i)))
      ⟨none, none, fo, [], rfl, s1, hfo, upd_same, .nil⟩ (fun i σ H' _ ⟨_, _, _, _, _, s, _⟩ => SqL.of (s _ _ hp)) ?_ ?_
    · rintro i x σ H3 H4 hi ⟨v2, v3, l, xs, rfl, s3, hl0, gl3, hx3⟩ ⟨T0, xi, yi, rfl, hT0, rfl, hx, hy⟩
      obtain rfl := Option.some.inj hx
      have hy : us[i]? = some yi := hy
      obtain ⟨u, hu2, ⟨q, rfl, hq⟩⟩ := hu.at hy
      have hil : i < ws.length := (List.getElem?_eq_some_iff.mp hu2).1
      have sT := same_upd (o := .tup [.int (i : Int), .ref q]) hT0
      have s4 := s3.trans sT
      have gl4 := sT _ _ gl3
      have hx4 := hx3.imp fun _ _ r => PrI.same r sT
      have gT : L2.upd H3 T0 (.tup [.int (i : Int), .ref q]) T0 = some (.tup [.int (i : Int), .ref q]) := upd_same
      generalize L2.upd H3 T0 (.tup [.int (i : Int), .ref q]) = H4 at s4 gl4 hx4 gT ⊢
      have hst : spF 0 (ws.take (i + 1)) = spF 0 (ws.take i) ++ (List.range u.length).map fun t => (i, t) := by
        rw [List.take_succ_eq_append_getElem hil, (List.getElem?_eq_some_iff.mp hu2).2, spF_snoc, List.length_take, Nat.min_eq_left (Nat.le_of_lt hil), Nat.zero_add]
      have hfl : (spF 0 (ws.take (i + 1))).length ≤ 60 := by
        rw [spF_len]
        refine Nat.le_trans ?_ l60
        have := congrArg (fun z : List (List Int) => z.flatten.length) (List.take_append_drop (i + 1) ws)
        rw [List.flatten_append, List.length_append] at this
        omega
      have hul : u.length ≤ 60 := by
        rw [hst, List.length_append, List.length_map, List.length_range] at hfl
        omega
      refine ⟨T0, _, rfl, SqT.of gT, rfl, _, _, rfl, _, _, rfl, rfl, ?_⟩
      refine cat_lc ?_
      refine ⟨_, rfl, _, rfl, q, _, rfl, .inl (SqL.of (s4 _ _ hq)), _, rfl, by rw [List.length_map]; omega, by rw [List.length_map]; omega, ?_⟩
      rw [List.length_map, Int.toNat_natCast]
      refine lcRM (fun _ => true) (fun H v t => PrI K H v (i, t)) (fun _ _ _ _ h s => h.same s) (fun _ _ _ _ _ _ hD h => h.put hD) (by omega) ?_ ?_
      · intro t ht H5 s5 Qy Qn ky kn
        refine ⟨rfl, yes_te ?_⟩
        refine ⟨_, rfl, _, rfl, by show 2 ≤ sizeLine; decide, fun t ht => ky rfl _ _ (same_upd ht) ⟨t, rfl, SqT.of upd_same⟩⟩
      intro D H5 vs hD s5 gD hw
      rw [List.filter_eq_self.mpr (fun _ _ => rfl)] at hw
      have gl5 := s5 _ _ gl4
      have hwm : All2 (PrI K H5) vs ((List.range u.length).map fun t => (i, t)) := by
        have : ∀ {vs : List V} {qs : List Nat}, All2 (fun v t => PrI K H5 v (i, t)) vs qs → All2 (PrI K H5) vs (qs.map fun t => (i, t)) := by
          intro vs qs h
          induction h with
          | nil => exact .nil
          | cons h1 _ ih => exact .cons h1 ih
        exact this hw
      have ltot : xs.length + vs.length ≤ 60 := by
        rw [hx3.length, hwm.length, ← List.length_append, ← hst]
        exact hfl
      refine ⟨l, D, _, _, rfl, rfl, gl5, gD, Evl.sz_of (by omega), fun r hr2 => ?_⟩
      have s6 := same_upd (o := .lst (xs ++ vs)) hr2
      refine ⟨_, _, r, xs ++ vs, rfl, (s4.trans s5).trans s6, (s4.trans s5).free hr2, upd_same, ?_⟩
      rw [hst]
      exact All2.app (hx4.imp fun _ _ r => (r.same s5).same s6) (hwm.imp fun _ _ r => r.same s6)
    · rintro σ H3 ⟨v2, v3, l, xs, rfl, s3, hl0, gl3, hx3⟩
      rw [lu, List.take_length] at hx3
      exact ⟨_, rfl, k l H3 xs hl0 s3 gl3 hx3⟩
end
end W17
set_option Elab.async false
set_option linter.all false
set_option maxRecDepth 100000
set_option maxHeartbeats 1000000
namespace W17
open PySem L2 PySem.Spec PyProof.Rows WR WB WE WS
/-! ### the law's own: is a sewing of these words and mates -/
theorem call_tupBK {X : Cx} {K : PySem.W.Frag} (h : X.K = K) : CallR X (.type "tuple") (fun xs H Q => ∃ p ys, xs = [.ref p] ∧ ((SqL K H p ys ∧ NewB K H Q ys) ∨ (SqB K H p ys ∧ Q (.ref p) H))) := h ▸ call_tupB
def dW (ws : List (List Int)) : PyData := .list (ws.map fun w => .tuple (w.map .int))
theorem layW : ∀ ws : List (List Int), PyData.canLayAll0 (ws.map fun w => PyData.tuple (w.map .int)) = true ∧ PyData.depthAll (ws.map fun w => PyData.tuple (w.map .int)) ≤ 1
  | [] => ⟨rfl, Nat.zero_le _⟩
  | w :: r => by
    obtain ⟨h1, h2⟩ := layW r
    have e1 := PySem.W.ke_canLayAll0 w
    have e2 := PySem.W.ke_depthAll w
    simp [PyData.canLayAll0, PyData.canLay0, PyData.depthAll, PyData.depth, h1, e1, e2]
    omega
theorem shapedW (ws : List (List Int)) : SeqAt.shaped (dW ws) = true := by
  obtain ⟨h1, h2⟩ := layW ws
  simp [dW, SeqAt.shaped, PyData.canLay0, PyData.depth, h1]
  omega
theorem dpW {K : PySem.W.Frag} {H : Hp} {vs : List V} {ws : List (List Int)} (h : All2 (fun v ns => ∃ q, v = V.ref q ∧ SqB K H q (iv ns)) vs ws) : DpAll K H vs (ws.map fun w => PyData.tuple (w.map .int)) := by
  induction h with
  | nil => exact .nil
  | cons h1 _ ih =>
    obtain ⟨q, rfl, hq⟩ := h1
    exact .cons (.tup hq.sq (dpInts _)) ih
theorem test_lc2 {r : R2} {wi wj : TI} {g1 g2 : TG} {t1 t2 : TT} {e1 e2 : TE} {v1 v2 : List Nat} {σ : L2.St} {H : Hp} {Q : Bool → Hp → Prop}
    (h : wi σ H fun J H1 => tLc (fun _ H R => R J H) g1 t1 e1 v1 σ H1 fun x H2 => wj σ H2 fun J2 H3 => tLc (fun _ H R => R J2 H) g2 t2 e2 v2 σ H3 fun y H4 => r x y H4 fun z H5 => ∃ c, z = .bl c ∧ Q c H5) : tTest (tOp r (tLc wi g1 t1 e1 v1) (tLc wj g2 t2 e2 v2)) σ H Q := h
def spIs (K : PySem.W.Frag) (C CR CS : Addr) : Sp := fun vs H Q _ => ∃ (s p m rp : Addr) (xs : List Addr) (us : List V) (ws : List (List Int)) (mt : List Int), vs = [.ref s, .ref p, .ref m] ∧ SewAt K C CR CS H s rp xs ws mt ∧ H p = some (.lst us) ∧ LLs H us ws ∧ H m = some (.lst (iv mt)) ∧ RimOk ws ∧ MatesOk ws.flatten.length mt ∧ ∀ H', Same H H' → Q (.bl true) H'
abbrev sIs : Stmt := top 82
abbrev nIs : List Str := ["_law_sewing", "_law_words", "_law_mates_here", "_law_word"]
theorem scIs : FnScope nIs ["_law_sewing", "_law_words", "_law_mates_here"] (defScope sIs) := ⟨rfl, rfl, rfl, by decide +kernel, rfl, by decide +kernel, by decide +kernel⟩
section
variable {P : Program} {w : World} {K : PySem.W.Frag} {mg : Str → Option Value} {base : Heap} {C CR CS : Addr}
theorem ok_Is {f : Addr} {fd : FuncData} (F : Fun K "_law_is" "_law_is" sIs f fd) (N : TN mg) (T : TxW K mg C) (TC : TxRC K mg CR) (TS : TxSC K mg CS) (G_corners : Cal P w K mg base "_law_corners" 2 ["_law_words", "_law_mates_here"] (spCorL K)) : FnOk P w K mg base CX0 3 f fd ["_law_sewing", "_law_words", "_law_mates_here"] (spIs K C CR CS) := by
  refine F.ok scIs (fun vs H Q E h => ?_) (fun cdv A outer s H vs Q E hr h => ?_)
  · obtain ⟨s, p, m, rp, xs, us, ws, mt, rfl, _⟩ := h
    rfl
  · obtain ⟨sw, p, m, rp, xs, us, ws, mt, rfl, S, hp, hu, hm, ok, mo, k⟩ := h
    refine ⟨_, pss_cons (ps_if (PW.pt (pw_or (pt_not (pt_val (pe_callB call_isi (by rfl) N.isinstance (by decide +kernel) (pa_cons (pv 0) (pa_cons (pe_glob (v := .ref CS) (by rfl) TS.mgS rfl) pa_nil))))) (pw_or1 (pt_cmpR (op_neD hr.units) (pe_lc (own := [("_law_word", 3)]) (g := gName 3) (tt := tYes) rfl scIs.nd (pi_tup (pe_fld (pe_fld (pv 0) rfl) rfl)) (blkOk_by (N := nIs) (sc := defScope sIs) (by decide +kernel)) (fun _ _ _ _ _ => (pg_name (i := 3) scIs.nd rfl (Or.inl rfl))) (fun _ _ _ _ _ => pts_nil) (fun _ _ _ _ _ => (pe_fldK (K := K) rfl (pv 3) rfl))) (pe_lc (own := [("_law_word", 3)]) (g := gName 3) (tt := tYes) rfl scIs.nd (pi_list (pv 1)) (blkOk_by (N := nIs) (sc := defScope sIs) (by decide +kernel)) (fun _ _ _ _ _ => (pg_name (i := 3) scIs.nd rfl (Or.inl rfl))) (fun _ _ _ _ _ => pts_nil) (fun _ _ _ _ _ => (pe_callTy (call_tupBK (K := K) rfl) (by rfl) N.tuple (by decide +kernel) (pa_cons (pv 3) pa_nil)))) (nomark _))))) (pss_one (ps_ret pe_bl)) pss_nil)
      (pss_one (ps_ret (pe_and (pe_cmpR (op_eqD hr.units) (pe_fld (pv 0) rfl) (pe_callTy call_tupB (by rfl) N.tuple (by decide +kernel) (pa_cons (pv 2) pa_nil)) (nomark _)) (pe_one (pe_cmpR op_eq (pe_fld (pv 0) rfl) (pe_op op_sub (pe_op op_fdiv (pe_callB call_len_seq (by rfl) N.len PySem.boot_len (pa_cons (pv 2) pa_nil)) pe_int) (pe_callB call_len_seq (by rfl) N.len PySem.boot_len (pa_cons (pe_cal G_corners hr (by decide) (by rfl) (pa_cons (pv 1) (pa_cons (pv 2) pa_nil))) pa_nil))) (nomark _)))))), ?_⟩
    obtain ⟨dx, tm, tc, tp, h1, R, h3, hc, hpc⟩ := id S
    obtain ⟨dr, tw, tl, th, tn, r1, r2, r3, r4, r5, r6⟩ := id R
    obtain ⟨o1, o2, o3, o4, o5, o6⟩ := id ok
    have lu := hu.length
    have lx := r3.length
    refine ⟨_, rfl, .ref sw, _, _, _, _, rfl, .own CS, S.tyx T TS, kit_self CS, _, rfl, ?_⟩
    refine iteF ?_
    refine test_lc2 ?_
    refine ⟨_, rfl, sw, CS, dx, _, _, rfl, h1, TS.cl, TS.n1, sf_rims, rp, CR, dr, _, _, rfl, r1, TC.cl, TC.n1, rf_words, tw, rfl, ⟨_, r2.sq⟩, ?_⟩
    refine lcM (walk_tup (xs := xs.map V.ref)) ws (fun _ H v ns => ∃ q, v = V.ref q ∧ SqB K H q (iv ns)) (fun _ _ _ _ _ ⟨q, e, h⟩ s => ⟨q, e, SqB.same s h⟩) ?_ (by rw [List.length_map]; omega) (by rw [List.length_map]; exact lx) (fun H s => (SqB.same s r2).sq) ?_ (fun x σ1 H A B k h => gName_mono k h) ?_
    · rintro D2 H5 ws5 o v ns hD5 ⟨q, e, h⟩
      exact ⟨q, e, SqB.keptL hD5 Kept.upd h⟩
    · intro i x u hx hu' D2 H5 hD2 _ s5 Qy ky
      rw [List.getElem?_map] at hx
      obtain ⟨q, hq, rfl⟩ := Option.map_eq_some_iff.mp hx
      obtain ⟨u', hu2, dxw, tl', tk', ks', w1, w2, w3, w4⟩ := r3.at hq
      obtain rfl : u' = u := Option.some.inj (hu2.symm.trans hu')
      refine ⟨rfl, _, rfl, q, C, dxw, _, _, rfl, s5 _ _ w1, T.cl, T.nL, wf_letters, ky _ H5 (Same.refl _) ⟨tl', rfl, SqB.same s5 w2⟩⟩
    intro D2 H5 vs2 hD2 s5 h5 q5
    refine ⟨_, rfl, p, rfl, ⟨_, SqL.of (s5 _ _ hp)⟩, ?_⟩
    refine lcM (walk_list (K := K) (a := p) (xs := us)) ws (fun _ H v ns => ∃ q, v = V.ref q ∧ SqB K H q (iv ns)) (fun _ _ _ _ _ ⟨q, e, h⟩ s => ⟨q, e, SqB.same s h⟩) ?_ (by omega) lu (fun H s => SqL.of (s _ _ (s5 _ _ hp))) ?_ (fun x σ1 H A B k h => gName_mono k h) ?_
    · rintro D3 H6 ws6 o v ns hD6 ⟨q, e, h⟩
      exact ⟨q, e, SqB.keptL hD6 Kept.upd h⟩
    · intro i x u hx hu' D3 H6 hD3 _ s6 Qy ky
      obtain ⟨u', hu2, ⟨q, rfl, hq⟩⟩ := hu.at hx
      obtain rfl : u' = u := Option.some.inj (hu2.symm.trans hu')
      refine ⟨rfl, _, rfl, q, _, rfl, .inl ⟨SqL.of (s6 _ _ (s5 _ _ hq)), fun t H7 s7 B7 => ky _ H7 s7 ⟨t, rfl, B7⟩⟩⟩
    intro D3 H6 vs3 hD3 s6 h6 q6
    have q56 := q5.imp fun v ns (r : ∃ q, v = V.ref q ∧ SqB K H5 q (iv ns)) => (⟨r.choose, r.choose_spec.1, SqB.same s6 r.choose_spec.2⟩ : ∃ q, v = V.ref q ∧ SqB K H6 q (iv ns))
    refine ⟨dW ws, dW ws, .lst (SqL.of (s6 _ _ h5)) (dpW q56), .lst (SqL.of h6) (dpW q6), shapedW ws, shapedW ws, ?_⟩
    rw [SeqAt.eqv_refl _ (SeqAt.canLay_of_shaped (shapedW ws))]
    refine ⟨_, rfl, ?_⟩
    refine iteF ?_
    have s56 := s5.trans s6
    refine ⟨_, rfl, sw, CS, dx, _, _, rfl, s56 _ _ h1, TS.cl, TS.n2, sf_mates, _, rfl, m, _, rfl, .inl ⟨SqL.of (s56 _ _ hm), fun t H7 s7 B7 => ?_⟩⟩
    have s57 := s56.trans s7
    refine ⟨.tuple (mt.map .int), .tuple (mt.map .int), .tup (SqB.same s57 h3).sq (dpInts mt), .tup B7.sq (dpInts mt), shaped_ints mt, shaped_ints mt, ?_⟩
    rw [eqv_ints, decide_eq_true rfl]
    refine ⟨_, rfl, iteT ?_⟩
    refine ⟨_, rfl, sw, CS, dx, _, _, rfl, s57 _ _ h1, TS.cl, TS.n4, sf_cost, ?_⟩
    refine ⟨_, rfl, m, _, rfl, .inl (SqL.of (s57 _ _ hm)), _, _, rfl, rfl, ⟨by decide, by decide⟩, _, rfl, _, rfl, p, m, us, ws, mt, rfl, s57 _ _ hp, hu.imp fun v w (r : LI w H v) => (⟨r.choose, r.choose_spec.1, s57 _ _ r.choose_spec.2⟩ : LI w _ v), o3, by omega, .inl (SqL.of (s57 _ _ hm)), mo, fun q H8 s8 ⟨vs, B8, hv⟩ => ?_⟩
    refine ⟨q, vs, rfl, .inr B8.sq, _, _, rfl, rfl, ?_⟩
    have e : ((iv mt).length : Int) / 2 - (vs.length : Int) = costF ws mt := by
      unfold costF
      rw [List.length_map, mo.1, hv.length]
      omega
    refine ⟨rfl, ?_⟩
    show Q (.bl (decide (V.int (costF ws mt) = V.int (((iv mt).length : Int) / 2 - (vs.length : Int))))) H8
    rw [e, decide_eq_true rfl]
    exact k H8 (s57.trans s8)
end
end W17
set_option Elab.async false
set_option linter.all false
set_option maxRecDepth 100000
set_option maxHeartbeats 1000000
namespace W17
open PySem L2 PySem.Spec PyProof.Rows WR WB WE WS
/-! ### the law's own: words and mates with a letter and its contrary put in -/
theorem all2_set {α β : Type} {R : α → β → Prop} {as : List α} {bs : List β} (h : All2 R as bs) {a : α} {b : β} (r : R a b) : ∀ i, All2 R (as.set i a) (bs.set i b) := by
  induction h with
  | nil => exact fun _ => .nil
  | cons h1 h2 ih =>
    intro i
    cases i with
    | zero => exact .cons r h2
    | succ i => exact .cons h1 (ih i)
theorem set_mid {A B : List (List Int)} {w w2 : List Int} : (A ++ [w] ++ B).set A.length w2 = A ++ [w2] ++ B := by
  induction A with
  | nil => rfl
  | cons a A ih => exact congrArg (a :: ·) ih
def spPut (K : PySem.W.Frag) : Sp := fun vs H Q _ => ∃ (p m : Addr) (us : List V) (A B : List (List Int)) (u v : List Int) (k : Int) (mt : List Int), vs = [.ref p, .ref m, .int ((A.flatten.length + u.length : Nat) : Int), .int k] ∧ H p = some (.lst us) ∧ LLs H us (A ++ [u ++ v] ++ B) ∧ v ≠ [] ∧ (A ++ [u ++ v] ++ B).flatten.length ≤ 24 ∧ (A ++ [u ++ v] ++ B).length ≤ 4 ∧ H m = some (.lst (iv mt)) ∧ mt.length = (A ++ [u ++ v] ++ B).flatten.length ∧
  ∀ (t l1 l2 : Addr) (us2 : List V) H', Same H H' → SqT K H' t [.ref l1, .ref l2] → H' l1 = some (.lst us2) → LLs H' us2 (A ++ [u ++ [k, -k] ++ v] ++ B) → H' l2 = some (.lst (iv (insM mt (A.flatten.length + u.length)))) → Q (.ref t) H'
abbrev sPut : Stmt := top 79
abbrev nPut : List Str := ["_law_words", "_law_mates_here", "_law_place", "_law_letter", "_law_number", "_law_at", "_law_longer", "_law_told", "_law_word", "_law_mate"]
theorem scPut : FnScope nPut ["_law_words", "_law_mates_here", "_law_place", "_law_letter"] (defScope sPut) := ⟨rfl, rfl, rfl, by decide +kernel, rfl, by decide +kernel, by decide +kernel⟩
section
variable {P : Program} {w : World} {K : PySem.W.Frag} {mg : Str → Option Value} {base : Heap} {C CR CS : Addr}
theorem ok_Put {f : Addr} {fd : FuncData} (F : Fun K "_law_put" "_law_put" sPut f fd) (N : TN mg)  (G_spots : Cal P w K mg base "_law_spots" 1 ["_law_words"] (spSpots K)) : FnOk P w K mg base CX0 2 f fd ["_law_words", "_law_mates_here", "_law_place", "_law_letter"] (spPut K) := by
  refine F.ok scPut (fun vs H Q E h => ?_) (fun cdv A outer s H vs Q E hr h => ?_)
  · obtain ⟨p, m, us, A, B, u, v, k, mt, rfl, _⟩ := h
    rfl
  · obtain ⟨p, m, us, A, B, u, v, x, mt, rfl, hp, hu, hv, l24, l4, hm, lm, k⟩ := h
    refine ⟨_, pss_cons (ps_asg (pe_ix ix_list (pe_cal G_spots hr (by decide) (by rfl) (pa_cons (pv 0) pa_nil)) (pv 2) (fun _ _ => rfl)) (pg_tup (n := 2) rfl (pgs_cons (pg_name (i := 4) scPut.nd rfl (Or.inl rfl)) (pgs_cons (pg_name (i := 5) scPut.nd rfl (Or.inl rfl)) pgs_nil))))
      (pss_cons (ps_setLc (i := 6) (own := [("_law_word", 8)]) (g := gName 8) (tt := tYes) rfl scPut.nd rfl rfl (sw_true rfl rfl rfl (by decide +kernel)) (pi_list (pv 0)) (blkOk_by (N := nPut) (sc := defScope sPut) (by decide +kernel)) (fun _ _ _ _ _ => (pg_name (i := 8) scPut.nd rfl (Or.inl rfl))) (fun _ _ _ _ _ => pts_nil) (fun _ _ _ _ _ => (pe_callTy (call_listK (K := K) rfl) (by rfl) N.list (by decide +kernel) (pa_cons (pv 8) pa_nil))))
      (pss_cons (ps_asg (pe_op op_cat (pe_op op_cat (pe_slice sl_list (pe_ix ix_list (pv 6) (pv 4) (fun _ _ => rfl)) po_none (po_some (pv 5))) (pe_lst (pa_cons (pv 3) (pa_cons (pe_un un_neg (pv 3)) pa_nil)))) (pe_slice sl_list (pe_ix ix_list (pv 6) (pv 4) (fun _ _ => rfl)) (po_some (pv 5)) po_none)) (pg_sub (pv 6) (pv 4) set_list))
      (pss_cons (ps_setLc (i := 7) (own := [("_law_mate", 9)]) (g := gName 9) (tt := tYes) rfl scPut.nd rfl rfl (sw_true rfl rfl rfl (by decide +kernel)) (pi_list (pv 1)) (blkOk_by (N := nPut) (sc := defScope sPut) (by decide +kernel)) (fun _ _ _ _ _ => (pg_name (i := 9) scPut.nd rfl (Or.inl rfl))) (fun _ _ _ _ _ => pts_nil) (fun _ _ _ _ _ => (pe_ifExp (pt_cmpR op_lt (pv 9) (pv 2) (nomark _)) (pv 9) (pe_op op_add (pv 9) pe_int))))
      (pss_one (ps_ret (pe_tup (pa_cons (pv 6) (pa_cons (pe_op op_cat (pe_op op_cat (pe_slice sl_list (pv 7) po_none (po_some (pv 2))) (pe_lst (pa_cons (pe_op op_add (pv 2) pe_int) (pa_cons (pv 2) pa_nil)))) (pe_slice sl_list (pv 7) (po_some (pv 2)) po_none)) pa_nil)))))))), ?_⟩
    refine ⟨_, rfl, p, us, _, rfl, hp, hu, by omega, fun ls H1 xs hls s1 g1 q1 => ?_⟩
    have lq := q1.length
    have hsp := spF_mid A B (u ++ v) 0 u.length (by rw [List.length_append]; have := List.length_pos_iff.mpr hv; omega)
    have hlt : A.flatten.length + u.length < xs.length := by rw [lq]; exact (List.getElem?_eq_some_iff.mp hsp).1
    obtain ⟨b, hb, T, eT, sT⟩ := q1.at (List.getElem?_eq_getElem hlt)
    obtain rfl : b = (0 + A.length, u.length) := Option.some.inj (hb.symm.trans hsp)
    have gx : xs[A.flatten.length + u.length]? = some (V.ref T) := by rw [List.getElem?_eq_getElem hlt, eT]
    refine ⟨_, rfl, ls, _, _, _, rfl, rfl, SqL.of g1, atI_nat gx, ?_⟩
    refine ⟨T, _, rfl, sT, rfl, _, _, rfl, _, _, rfl, rfl, ?_⟩
    rw [Nat.zero_add]
    try dsimp only
    refine sq_lcS ?_
    refine ⟨_, rfl, p, rfl, ⟨_, SqL.of (s1 _ _ hp)⟩, ?_⟩
    refine lcM (walk_list (K := K) (a := p) (xs := us)) (A ++ [u ++ v] ++ B) (fun D H v w => ∃ q, v = V.ref q ∧ q ≠ D ∧ H q = some (.lst (iv w))) (fun _ _ _ _ _ ⟨q, e, n, h⟩ s => ⟨q, e, n, s _ _ h⟩) ?_ (by have := hu.length; omega) hu.length (fun H s => SqL.of (s _ _ (s1 _ _ hp))) ?_ (fun x σ1 H A B k h => gName_mono k h) ?_
    · rintro D H2 ws2 o v w hD ⟨q, e, n, h⟩
      exact ⟨q, e, n, by rw [upd_ne n]; exact h⟩
    · rintro i y wd hy hw' D H2 hD ⟨wsD, gD⟩ s2 Qy ky
      obtain ⟨u', hu2, ⟨q, rfl, hq⟩⟩ := hu.at hy
      obtain rfl : u' = wd := Option.some.inj (hu2.symm.trans hw')
      refine ⟨rfl, _, rfl, q, _, rfl, .inl (SqL.of (s2 _ _ (s1 _ _ hq))), fun l hl => ky _ _ (same_upd hl) ⟨l, rfl, (fun z => by rw [z, gD] at hl; cases hl), upd_same⟩⟩
    intro D H2 ys hD s2 gD qy
    try dsimp only
    refine at_set ?_
    try dsimp only
    have ly : (A ++ [u ++ v] ++ B)[A.length]? = some (u ++ v) := by
      rw [List.append_assoc, List.getElem?_append_right (Nat.le_refl _), Nat.sub_self]
      rfl
    have lys := qy.length
    have hAy : A.length < ys.length := by rw [lys]; exact (List.getElem?_eq_some_iff.mp ly).1
    obtain ⟨w0, hw0, q0, e0, n0, g0⟩ := qy.at (List.getElem?_eq_getElem hAy)
    obtain rfl : w0 = u ++ v := Option.some.inj (hw0.symm.trans ly)
    have gy : ys[A.length]? = some (V.ref q0) := by rw [List.getElem?_eq_getElem hAy, e0]
    refine ⟨_, rfl, _, rfl, D, _, _, _, rfl, rfl, SqL.of gD, atI_nat gy, ?_⟩
    have luv : (u ++ v).length ≤ 24 := Nat.le_trans (word_le (List.mem_of_getElem? ly)) l24
    rw [List.length_append] at luv
    refine ⟨_, rfl, _, rfl, q0, _, rfl, SqL.of g0, fun p1 hp1 => ?_⟩
    rw [cut_to (by rw [List.length_append]; omega), List.take_left]
    have t1 := same_upd (o := .lst (iv u)) hp1
    refine ⟨_, rfl, _, rfl, _, rfl, by show 2 ≤ sizeLine; decide, fun p2 hp2 => ?_⟩
    have t2 := t1.trans (same_upd (o := .lst [.int x, .int (-x)]) hp2)
    refine ⟨p1, p2, _, _, rfl, rfl, (same_upd hp2) _ _ upd_same, upd_same, Evl.sz_of (by rw [List.length_map]; show _ + 2 ≤ _; omega), fun p3 hp3 => ?_⟩
    have t3 := t2.trans (same_upd (o := .lst (iv u ++ [.int x, .int (-x)])) hp3)
    refine ⟨_, rfl, _, rfl, D, _, _, _, rfl, rfl, SqL.of (t3 _ _ gD), atI_nat gy, ?_⟩
    refine ⟨_, rfl, _, rfl, q0, _, rfl, SqL.of (t3 _ _ g0), fun p4 hp4 => ?_⟩
    rw [cut_from (by rw [List.length_append]; omega), List.drop_left]
    have g3 : L2.upd (L2.upd (L2.upd H2 p1 (.lst (iv u))) p2 (.lst [.int x, .int (-x)])) p3 (.lst (iv u ++ [.int x, .int (-x)])) p3 = some (.lst (iv u ++ [.int x, .int (-x)])) := upd_same
    have t4 := t3.trans (same_upd (o := .lst (iv v)) hp4)
    refine ⟨p3, p4, _, _, rfl, rfl, (same_upd hp4) _ _ g3, upd_same, Evl.sz_of (by rw [List.length_append, List.length_map, List.length_map]; show _ + 2 + _ ≤ _; omega), fun p5 hp5 => ?_⟩
    have t5 := t4.trans (same_upd (o := .lst (iv u ++ [.int x, .int (-x)] ++ iv v)) hp5)
    have gD5 := t5 _ _ gD
    have g5 : L2.upd (L2.upd (L2.upd (L2.upd (L2.upd H2 p1 (.lst (iv u))) p2 (.lst [.int x, .int (-x)])) p3 (.lst (iv u ++ [.int x, .int (-x)]))) p4 (.lst (iv v))) p5 (.lst (iv u ++ [.int x, .int (-x)] ++ iv v)) p5 = some (.lst (iv (u ++ [x, -x] ++ v))) := by
      rw [upd_same]
      simp [iv]
    have f5 : H2 p5 = none := t4.free hp5
    generalize L2.upd (L2.upd (L2.upd (L2.upd (L2.upd H2 p1 (.lst (iv u))) p2 (.lst [.int x, .int (-x)])) p3 (.lst (iv u ++ [.int x, .int (-x)]))) p4 (.lst (iv v))) p5 (.lst (iv u ++ [.int x, .int (-x)] ++ iv v)) = H5 at t5 gD5 g5 ⊢
    refine ⟨_, rfl, _, rfl, D, _, _, A.length, rfl, rfl, gD5, Evl.ixN_nat hAy, ?_⟩
    have hDH := s1.free hD
    have n5 : p5 ≠ D := fun z => by rw [z, gD] at f5; cases f5
    have sH : Same H (L2.upd H5 D (.lst (ys.set A.length (.ref p5)))) := fun b o e => by
      rw [upd_ne (fun z => by rw [z, hDH] at e; cases e)]
      exact (s1.trans (s2.trans t5)) _ _ e
    have L6 : LLs (L2.upd H5 D (.lst (ys.set A.length (.ref p5)))) (ys.set A.length (.ref p5)) (A ++ [u ++ [x, -x] ++ v] ++ B) := by
      rw [← set_mid (w := u ++ v)]
      refine all2_set (qy.imp fun v w r => ?_) ?_ _
      · obtain ⟨q, e, n, g⟩ := r
        exact ⟨q, e, by rw [upd_ne n]; exact t5 _ _ g⟩
      · exact ⟨p5, rfl, by rw [upd_ne n5]; exact g5⟩
    have g6 : L2.upd H5 D (.lst (ys.set A.length (.ref p5))) D = some (.lst (ys.set A.length (.ref p5))) := upd_same
    generalize L2.upd H5 D (.lst (ys.set A.length (.ref p5))) = H6 at sH L6 g6 ⊢
    try dsimp only
    refine sq_lcS ?_
    refine ⟨_, rfl, m, rfl, ⟨_, SqL.of (sH _ _ hm)⟩, ?_⟩
    obtain ⟨pl, epl⟩ : ∃ pl, pl = A.flatten.length + u.length := ⟨_, rfl⟩
    rw [← epl] at k ⊢
    refine lcp (walk_list (K := K) (a := m) (xs := iv mt)) (fun _ => true) (fun x => match x with | .int z => .int (upM pl z) | y => y) (by rw [List.length_map]; omega) (fun H s => SqL.of (s _ _ (sH _ _ hm))) ?_ ?_
    · intro y hy H7 s7 Qy Qn ky kn
      obtain ⟨z, hz, rfl⟩ := List.mem_map.mp hy
      refine ⟨rfl, yes_te ?_⟩
      have kk : Qy (.int (if z < (pl : Int) then z else z + 2)) H7 := ky rfl H7 (Same.refl _)
      refine ⟨_, rfl, _, rfl, _, _, rfl, rfl, _, rfl, ?_⟩
      by_cases c : z < (pl : Int)
      · rw [if_pos c] at kk
        exact iteT' (decide_eq_true c) ⟨_, rfl, kk⟩
      · rw [if_neg c] at kk
        exact iteF' (decide_eq_false c) ⟨_, rfl, _, _, rfl, rfl, kk⟩
    intro l2 H7 hl2 s7 g7
    have e7 : ((iv mt).filter fun _ => true).map (fun x => match x with | .int z => V.int (upM pl z) | y => y) = iv (mt.map (upM pl)) := by
      rw [List.filter_eq_self.mpr (fun _ _ => rfl)]
      unfold iv
      rw [List.map_map, List.map_map]
      rfl
    rw [e7] at g7
    have lmm : (mt.map (upM pl)).length = (A ++ [u ++ v] ++ B).flatten.length := by rw [List.length_map]; exact lm
    have hpl : pl ≤ (mt.map (upM pl)).length := by
      rw [lmm]
      have := (List.getElem?_eq_some_iff.mp hsp).1
      rw [spF_len] at this
      omega
    try dsimp only
    refine at_set ?_
    try dsimp only
    refine ⟨_, rfl, _, rfl, _, rfl, _, rfl, l2, _, rfl, SqL.of g7, fun q1 hq1 => ?_⟩
    rw [cut_to hpl]
    have r1 := same_upd (o := .lst (iv ((mt.map (upM pl)).take pl))) hq1
    refine ⟨_, rfl, _, _, rfl, rfl, _, rfl, by show 2 ≤ sizeLine; decide, fun q2 hq2 => ?_⟩
    have r2 := r1.trans (same_upd (o := .lst [.int ((pl : Int) + 1), .int (pl : Int)]) hq2)
    refine ⟨q1, q2, _, _, rfl, rfl, (same_upd hq2) _ _ upd_same, upd_same, Evl.sz_of (by rw [List.length_map, List.length_take]; show _ + 2 ≤ _; omega), fun q3 hq3 => ?_⟩
    have r3 := r2.trans (same_upd (o := .lst (iv ((mt.map (upM pl)).take pl) ++ [.int ((pl : Int) + 1), .int (pl : Int)])) hq3)
    refine ⟨_, rfl, _, rfl, _, rfl, l2, _, rfl, SqL.of (r3 _ _ g7), fun q4 hq4 => ?_⟩
    rw [cut_from hpl]
    have G3 : L2.upd (L2.upd (L2.upd H7 q1 (.lst (iv ((mt.map (upM pl)).take pl)))) q2 (.lst [.int ((pl : Int) + 1), .int (pl : Int)])) q3 (.lst (iv ((mt.map (upM pl)).take pl) ++ [.int ((pl : Int) + 1), .int (pl : Int)])) q3 = some (.lst (iv ((mt.map (upM pl)).take pl) ++ [.int ((pl : Int) + 1), .int (pl : Int)])) := upd_same
    have r4 := r3.trans (same_upd (o := .lst (iv ((mt.map (upM pl)).drop pl))) hq4)
    refine ⟨q3, q4, _, _, rfl, rfl, (same_upd hq4) _ _ G3, upd_same, Evl.sz_of (by
      have d1 : (iv ((mt.map (upM pl)).drop pl)).length ≤ 24 := by rw [List.length_map, List.length_drop]; omega
      have d2 : (iv ((mt.map (upM pl)).take pl)).length ≤ 24 := by rw [List.length_map, List.length_take]; omega
      rw [List.length_append]
      show _ + 2 + _ ≤ _
      omega), fun q5 hq5 => ?_⟩
    have r5 := r4.trans (same_upd (o := .lst (iv ((mt.map (upM pl)).take pl) ++ [.int ((pl : Int) + 1), .int (pl : Int)] ++ iv ((mt.map (upM pl)).drop pl))) hq5)
    have eM : iv ((mt.map (upM pl)).take pl) ++ [V.int ((pl : Int) + 1), V.int (pl : Int)] ++ iv ((mt.map (upM pl)).drop pl) = iv (insM mt pl) := by
      unfold insM
      unfold iv
      rw [List.map_append, List.map_append]
      rfl
    rw [eM] at r5 ⊢
    refine ⟨by show 2 ≤ sizeLine; decide, fun t ht => ?_⟩
    have st := same_upd (o := .tup [.ref D, .ref q5]) ht
    have sz := (s7.trans r5).trans st
    exact k t D q5 _ _ (sH.trans sz) (SqT.of upd_same) (sz _ _ g6) (L6.imp fun v w (r : LI w H6 v) => (⟨r.choose, r.choose_spec.1, sz _ _ r.choose_spec.2⟩ : LI w _ v)) (st _ _ upd_same)
end
end W17
set_option Elab.async false
set_option linter.all false
set_option maxRecDepth 100000
set_option maxHeartbeats 1000000
namespace W17
open PySem L2 PySem.Spec PyProof.Rows WR WB WE WS
/-! ### the law's own: words and mates without two places -/
/-- a place stands in a word -/
theorem spl_at : ∀ {ws : List (List Int)} {i : Nat}, i < ws.flatten.length → ∃ (A : List (List Int)) (w : List Int) (B : List (List Int)) (t : Nat), ws = A ++ [w] ++ B ∧ t < w.length ∧ i = A.flatten.length + t
  | [], i, h => absurd h (by simp)
  | w :: r, i, h => by
    by_cases c : i < w.length
    · exact ⟨[], w, r, i, rfl, c, by simp⟩
    · rw [List.flatten_cons, List.length_append] at h
      obtain ⟨A, u, B, t, rfl, ht, e⟩ := spl_at (ws := r) (i := i - w.length) (by omega)
      exact ⟨w :: A, u, B, t, rfl, ht, by rw [List.flatten_cons, List.length_append]; omega⟩
theorem spl_facts {A B : List (List Int)} {w : List Int} {t : Nat} (ht : t < w.length) : home (A ++ [w] ++ B) (A.flatten.length + t) = A.length ∧ (A ++ [w] ++ B)[A.length]? = some w ∧ (A ++ [w] ++ B).flatten.getD (A.flatten.length + t) 0 = w.getD t 0 := by
  refine ⟨?_, ?_, ?_⟩
  · rw [hm_mid A B w (by omega), if_neg (by omega), if_pos (by omega)]
  · rw [List.append_assoc, List.getElem?_append_right (Nat.le_refl _), Nat.sub_self]
    rfl
  · have e : (A ++ [w] ++ B).flatten = A.flatten ++ (w ++ B.flatten) := by simp [List.append_assoc]
    rw [e, gd_r t rfl, gd_l ht]
theorem spot_at {ws : List (List Int)} {i : Nat} (hi : i < ws.flatten.length) : ∃ (t : Nat) (w : List Int), (spF 0 ws)[i]? = some (home ws i, t) ∧ ws[home ws i]? = some w ∧ t < w.length ∧ w[t]? = some (ws.flatten.getD i 0) := by
  obtain ⟨A, w, B, t, rfl, ht, rfl⟩ := spl_at hi
  obtain ⟨e1, e2, e3⟩ := spl_facts (A := A) (B := B) ht
  refine ⟨t, w, ?_, ?_, ht, ?_⟩
  · rw [spF_mid A B w 0 t ht, e1, Nat.zero_add]
  · rw [e1, e2]
  · rw [e3, List.getElem?_eq_getElem ht, getD_lt ht]
theorem zip_wd : ∀ (ws : List (List Int)) (f n : Nat), (((hmF f ws).zip ws.flatten).filter fun x => decide (x.1 = ((f + n : Nat) : Int))).map (·.2) = ws.getD n []
  | [], f, n => by cases n <;> rfl
  | w :: r, f, n => by
    have h1 : hmF f (w :: r) = List.replicate w.length (f : Int) ++ hmF (f + 1) r := rfl
    rw [h1, List.flatten_cons, List.zip_append (by simp), List.filter_append, List.map_append]
    have r1 : ∀ x ∈ (List.replicate w.length (f : Int)).zip w, x.1 = (f : Int) := fun x hx => (List.mem_replicate.mp (List.of_mem_zip hx).1).2
    cases n with
    | zero =>
      rw [List.filter_eq_self.mpr fun x hx => decide_eq_true (by rw [r1 x hx]; rfl), List.filter_eq_nil_iff.mpr fun x hx => by
        have := (hmF_rng r (f + 1) _ (List.of_mem_zip hx).1).1
        simp only [decide_eq_true_eq]
        omega]
      show ((List.replicate w.length (f : Int)).zip w).map (·.2) ++ [] = w
      rw [List.append_nil]
      show ((List.replicate w.length (f : Int)).zip w).map Prod.snd = w
      rw [List.map_snd_zip (by simp)]
    | succ n =>
      rw [List.filter_eq_nil_iff.mpr fun x hx => by
        rw [r1 x hx]
        simp only [decide_eq_true_eq]
        omega]
      have ih := zip_wd r (f + 1) n
      rw [show f + 1 + n = f + (n + 1) by omega] at ih
      rw [ih]
      rfl
/-- the letters of the places of a word -/
theorem wd_of (ws : List (List Int)) (n : Nat) : ((List.range ws.flatten.length).filter fun i => decide (home ws i = n)).map (fun i => ws.flatten.getD i 0) = ws.getD n [] := by
  rw [← zip_wd ws 0 n, hm_map ws]
  have e : (List.map (fun i => ((home ws i : Nat) : Int)) (List.range ws.flatten.length)).zip ws.flatten = (List.range ws.flatten.length).map fun i => (((home ws i : Nat) : Int), ws.flatten.getD i 0) := by
    conv => lhs; arg 2; rw [self_map ws.flatten]
    rw [List.zip_map']
  rw [e, List.filter_map, List.map_map]
  have e2 : ((fun x : Int × Int => decide (x.1 = ((0 + n : Nat) : Int))) ∘ fun i => (((home ws i : Nat) : Int), ws.flatten.getD i 0)) = fun i => decide (home ws i = n) := by
    funext i
    show decide (((home ws i : Nat) : Int) = ((0 + n : Nat) : Int)) = _
    by_cases c : home ws i = n
    · rw [decide_eq_true c, decide_eq_true (by omega)]
    · rw [decide_eq_false c, decide_eq_false (by omega)]
  rw [e2]
  rfl
/-- of the places that are kept -/
theorem Cut2.word {ws2 ws : List (List Int)} {e : Nat → Nat} {p q : Nat} (C : Cut2 ws2 ws e p q) (n : Nat) : (((List.range ws.flatten.length).map e).filter fun i => decide (home ws2 i = n)).map (fun i => ws2.flatten.getD i 0) = ws.getD n [] := by
  rw [List.filter_map, List.map_map, ← wd_of ws n]
  have e1 : (List.range ws.flatten.length).filter ((fun i => decide (home ws2 i = n)) ∘ e) = (List.range ws.flatten.length).filter fun i => decide (home ws i = n) :=
    List.filter_congr fun i hi => by
      show decide (home ws2 (e i) = n) = _
      rw [C.homs i (List.mem_range.mp hi)]
  rw [e1]
  refine List.map_congr_left fun i hi => ?_
  exact C.lets i (List.mem_range.mp (List.mem_filter.mp hi).1)
/-- mates that are taken out together need no new mates -/
theorem setM_self {n : Nat} {mt : List Int} {p q : Nat} (P : PairOk n mt) (hp : p < n) (hq : q < n) (c : mtn mt p = q) : setM mt p q = mt := by
  have hb : mtn mt q = p := by rw [← c]; exact (pair_inv P hp).1
  have g1 := (mtn_at P.1 hp).2.1
  have g2 := (mtn_at P.1 hq).2.1
  have lm := P.1.1
  refine List.ext_getElem? fun i => ?_
  unfold setM
  rw [c, hb, List.getElem?_set, List.getElem?_set, List.length_set]
  by_cases c1 : p = i
  · rw [if_pos c1, if_pos (by omega), ← c1, g1, c]
  · rw [if_neg c1]
    by_cases c2 : q = i
    · rw [if_pos c2, if_pos (by omega), ← c2, g2, hb]
    · rw [if_neg c2]
theorem app_lc {K : PySem.W.Frag} {i : Nat} {wi : TI} {g : TG} {tt : TT} {te : TE} {vs : List Nat} {D : Ends} {σ : L2.St} {H : Hp}
    (h : ∃ wv, σ[i]? = some (some wv) ∧ tyV K "list" wv H ∧ wi σ H fun J H1 => tLc (fun _ H R => R J H) g tt te vs σ H1 fun y H2 => rAppend wv [y] H2 fun _ H4 => D.nx σ H4) : tDrop (tBM K "list" rAppend (tVar i) (tCons (tLc wi g tt te vs) tNil)) D σ H := h
theorem seq_to {a b : TS} {D : Ends} {σ : L2.St} {H : Hp} (F : L2.St → Hp → Prop) (h1 : ∀ D' : Ends, (∀ σ H, F σ H → D'.nx σ H) → a D' σ H) (h2 : ∀ σ H, F σ H → b D σ H) : tSeq a b D σ H := h1 _ h2
theorem ret_tup_lc {K : PySem.W.Frag} {i : Nat} {wi : TI} {g : TG} {tt : TT} {te : TE} {vs : List Nat} {D : Ends} {σ : L2.St} {H : Hp}
    (h : ∃ v, σ[i]? = some (some v) ∧ wi σ H fun J H1 => tLc (fun _ H R => R J H) g tt te vs σ H1 fun y H2 => [v, y].length ≤ sizeLine ∧ NewB K H2 D.rt [v, y]) : tRet (fun σ H Q => tCons (tVar i) (tCons (tLc wi g tt te vs) tNil) σ H fun xs H1 => xs.length ≤ sizeLine ∧ NewB K H1 Q xs) D σ H := h
theorem mt_indexK {X : Cx} {K : PySem.W.Frag} (h : X.K = K) : MtR X "list.index" (rIndex K) := h ▸ mt_index
def spTaken (K : PySem.W.Frag) : Sp := fun vs H Q _ => ∃ (p m : Addr) (us : List V) (ws2 ws : List (List Int)) (e : Nat → Nat) (k q : Nat) (mt : List Int), vs = [.ref p, .ref m, .int (k : Int), .int (q : Int)] ∧ H p = some (.lst us) ∧ LLs H us ws2 ∧ H m = some (.lst (iv mt)) ∧ PairOk ws2.flatten.length mt ∧ Cut2 ws2 ws e k q ∧ ws2.flatten.length ≤ 24 ∧ ws2.length ≤ 4 ∧
  ∀ (t l1 l2 : Addr) (us2 : List V) H', Same H H' → SqT K H' t [.ref l1, .ref l2] → H' l1 = some (.lst us2) → LLs H' us2 ws → H' l2 = some (.lst (iv (takM mt k q ((List.range ws.flatten.length).map e)))) → Q (.ref t) H'
abbrev sTaken : Stmt := top 80
abbrev nTaken : List Str := ["_law_words", "_law_mates_here", "_law_one", "_law_other", "_law_told", "_law_shorter", "_law_spots_here", "_law_left", "_law_number", "_law_word", "_law_place"]
theorem scTaken : FnScope nTaken ["_law_words", "_law_mates_here", "_law_one", "_law_other"] (defScope sTaken) := ⟨rfl, rfl, rfl, by decide +kernel, rfl, by decide +kernel, by decide +kernel⟩
section
variable {P : Program} {w : World} {K : PySem.W.Frag} {mg : Str → Option Value} {base : Heap} {C CR CS : Addr}
theorem ok_Taken {f : Addr} {fd : FuncData} (F : Fun K "_law_taken" "_law_taken" sTaken f fd) (N : TN mg)  (G_spots : Cal P w K mg base "_law_spots" 1 ["_law_words"] (spSpots K)) : FnOk P w K mg base CX0 2 f fd ["_law_words", "_law_mates_here", "_law_one", "_law_other"] (spTaken K) := by
  refine F.ok scTaken (fun vs H Q E h => ?_) (fun cdv A outer s H vs Q E hr h => ?_)
  · obtain ⟨p, m, us, ws2, ws, e, k, q, mt, rfl, _⟩ := h
    rfl
  · obtain ⟨p, m, us, ws, ws', e, k, q, mt, rfl, hp, hu, hm, PP, Cu, l24, l4, kq⟩ := h
    refine ⟨_, pss_cons (ps_asg (pe_tup (pa_cons (pe_callTy call_list_of (by rfl) N.list (by decide +kernel) (pa_cons (pv 1) pa_nil)) (pa_cons (pe_lst pa_nil) (pa_cons (pe_cal G_spots hr (by decide) (by rfl) (pa_cons (pv 0) pa_nil)) pa_nil)))) (pg_tup (n := 3) rfl (pgs_cons (pg_name (i := 4) scTaken.nd rfl (Or.inr rfl)) (pgs_cons (pg_name (i := 5) scTaken.nd rfl (Or.inl rfl)) (pgs_cons (pg_name (i := 6) scTaken.nd rfl (Or.inr rfl)) pgs_nil)))))
      (pss_cons (ps_if (pt_cmpR op_ne (pe_ix ix_list (pv 1) (pv 2) (fun _ _ => rfl)) (pv 3) (nomark _)) (pss_one (ps_asg (pe_tup (pa_cons (pe_ix ix_list (pv 1) (pv 3) (fun _ _ => rfl)) (pa_cons (pe_ix ix_list (pv 1) (pv 2) (fun _ _ => rfl)) pa_nil))) (pg_tup (n := 2) rfl (pgs_cons (pg_sub (pv 4) (pe_ix ix_list (pv 1) (pv 2) (fun _ _ => rfl)) set_list) (pgs_cons (pg_sub (pv 4) (pe_ix ix_list (pv 1) (pv 3) (fun _ _ => rfl)) set_list) pgs_nil))))) pss_nil)
      (pss_cons (ps_set (i := 7) scTaken.nd rfl (Or.inr rfl) (pe_lc (own := [("_law_place", 10)]) (g := gName 10) rfl scTaken.nd (pi_range1 (by rfl) N.range (pa_cons (pe_callB call_len_seq (by rfl) N.len PySem.boot_len (pa_cons (pv 1) pa_nil)) pa_nil)) (blkOk_by (N := nTaken) (sc := defScope sTaken) (by decide +kernel)) (fun _ _ _ _ _ => (pg_name (i := 10) scTaken.nd rfl (Or.inl rfl))) (fun _ _ _ _ _ => (pts_one (pt_cmpR (op_notInK (K := K) rfl) (pv 10) (pe_tupBK (K := K) rfl (pa_cons (pv 2) (pa_cons (pv 3) pa_nil))) (by rfl)))) (fun _ _ _ _ _ => (pv 10))))
      (pss_cons (ps_for PassesOwn.never rfl (pi_enum (by rfl) N.enumerate (pa_cons (pv 0) pa_nil)) (pg_tup (n := 2) rfl (pgs_cons (pg_name (i := 8) scTaken.nd rfl (Or.inr rfl)) (pgs_cons (pg_name (i := 9) scTaken.nd rfl (Or.inr rfl)) pgs_nil)))
      (pss_one (ps_expr (pe_bm PySem.F.plainAttrs_list PySem.F.slot_list_append PySem.F.type_list_append mt_append (pv 5) (pa_cons (pe_lc (own := [("_law_place", 10)]) (g := gName 10) rfl scTaken.nd (pi_list (pv 7)) (blkOk_by (N := nTaken) (sc := defScope sTaken) (by decide +kernel)) (fun _ _ _ _ _ => (pg_name (i := 10) scTaken.nd rfl (Or.inl rfl))) (fun _ _ _ _ _ => (pts_one (pt_cmpR op_eq (pe_ix (ixt (K := K) rfl) (pe_ix (ixl (K := K) rfl) (pv 6) (pv 10) (fun _ _ => rfl)) pe_int (fun _ _ => rfl)) (pv 8) (nomark _)))) (fun _ _ _ _ _ => (pe_ix (ixl (K := K) rfl) (pv 9) (pe_ix (ixt (K := K) rfl) (pe_ix (ixl (K := K) rfl) (pv 6) (pv 10) (fun _ _ => rfl)) pe_int (fun _ _ => rfl)) (fun _ _ => rfl)))) pa_nil)))))
      (pss_one (ps_ret (pe_tupB (pa_cons (pv 5) (pa_cons (pe_lc (own := [("_law_place", 10)]) (g := gName 10) (tt := tYes) rfl scTaken.nd (pi_list (pv 7)) (blkOk_by (N := nTaken) (sc := defScope sTaken) (by decide +kernel)) (fun _ _ _ _ _ => (pg_name (i := 10) scTaken.nd rfl (Or.inl rfl))) (fun _ _ _ _ _ => pts_nil) (fun _ _ _ _ _ => (pe_bmK (K := K) rfl PySem.F.plainAttrs_list PySem.F.slot_list_index PySem.F.type_list_index (mt_indexK (K := K) rfl) (pv 7) (pa_cons (pe_ix (ixl (K := K) rfl) (pv 4) (pv 10) (fun _ _ => rfl)) pa_nil)))) pa_nil)))))))), ?_⟩
    have n24 := Cu.len
    obtain ⟨npq, hk2, hq2⟩ := Cu.pq
    have lm : mt.length = ws.flatten.length := PP.1.1
    obtain ⟨ka, ga, _⟩ := mtn_at PP.1 hk2
    obtain ⟨qb, gb, _⟩ := mtn_at PP.1 hq2
    refine ⟨_, rfl, m, _, rfl, .inl (SqL.of hm), fun D hD => ?_⟩
    refine ⟨Nat.zero_le _, fun S0 hS0 => ?_⟩
    have s01 := same_upd (o := .lst (iv mt)) hD
    have s02 := s01.trans (same_upd (o := .lst []) hS0)
    have gD2 : L2.upd (L2.upd H D (.lst (iv mt))) S0 (.lst []) D = some (.lst (iv mt)) := by rw [upd_ne (ne_of_none (upd_same (a := D)) hS0)]; exact upd_same
    have gS2 : L2.upd (L2.upd H D (.lst (iv mt))) S0 (.lst []) S0 = some (.lst []) := upd_same
    have nDS : D ≠ S0 := ne_of_none (upd_same (a := D)) hS0
    have S0H : H S0 = none := s01.free hS0
    obtain ⟨H2, e2⟩ : ∃ H2, H2 = L2.upd (L2.upd H D (.lst (iv mt))) S0 (.lst []) := ⟨_, rfl⟩
    rw [← e2] at s02 gD2 gS2 ⊢
    clear e2
    refine ⟨_, rfl, p, us, ws, rfl, s02 _ _ hp, hu.same s02, by omega, fun ls H3 xs hls s3 g3 q3 => ?_⟩
    refine ⟨by show 3 ≤ sizeLine; decide, fun t0 ht0 => ?_⟩
    have st := same_upd (o := .tup [.ref D, .ref S0, .ref ls]) ht0
    have gt : L2.upd H3 t0 (.tup [.ref D, .ref S0, .ref ls]) t0 = some (.tup [.ref D, .ref S0, .ref ls]) := upd_same
    have nls : ls ≠ S0 := fun z => by rw [z, gS2] at hls; cases hls
    have nlD : ls ≠ D := fun z => by rw [z, gD2] at hls; cases hls
    have g4 := st _ _ g3
    have gD4 := st _ _ (s3 _ _ gD2)
    have gS4 := st _ _ (s3 _ _ gS2)
    have q4 := q3.imp fun _ _ r => PrI.same r st
    have s4 := (s02.trans s3).trans st
    obtain ⟨H4, e4⟩ : ∃ H4, H4 = L2.upd H3 t0 (.tup [.ref D, .ref S0, .ref ls]) := ⟨_, rfl⟩
    rw [← e4] at s4 gt g4 gD4 gS4 q4 ⊢
    clear e4 st q3 g3 hls s3 gS2 gD2 hS0 s01
    refine ⟨t0, _, rfl, SqT.of gt, rfl, _, _, rfl, _, _, rfl, _, _, rfl, rfl, ?_⟩
    try dsimp only
    refine seq_to (fun σ H5 => σ = [some (.ref p), some (.ref m), some (.int (k : Int)), some (.int (q : Int)), some (.ref D), some (.ref S0), some (.ref ls), none, none, none, none] ∧ Same H H5 ∧ H5 D = some (.lst (iv (setM mt k q))) ∧ H5 S0 = some (.lst []) ∧ H5 ls = some (.lst xs) ∧ All2 (PrI K H5) xs (spF 0 ws)) (fun D' hD' => ?_) ?_
    · have gm4 := s4 _ _ hm
      refine ⟨_, rfl, _, rfl, m, _, _, _, rfl, rfl, SqL.of gm4, atI_nat (iv_get ga), _, rfl, rfl, _, rfl, ?_⟩
      by_cases c : mtn mt k = q
      · refine iteF' (by
          rw [c]
          show (!decide (V.int (q : Int) = V.int (q : Int))) = false
          rw [decide_eq_true rfl]
          rfl) ?_
        exact hD' _ _ ⟨rfl, s4, by rw [setM_self PP hk2 hq2 c]; exact gD4, gS4, g4, q4⟩
      · refine iteT' (by
          have : ¬ V.int ((mtn mt k : Nat) : Int) = V.int (q : Int) := fun z => c (by injection z with z; omega)
          show (!decide (V.int ((mtn mt k : Nat) : Int) = V.int (q : Int))) = true
          rw [decide_eq_false this]
          rfl) ?_
        refine ⟨_, rfl, _, rfl, m, _, _, _, rfl, rfl, SqL.of gm4, atI_nat (iv_get gb), _, rfl, _, rfl, m, _, _, _, rfl, rfl, SqL.of gm4, atI_nat (iv_get ga), by show 2 ≤ sizeLine; decide, fun t ht => ?_⟩
        have st := same_upd (o := .tup [.int ((mtn mt q : Nat) : Int), .int ((mtn mt k : Nat) : Int)]) ht
        have gt : L2.upd H4 t (.tup [.int ((mtn mt q : Nat) : Int), .int ((mtn mt k : Nat) : Int)]) t = some (.tup [.int ((mtn mt q : Nat) : Int), .int ((mtn mt k : Nat) : Int)]) := upd_same
        have s5 := s4.trans st
        have gD5 := st _ _ gD4
        have gS5 := st _ _ gS4
        have g5 := st _ _ g4
        have q5 := q4.imp fun _ _ r => PrI.same r st
        have gm5 := s5 _ _ hm
        generalize L2.upd H4 t (.tup [.int ((mtn mt q : Nat) : Int), .int ((mtn mt k : Nat) : Int)]) = H5 at st gt s5 gD5 gS5 g5 q5 gm5 ⊢
        refine ⟨t, _, rfl, SqT.of gt, rfl, _, _, rfl, ?_⟩
        have nmD : m ≠ D := fun z => by rw [z, hD] at hm; cases hm
        refine ⟨_, rfl, _, rfl, _, rfl, m, _, _, _, rfl, rfl, SqL.of gm5, atI_nat (iv_get ga), D, _, _, mtn mt k, rfl, rfl, gD5, Evl.ixN_nat (by rw [List.length_map]; omega), ?_⟩
        refine ⟨_, _, rfl, _, rfl, _, rfl, _, rfl, m, _, _, _, rfl, rfl, SqL.of (by rw [upd_ne nmD]; exact gm5), atI_nat (iv_get gb), D, _, _, mtn mt q, rfl, rfl, upd_same, Evl.ixN_nat (by rw [List.length_set, List.length_map]; omega), rfl, ?_⟩
        refine hD' _ _ ⟨rfl, ?_, ?_, ?_, ?_, ?_⟩
        · intro b o e
          rw [upd_ne (ne_of_none e hD), upd_ne (ne_of_none e hD)]
          exact s5 _ _ e
        · rw [upd_same]
          unfold setM iv
          rw [List.map_set, List.map_set]
        · rw [upd_ne nDS.symm, upd_ne nDS.symm]
          exact gS5
        · rw [upd_ne nlD, upd_ne nlD]
          exact g5
        · exact q5.imp fun _ _ r => PrI.put upd_same (PrI.put gD5 r)
    · rintro σ H5 ⟨rfl, s5, gD5, gS5, g5, q5⟩
      clear gD4 gS4 g4 q4 s4 gt ht0 s02
      refine sq_lcS ?_
      try dsimp only
      refine ⟨_, rfl, m, _, rfl, .inl (SqL.of (s5 _ _ hm)), _, rfl, by rw [List.length_map]; omega, by rw [List.length_map]; omega, ?_⟩
      rw [List.length_map, Int.toNat_natCast, lm]
      have in2 : ∀ z : Nat, inV (.int (z : Int)) [.int (k : Int), .int (q : Int)] = (decide (z = k) || decide (z = q)) := fun z => by
        unfold inV
        simp only [List.any_cons, List.any_nil, Bool.or_false]
        have ek : ∀ x : Nat, eqV (.int (x : Int)) (.int (z : Int)) = decide (z = x) := fun x => by
          show decide ((x : Int) = (z : Int)) = decide (z = x)
          by_cases c : z = x
          · rw [decide_eq_true c, decide_eq_true (by omega)]
          · rw [decide_eq_false c, decide_eq_false (by omega)]
        rw [ek, ek]
      refine lcRM (fun i => !(decide (i = k) || decide (i = q))) (fun _ v i => v = V.int ((i : Nat) : Int)) (fun _ _ _ _ h _ => h) (fun _ _ _ _ _ _ _ h => h) (by omega) ?_ ?_
      · intro i hi H6 s6 Qy Qn ky kn
        refine ⟨rfl, _, rfl, _, rfl, _, rfl, by show 2 ≤ sizeLine; decide, fun t7 H7 s7 B7 => ⟨t7, _, rfl, .inr B7.sq, rfl, rfl, _, rfl, ?_⟩⟩
        show if (!inV (.int (i : Int)) [.int (k : Int), .int (q : Int)]) = true then _ else _
        rw [in2]
        cases hc : (decide (i = k) || decide (i = q)) with
        | true => exact iteF (kn (by rw [hc]; rfl) H7 s7)
        | false => exact iteT ⟨_, rfl, ky (by rw [hc]; rfl) _ H7 s7 rfl⟩
      intro E1 H6 vs hE s6 gE hv
      obtain rfl := all_int hv
      rw [Cu.kept] at gE
      try dsimp only
      refine at_set ?_
      try dsimp only
      have s06 := s5.trans s6
      have hSE : E1 ≠ S0 := fun z => by rw [z, gS5] at hE; cases hE
      have gD6 := s6 _ _ gD5
      have g6 := s6 _ _ g5
      have q6 := q5.imp fun _ _ r => PrI.same r s6
      have lq := q6.length
      rw [spF_len] at lq
      have lks : (iv (nats ((List.range ws'.flatten.length).map e))).length = ws'.flatten.length := by
        unfold iv nats
        simp only [List.length_map, List.length_range]
      have kin : ∀ x ∈ iv (nats ((List.range ws'.flatten.length).map e)), ∃ i, i < ws'.flatten.length ∧ x = V.int ((e i : Nat) : Int) ∧ e i < ws.flatten.length := fun x hx => by
        obtain ⟨z, hz, rfl⟩ := List.mem_map.mp hx
        obtain ⟨y, hy, rfl⟩ := List.mem_map.mp hz
        obtain ⟨i, hi, rfl⟩ := List.mem_map.mp hy
        exact ⟨i, List.mem_range.mp hi, rfl, (Cu.e_in (List.mem_range.mp hi)).1⟩
      refine ⟨_, rfl, p, us, rfl, SqL.of (s06 _ _ hp), ?_⟩
      refine for_it (walk_enum (K := K) (a := p) (xs := us)) (fun i σ H' => ∃ (v8 v9 : Option V) (vs2 : List V), σ = [some (.ref p), some (.ref m), some (.int (k : Int)), some (.int (q : Int)), some (.ref D), some (.ref S0), some (.ref ls), some (.ref E1), v8, v9, none] ∧ Kept S0 H6 H' ∧ H' S0 = some (.lst vs2) ∧ All2 (fun v w => ∃ b, v = V.ref b ∧ b ≠ S0 ∧ H' b = some (.lst (iv w))) vs2 (ws'.take i))
        ⟨none, none, [], rfl, Kept.refl, s6 _ _ gS5, .nil⟩ (fun i σ H' _ ⟨_, _, _, _, k0, _⟩ => SqL.of (k0 _ _ (fun z => by rw [z, S0H] at hp; cases hp) (s06 _ _ hp))) ?_ ?_
      · rintro i x σ H7 H8 hi ⟨v8, v9, vs2, rfl, k7, gS7, h7⟩ ⟨T0, xi, yi, rfl, hT0, rfl, hx, hy⟩
        obtain rfl := Option.some.inj hx
        have hy : us[i]? = some yi := hy
        obtain ⟨u, hu2, ⟨wq, rfl, hwq⟩⟩ := hu.at hy
        have hil : i < ws.length := (List.getElem?_eq_some_iff.mp hu2).1
        have nwS : wq ≠ S0 := fun z => by rw [z, S0H] at hwq; cases hwq
        have s8 := same_upd (o := .tup [.int (i : Int), .ref wq]) hT0
        have gT : L2.upd H7 T0 (.tup [.int (i : Int), .ref wq]) T0 = some (.tup [.int (i : Int), .ref wq]) := upd_same
        have k8 : Kept S0 H6 (L2.upd H7 T0 (.tup [.int (i : Int), .ref wq])) := k7.trans fun b o _ e => s8 b o e
        have gS8 := s8 _ _ gS7
        have h8 := h7.imp fun v w (r : ∃ b, v = V.ref b ∧ b ≠ S0 ∧ H7 b = some (.lst (iv w))) => (⟨r.choose, r.choose_spec.1, r.choose_spec.2.1, s8 _ _ r.choose_spec.2.2⟩ : ∃ b, v = V.ref b ∧ b ≠ S0 ∧ _ = some (.lst (iv w)))
        generalize L2.upd H7 T0 (.tup [.int (i : Int), .ref wq]) = H8 at s8 gT k8 gS8 h8 ⊢
        refine ⟨T0, _, rfl, SqT.of gT, rfl, _, _, rfl, _, _, rfl, rfl, ?_⟩
        refine app_lc ?_
        refine ⟨_, rfl, .inl ⟨rfl, _, SqL.of gS8⟩, ?_⟩
        have gE8 := k8 _ _ hSE gE
        have gw8 := k8 _ _ nwS (s06 _ _ hwq)
        have nlS : ls ≠ S0 := nls
        have gl8 := k8 _ _ nlS g6
        refine ⟨_, rfl, E1, rfl, ⟨_, SqL.of gE8⟩, ?_⟩
        refine lcp (walk_list (K := K) (a := E1) (xs := iv (nats ((List.range ws'.flatten.length).map e)))) (fun x => match x with | .int z => decide (home ws z.toNat = i) | _ => false) (fun x => match x with | .int z => .int (ws.flatten.getD z.toNat 0) | y => y) (by rw [lks]; omega) (fun H2 s => SqL.of (s _ _ gE8)) ?_ ?_
        · intro x hx H9 s9 Qy Qn ky kn
          obtain ⟨j, hj, rfl, hej⟩ := kin x hx
          obtain ⟨t, w, p1, p2, p3, p4⟩ := spot_at hej
          have hlt : e j < xs.length := by rw [lq]; exact hej
          obtain ⟨b, hb, T, eT, sT⟩ := q6.at (List.getElem?_eq_getElem hlt)
          obtain rfl : b = (home ws (e j), t) := Option.some.inj (hb.symm.trans p1)
          have gx : xs[e j]? = some (V.ref T) := by rw [List.getElem?_eq_getElem hlt, eT]
          have sT9 : SqT K H9 T [.int (home ws (e j) : Int), .int (t : Int)] := WR.Same.seqT s9 (SqT.keptL (s6 _ _ gS5) k8 sT)
          refine ⟨rfl, ?_⟩
          refine ⟨_, rfl, _, rfl, ls, _, _, _, rfl, rfl, SqL.of (s9 _ _ gl8), atI_nat gx, T, _, _, _, rfl, rfl, sT9, rfl, _, rfl, rfl, _, rfl, ?_⟩
          by_cases c : home ws (e j) = i
          · have kk := ky (decide_eq_true c) H9 (Same.refl _)
            obtain rfl : w = u := by
              rw [c] at p2
              exact Option.some.inj (p2.symm.trans hu2)
            refine iteT' (decide_eq_true (by rw [c])) ?_
            exact ⟨_, rfl, _, rfl, _, rfl, ls, _, _, _, rfl, rfl, SqL.of (s9 _ _ gl8), atI_nat gx, T, _, _, _, rfl, rfl, sT9, rfl, wq, _, _, _, rfl, rfl, SqL.of (s9 _ _ gw8), atI_nat (iv_get p4), kk⟩
          · refine iteF' (decide_eq_false (fun z => c (by injection z with z; omega))) ?_
            exact kn (decide_eq_false c) H9 (Same.refl _)
        · intro F1 H9 hF1 s9 h9
          have gF : H9 F1 = some (.lst (iv (ws'.getD i []))) := by
            rw [h9, ← Cu.word i]
            unfold iv nats
            rw [List.filter_map, List.filter_map, List.map_map, List.map_map, List.map_map]
            rfl
          have gS9 := s9 _ _ gS8
          have l8 := h8.length
          rw [List.length_take] at l8
          have cw := Cu.cnt
          have nFS : F1 ≠ S0 := fun z => by rw [z, gS8] at hF1; cases hF1
          refine ⟨S0, vs2, _, rfl, rfl, gS9, Evl.sz_lt (by omega), ?_⟩
          refine ⟨_, _, vs2 ++ [.ref F1], rfl, (k8.trans fun b o _ e => s9 b o e).trans Kept.upd, upd_same, ?_⟩
          have hi2 : i < ws'.length := by omega
          rw [List.take_succ_eq_append_getElem hi2]
          refine All2.app (h8.imp fun v w r => ?_) (.cons ⟨F1, rfl, nFS, by rw [upd_ne nFS, gF, List.getD_eq_getElem?_getD, List.getElem?_eq_getElem hi2]; rfl⟩ .nil)
          obtain ⟨b, e1, e2, e3⟩ := r
          exact ⟨b, e1, e2, by rw [upd_ne e2]; exact s9 _ _ e3⟩
      · rintro σ H7 ⟨v8, v9, vs2, rfl, k7, gS7, h7⟩
        refine ret_tup_lc ?_
        have gE7 := k7 _ _ hSE gE
        have gD7 := k7 _ _ nDS gD6
        refine ⟨_, rfl, _, rfl, E1, rfl, ⟨_, SqL.of gE7⟩, ?_⟩
        refine lcp (walk_list (K := K) (a := E1) (xs := iv (nats ((List.range ws'.flatten.length).map e)))) (fun _ => true) (fun x => match x with | .int z => .int ((((List.range ws'.flatten.length).map e).idxOf (mtn (setM mt k q) z.toNat) : Nat) : Int) | y => y) (by rw [lks]; omega) (fun H2 s => SqL.of (s _ _ gE7)) ?_ ?_
        · intro x hx H8 s8 Qy Qn ky kn
          obtain ⟨j, hj, rfl, hej⟩ := kin x hx
          have kk : Qy (.int ((((List.range ws'.flatten.length).map e).idxOf (mtn (setM mt k q) (e j)) : Nat) : Int)) H8 := ky rfl H8 (Same.refl _)
          obtain ⟨sa, sb⟩ := setM_at PP hk2 hq2 hej
          obtain ⟨c1, c2, c3⟩ := Cu.e_in hj
          obtain ⟨m1, m2, m4, _⟩ := m3_ok PP hk2 hq2 npq c1 c2 c3
          obtain ⟨r, hr, er⟩ := Cu.of_in m1 m2 m4
          refine ⟨rfl, yes_te ?_⟩
          rw [sb, ← er, idx_map Cu.asc hr] at kk
          have at_ : ∀ i, i < ws'.flatten.length → (iv (nats ((List.range ws'.flatten.length).map e)))[i]? = some (.int ((e i : Nat) : Int)) := fun i hi => by
            unfold iv nats
            rw [List.getElem?_map, List.getElem?_map, List.getElem?_map, List.getElem?_range hi]
            rfl
          refine ⟨_, rfl, .inl ⟨rfl, _, SqL.of (s8 _ _ gE7)⟩, _, rfl, _, rfl, D, _, _, _, rfl, rfl, SqL.of (s8 _ _ gD7), atI_nat (iv_get sa), E1, _, _, r, _, rfl, rfl, SqL.of (s8 _ _ gE7), rfl, ?_, at_ r hr, ?_, ?_, kk⟩
          · unfold iv
            rw [List.all_map]
            exact List.all_eq_true.mpr fun _ _ => rfl
          · rw [er]
            show decide (((m3 mt k q (e j) : Nat) : Int) = ((m3 mt k q (e j) : Nat) : Int)) = true
            exact decide_eq_true rfl
          · intro i z hi hz
            rw [at_ i (by omega)] at hz
            obtain rfl := Option.some.inj hz
            have := Cu.asc i r hi hr
            show decide (((e i : Nat) : Int) = ((m3 mt k q (e j) : Nat) : Int)) = false
            exact decide_eq_false (by omega)
        · intro l2 H8 hl2 s8 h8
          refine ⟨by show 2 ≤ sizeLine; decide, fun t H9 s9 B9 => ?_⟩
          have cw := Cu.cnt
          have lu := hu.length
          rw [lu, ← cw, List.take_length] at h7
          have hN : ∀ b o, H b = some o → H7 b = some o := fun b o z => k7 _ _ (fun y => by rw [y, S0H] at z; cases z) (s06 _ _ z)
          have s79 := s8.trans s9
          refine kq t S0 l2 vs2 H9 (fun b o z => s79 _ _ (hN _ _ z)) B9.sq (s79 _ _ gS7) (h7.imp fun v w r => ?_) ?_
          · obtain ⟨b, e1, _, e3⟩ := r
            exact ⟨b, e1, s79 _ _ e3⟩
          · rw [s9 _ _ h8, List.filter_eq_self.mpr (fun _ _ => rfl)]
            unfold takM keptF iv nats
            simp only [List.map_map]
            rfl
end
end W17
set_option Elab.async false
set_option linter.all false
set_option maxRecDepth 100000
set_option maxHeartbeats 1000000
namespace W17
open PySem L2 PySem.Spec PyProof.Rows WR WB WE WS
/-! ### the law's own: neighbours with contrary letters -/
theorem lcFM {β : Type} {J : It} {xs : List V} {G : Hp → Prop} (w : Walk J xs.length G (YAt xs)) (ys : List β) (f : β → Bool) (R : Hp → V → β → Prop) (hst : ∀ H H' v b, R H v b → Same H H' → R H' v b) (hput : ∀ D H ws o v b, H D = some (.lst ws) → R H v b → R (L2.upd H D o) v b)
    (hz : xs.length < 40000) (hl : xs.length = ys.length) {g : TG} {tt : TT} {te : TE} {vs : List Nat} {σ : L2.St} {H1 : Hp} {Q : VK} (hG : ∀ H, Same H1 H → G H)
    (hs : ∀ (i : Nat) (x : V) (b : β), xs[i]? = some x → ys[i]? = some b → ∀ H, Same H1 H → ∀ (Qy : V → Hp → Prop) (Qn : Hp → Prop), (f b = true → ∀ v H', Same H H' → R H' v b → Qy v H') → (f b = false → ∀ H', Same H H' → Qn H') →
      g x (wipe σ vs) H fun σ2 H2 => wipe σ2 vs = wipe σ vs ∧ tt σ2 H2 fun c H3 => if c = true then te σ2 H3 Qy else Qn H3)
    (hd : ∀ (D : Addr) H' ws, H1 D = none → Same H1 H' → H' D = some (.lst ws) → All2 (R H') ws (ys.filter f) → Q (.ref D) H') : tLc (fun _ H R => R J H) g tt te vs σ H1 Q := by
  intro D hD
  refine lc_it w (fun i H => Same H1 H ∧ ∃ ws, H D = some (.lst ws) ∧ All2 (R H) ws ((ys.take i).filter f)) ⟨fun b o e => by rw [upd_ne (ne_of_none e hD)]; exact e, [], upd_same, by simp only [List.take_zero]; exact .nil⟩ (fun i H _ q => hG H q.1) ?_ ?_
  · rintro i x H H' hi ⟨sm, ws, hw, h2⟩ ⟨rfl, hx⟩
    have hi2 : i < ys.length := by omega
    refine hs i x ys[i] hx (List.getElem?_eq_getElem hi2) H' sm _ _ (fun hf v H2 s2 r => ⟨_, s2 _ _ hw, ?_, ?_, ?_⟩) (fun hf H2 s2 => ⟨fun b o e => s2 b o (sm b o e), ws, s2 _ _ hw, ?_⟩)
    · refine Evl.sz_lt ?_
      rw [h2.length]
      have := List.length_filter_le f (ys.take i)
      rw [List.length_take] at this
      omega
    · intro b o e
      rw [upd_ne (ne_of_none e hD)]
      exact s2 b o (sm b o e)
    · refine ⟨_, upd_same, ?_⟩
      rw [List.take_succ_eq_append_getElem hi2, List.filter_append, List.filter_cons, if_pos hf]
      exact All2.app (h2.imp fun _ _ r => hput _ _ _ _ _ _ (s2 _ _ hw) (hst _ _ _ _ r s2)) (.cons (hput _ _ _ _ _ _ (s2 _ _ hw) r) .nil)
    · rw [List.take_succ_eq_append_getElem hi2, List.filter_append, List.filter_cons, if_neg (by rw [hf]; decide)]
      show All2 (R H2) ws ((ys.take i).filter f ++ [])
      rw [List.append_nil]
      exact h2.imp fun _ _ r => hst _ _ _ _ r s2
  · rintro H ⟨sm, ws, hw, h2⟩
    rw [List.take_of_length_le (by omega)] at h2
    exact hd D H ws hD sm hw h2
def longB (ws : List (List Int)) (i : Nat) : Bool := decide (2 < (ws.getD (home ws i) []).length)
def contB (ws : List (List Int)) (i : Nat) : Bool := decide (ws.flatten.getD (nxN ws i) 0 = -ws.flatten.getD i 0)
def nearF (ws : List (List Int)) : List (Nat × Nat) := (((List.range ws.flatten.length).filter (longB ws)).filter (contB ws)).map fun i => (i, nxN ws i)
/-- what can be taken out -/
theorem near_cut {ws : List (List Int)} (hne : ∀ w ∈ ws, w ≠ []) {x : Nat × Nat} (hx : x ∈ nearF ws) : x.1 < ws.flatten.length ∧ x.2 = nxN ws x.1 ∧ ws.flatten.getD x.1 0 = -ws.flatten.getD x.2 0 ∧ (ws.getD (home ws x.1) []).length ≠ 2 ∧ ∃ (ws' : List (List Int)) (e : Nat → Nat), Cut2 ws ws' e x.1 x.2 := by
  obtain ⟨i, hi, rfl⟩ := List.mem_map.mp hx
  obtain ⟨hi, hc⟩ := List.mem_filter.mp hi
  obtain ⟨hi, hl⟩ := List.mem_filter.mp hi
  have hi := List.mem_range.mp hi
  have hc : ws.flatten.getD (nxN ws i) 0 = -ws.flatten.getD i 0 := of_decide_eq_true hc
  have hl : 2 < (ws.getD (home ws i) []).length := of_decide_eq_true hl
  refine ⟨hi, rfl, by show ws.flatten.getD i 0 = -ws.flatten.getD (nxN ws i) 0; omega, by show (ws.getD (home ws i) []).length ≠ 2; omega, ?_⟩
  obtain ⟨A, w, B, t, rfl, ht, rfl⟩ := spl_at hi
  obtain ⟨e1, e2, e3⟩ := spl_facts (A := A) (B := B) ht
  have ew : (A ++ [w] ++ B).getD (home (A ++ [w] ++ B) (A.flatten.length + t)) [] = w := by
    rw [e1, List.getD_eq_getElem?_getD, e2]
    rfl
  rw [ew] at hl
  have hA : ∀ z ∈ A, z ≠ [] := fun z hz => hne z (List.mem_append_left _ (List.mem_append_left _ hz))
  have hB : ∀ z ∈ B, z ≠ [] := fun z hz => hne z (List.mem_append_right _ hz)
  show ∃ ws' e, Cut2 (A ++ [w] ++ B) ws' e (A.flatten.length + t) (nxN (A ++ [w] ++ B) (A.flatten.length + t))
  by_cases c : t + 1 < w.length
  · -- inside a word
    have ew2 : w = w.take t ++ [w[t], w[t + 1]] ++ w.drop (t + 2) := by
      conv => lhs; rw [← List.take_append_drop t w, List.drop_eq_getElem_cons ht, List.drop_eq_getElem_cons c]
      simp
    have lt : (w.take t).length = t := by rw [List.length_take]; omega
    have hn : w.take t ++ w.drop (t + 2) ≠ [] := fun z => by
      have := congrArg List.length z
      rw [List.length_append, lt, List.length_drop] at this
      simp at this
      omega
    have K := cut_in (u := w.take t) (v := w.drop (t + 2)) (x := w[t]) (y := w[t + 1]) hA hB hn
    rw [← ew2, lt] at K
    have q := K.bij.2.2.2
    rw [q]
    exact ⟨_, _, K⟩
  · -- at its end
    have et : t + 1 = w.length := by omega
    have ew2 : w = [w[0]'(by omega)] ++ (w.drop 1).take (t - 1) ++ [w[t]] := by
      have h1 : w = w[0]'(by omega) :: w.drop 1 := by
        conv => lhs; rw [← List.drop_zero (l := w), List.drop_eq_getElem_cons (by omega : 0 < w.length)]
      have h2 : w.drop 1 = (w.drop 1).take (t - 1) ++ [w[t]] := by
        conv => lhs; rw [← List.take_append_drop (t - 1) (w.drop 1)]
        rw [List.drop_drop, show 1 + (t - 1) = t by omega, List.drop_eq_getElem_cons ht, List.drop_of_length_le (by omega : w.length ≤ t + 1)]
      conv => lhs; rw [h1, h2]
      rfl
    have lu : ((w.drop 1).take (t - 1)).length = t - 1 := by rw [List.length_take, List.length_drop]; omega
    have hn : (w.drop 1).take (t - 1) ≠ [] := fun z => by
      have := congrArg List.length z
      rw [lu] at this
      simp at this
      omega
    have K := cut_wr (u := (w.drop 1).take (t - 1)) (x := w[t]) (y := w[0]'(by omega)) hA hB hn
    rw [← ew2, lu, show A.flatten.length + (t - 1) + 1 = A.flatten.length + t by omega] at K
    have q := K.bij.2.2.2
    rw [q]
    exact ⟨_, _, K⟩
def spNear (K : PySem.W.Frag) : Sp := fun vs H Q _ => ∃ (p : Addr) (us : List V) (ws : List (List Int)), vs = [.ref p] ∧ H p = some (.lst us) ∧ LLs H us ws ∧ (∀ w ∈ ws, w ≠ []) ∧ ws.flatten.length ≤ 60 ∧ ∀ l H' xs, H l = none → Same H H' → H' l = some (.lst xs) → All2 (PrI K H') xs (nearF ws) → Q (.ref l) H'
abbrev sNear : Stmt := top 81
abbrev nNear : List Str := ["_law_words", "_law_letters_here", "_law_nexts_here", "_law_spots_here", "_law_some", "_law_place"]
theorem scNear : FnScope nNear ["_law_words"] (defScope sNear) := ⟨rfl, rfl, rfl, by decide +kernel, rfl, by decide +kernel, by decide +kernel⟩
section
variable {P : Program} {w : World} {K : PySem.W.Frag} {mg : Str → Option Value} {base : Heap} {C CR CS : Addr}
theorem ok_Near {f : Addr} {fd : FuncData} (F : Fun K "_law_near" "_law_near" sNear f fd) (N : TN mg)  (G_letters : Cal P w K mg base "_law_letters" 1 ["_law_words"] (spLets)) (G_nexts : Cal P w K mg base "_law_nexts" 1 ["_law_words"] (spNx)) (G_spots : Cal P w K mg base "_law_spots" 1 ["_law_words"] (spSpots K)) : FnOk P w K mg base CX0 2 f fd ["_law_words"] (spNear K) := by
  refine F.ok scNear (fun vs H Q E h => ?_) (fun cdv A outer s H vs Q E hr h => ?_)
  · obtain ⟨p, us, ws, rfl, _⟩ := h
    rfl
  · obtain ⟨p, us, ws, rfl, hp, hu, hne, l60, k⟩ := h
    refine ⟨_, pss_cons (ps_asg (pe_tup (pa_cons (pe_cal G_letters hr (by decide) (by rfl) (pa_cons (pv 0) pa_nil)) (pa_cons (pe_cal G_nexts hr (by decide) (by rfl) (pa_cons (pv 0) pa_nil)) (pa_cons (pe_cal G_spots hr (by decide) (by rfl) (pa_cons (pv 0) pa_nil)) pa_nil)))) (pg_tup (n := 3) rfl (pgs_cons (pg_name (i := 1) scNear.nd rfl (Or.inr rfl)) (pgs_cons (pg_name (i := 2) scNear.nd rfl (Or.inr rfl)) (pgs_cons (pg_name (i := 3) scNear.nd rfl (Or.inr rfl)) pgs_nil)))))
      (pss_cons (ps_setLc (i := 4) (own := [("_law_place", 5)]) (g := gName 5) rfl scNear.nd rfl rfl (sw_true rfl rfl rfl (by decide +kernel)) (pi_range1 (by rfl) N.range (pa_cons (pe_callB call_len_seq (by rfl) N.len PySem.boot_len (pa_cons (pv 1) pa_nil)) pa_nil)) (blkOk_by (N := nNear) (sc := defScope sNear) (by decide +kernel)) (fun _ _ _ _ _ => (pg_name (i := 5) scNear.nd rfl (Or.inl rfl))) (fun _ _ _ _ _ => (pts_one (pt_cmpR op_gt (pe_callB (call_lenK (K := K) rfl) (by rfl) N.len PySem.boot_len (pa_cons (pe_ix (ixl (K := K) rfl) (pv 0) (pe_ix (ixt (K := K) rfl) (pe_ix (ixl (K := K) rfl) (pv 3) (pv 5) (fun _ _ => rfl)) pe_int (fun _ _ => rfl)) (fun _ _ => rfl)) pa_nil)) pe_int (nomark _)))) (fun _ _ _ _ _ => (pv 5)))
      (pss_one (ps_ret (pe_lc (own := [("_law_place", 5)]) (g := gName 5) rfl scNear.nd (pi_list (pv 4)) (blkOk_by (N := nNear) (sc := defScope sNear) (by decide +kernel)) (fun _ _ _ _ _ => (pg_name (i := 5) scNear.nd rfl (Or.inl rfl))) (fun _ _ _ _ _ => (pts_one (pt_cmpR op_eq (pe_ix (ixl (K := K) rfl) (pv 1) (pe_ix (ixl (K := K) rfl) (pv 2) (pv 5) (fun _ _ => rfl)) (fun _ _ => rfl)) (pe_un un_neg (pe_ix (ixl (K := K) rfl) (pv 1) (pv 5) (fun _ _ => rfl))) (nomark _)))) (fun _ _ _ _ _ => (pe_tupBK (K := K) rfl (pa_cons (pv 5) (pa_cons (pe_ix (ixl (K := K) rfl) (pv 2) (pv 5) (fun _ _ => rfl)) pa_nil)))))))), ?_⟩
    refine ⟨_, rfl, p, us, ws, rfl, hp, hu, by omega, fun lq H1 hlq s1 g1 => ?_⟩
    refine ⟨_, rfl, p, us, ws, rfl, s1 _ _ hp, hu.same s1, hne, by omega, fun nq H2 hnq s2 g2 => ?_⟩
    have s02 := s1.trans s2
    refine ⟨_, rfl, p, us, ws, rfl, s02 _ _ hp, hu.same s02, by omega, fun sq H3 xs hsq s3 g3 q3 => ?_⟩
    refine ⟨by show 3 ≤ sizeLine; decide, fun t ht => ?_⟩
    have st := same_upd (o := .tup [.ref lq, .ref nq, .ref sq]) ht
    have gt : L2.upd H3 t (.tup [.ref lq, .ref nq, .ref sq]) t = some (.tup [.ref lq, .ref nq, .ref sq]) := upd_same
    have g31 := st _ _ (s3 _ _ (s2 _ _ g1))
    have g32 := st _ _ (s3 _ _ g2)
    have g33 := st _ _ g3
    have q4 := q3.imp fun _ _ r => PrI.same r st
    have s4 := (s02.trans s3).trans st
    obtain ⟨H4, e4⟩ : ∃ H4, H4 = L2.upd H3 t (.tup [.ref lq, .ref nq, .ref sq]) := ⟨_, rfl⟩
    rw [← e4] at s4 gt g31 g32 g33 q4 ⊢
    clear e4 st q3 g3 g2 g1 s3 s2 s1 s02
    refine ⟨t, _, rfl, SqT.of gt, rfl, _, _, rfl, _, _, rfl, _, _, rfl, rfl, ?_⟩
    try dsimp only
    have lq4 := q4.length
    rw [spF_len] at lq4
    refine sq_lcS ?_
    try dsimp only
    refine ⟨_, rfl, lq, _, rfl, .inl (SqL.of g31), _, rfl, by rw [List.length_map]; omega, by rw [List.length_map]; omega, ?_⟩
    rw [List.length_map, Int.toNat_natCast]
    refine lcRM (longB ws) (fun _ v i => v = V.int ((i : Nat) : Int)) (fun _ _ _ _ h _ => h) (fun _ _ _ _ _ _ _ h => h) (by omega) ?_ ?_
    · intro i hi H5 s5 Qy Qn ky kn
      obtain ⟨t', w, p1, p2, p3, p4⟩ := spot_at hi
      have hlt : i < xs.length := by omega
      obtain ⟨b, hb, T, eT, sT⟩ := q4.at (List.getElem?_eq_getElem hlt)
      obtain rfl : b = (home ws i, t') := Option.some.inj (hb.symm.trans p1)
      have gx : xs[i]? = some (V.ref T) := by rw [List.getElem?_eq_getElem hlt, eT]
      have hlw : home ws i < us.length := by rw [hu.length]; exact (List.getElem?_eq_some_iff.mp p2).1
      obtain ⟨w', hw', ⟨wq, ewq, hwq⟩⟩ := hu.at (List.getElem?_eq_getElem hlw)
      obtain rfl : w' = w := Option.some.inj (hw'.symm.trans p2)
      have gu : us[home ws i]? = some (V.ref wq) := by rw [List.getElem?_eq_getElem hlw, ewq]
      have s45 := s4.trans s5
      have lw : longB ws i = decide (2 < w'.length) := by
        unfold longB
        rw [List.getD_eq_getElem?_getD, p2]
        rfl
      refine ⟨rfl, ?_⟩
      refine ⟨_, rfl, _, rfl, _, rfl, sq, _, _, _, rfl, rfl, SqL.of (s5 _ _ g33), atI_nat gx, T, _, _, _, rfl, rfl, WR.Same.seqT s5 sT, rfl, p, _, _, _, rfl, rfl, SqL.of (s45 _ _ hp), atI_nat gu, wq, _, rfl, .inl (SqL.of (s45 _ _ hwq)), _, _, rfl, rfl, _, rfl, ?_⟩
      have el : decide ((2 : Int) < ((iv w').length : Int)) = longB ws i := by
        rw [lw, List.length_map]
        by_cases c : 2 < w'.length
        · rw [decide_eq_true c, decide_eq_true (by omega)]
        · rw [decide_eq_false c, decide_eq_false (by omega)]
      show if decide ((2 : Int) < ((iv w').length : Int)) = true then _ else _
      rw [el]
      cases hc : longB ws i with
      | true => exact iteT ⟨_, rfl, ky hc _ H5 (Same.refl _) rfl⟩
      | false => exact iteF (kn hc H5 (Same.refl _))
    intro E1 H5 vs hE s5 gE hv
    obtain rfl := all_int hv
    have s45 := s4.trans s5
    have q5 := q4.imp fun _ _ r => PrI.same r s5
    try dsimp only
    refine at_set ?_
    try dsimp only
    refine ret_lc ?_
    refine ⟨_, rfl, E1, rfl, ⟨_, SqL.of gE⟩, ?_⟩
    have lks : (iv (nats ((List.range ws.flatten.length).filter (longB ws)))).length = ((List.range ws.flatten.length).filter (longB ws)).length := by
      unfold iv nats
      simp only [List.length_map]
    have lf := List.length_filter_le (longB ws) (List.range ws.flatten.length)
    rw [List.length_range] at lf
    refine lcFM (walk_list (K := K) (a := E1) (xs := iv (nats ((List.range ws.flatten.length).filter (longB ws))))) ((List.range ws.flatten.length).filter (longB ws)) (contB ws) (fun H v i => PrI K H v (i, nxN ws i)) (fun _ _ _ _ r s => r.same s) (fun _ _ _ _ _ _ h r => r.put h) (by omega) lks (fun H s => SqL.of (s _ _ gE)) ?_ ?_
    · intro j x i hx hi H6 s6 Qy Qn ky kn
      have hiN : i < ws.flatten.length := List.mem_range.mp (List.mem_filter.mp (List.mem_of_getElem? hi)).1
      obtain rfl : x = V.int ((i : Nat) : Int) := by
        unfold iv nats at hx
        rw [List.getElem?_map, List.getElem?_map, hi] at hx
        exact (Option.some.inj hx).symm
      have hq := nxN_lt hne hiN
      have gnx := iv_get (nx_at hne hiN)
      have s56 := s5.trans s6
      refine ⟨rfl, ?_⟩
      refine ⟨_, rfl, _, rfl, _, rfl, nq, _, _, _, rfl, rfl, SqL.of (s56 _ _ g32), atI_nat gnx, lq, _, _, _, rfl, rfl, SqL.of (s56 _ _ g31), atI_nat (let_at hq), _, rfl, _, rfl, lq, _, _, _, rfl, rfl, SqL.of (s56 _ _ g31), atI_nat (let_at hiN), _, rfl, rfl, _, rfl, ?_⟩
      have el : decide (V.int (ws.flatten.getD (nxN ws i) 0) = V.int (-ws.flatten.getD i 0)) = contB ws i := by
        unfold contB
        by_cases c : ws.flatten.getD (nxN ws i) 0 = -ws.flatten.getD i 0
        · rw [decide_eq_true c, decide_eq_true (by rw [c])]
        · rw [decide_eq_false c, decide_eq_false (fun z => c (by injection z))]
      show if decide (V.int (ws.flatten.getD (nxN ws i) 0) = V.int (-ws.flatten.getD i 0)) = true then _ else _
      rw [el]
      cases hc : contB ws i with
      | true =>
        refine iteT ?_
        exact ⟨_, rfl, _, rfl, _, rfl, nq, _, _, _, rfl, rfl, SqL.of (s56 _ _ g32), atI_nat gnx, by show 2 ≤ sizeLine; decide, fun t H7 s7 B7 => ky hc _ H7 s7 ⟨t, rfl, B7.sq⟩⟩
      | false => exact iteF (kn hc H6 (Same.refl _))
    · intro l H6 vs hl s6 gl hv
      refine k l H6 vs ((s45.free hl)) (s45.trans s6) gl ?_
      have : ∀ {vs : List V} {qs : List Nat}, All2 (fun v t => PrI K H6 v (t, nxN ws t)) vs qs → All2 (PrI K H6) vs (qs.map fun i => (i, nxN ws i)) := by
        intro vs qs h
        induction h with
        | nil => exact .nil
        | cons h1 _ ih => exact .cons h1 ih
      exact this hv
end
end W17
set_option Elab.async false
set_option linter.all false
set_option maxRecDepth 100000
set_option maxHeartbeats 1000000
namespace W17
open PySem L2 PySem.Spec PyProof.Rows WR WB WE WS
/-! ### the law's own: put in, and taken out again -/
theorem mt_ext {mt nt : List Int} (hl : mt.length = nt.length) (p1 : ∀ z ∈ mt, 0 ≤ z) (p2 : ∀ z ∈ nt, 0 ≤ z) (h : ∀ i, i < mt.length → mtn mt i = mtn nt i) : mt = nt := by
  refine List.ext_getElem hl fun i h1 h2 => ?_
  have := h i h1
  have a1 := p1 _ (List.getElem_mem h1)
  have a2 := p2 _ (List.getElem_mem h2)
  unfold mtn at this
  rw [getD_lt h1, getD_lt h2] at this
  omega
theorem MatesOk.pos {n : Nat} {mt : List Int} (h : MatesOk n mt) : ∀ z ∈ mt, 0 ≤ z := fun z hz => (h.2 z hz).1
section
variable {A B : List (List Int)} {u v : List Int} {k : Int} {mt : List Int}
theorem cut_put (hne : ∀ w ∈ A ++ [u ++ v] ++ B, w ≠ []) : Cut2 (A ++ [u ++ [k, -k] ++ v] ++ B) (A ++ [u ++ v] ++ B) (eIn (A ++ [u ++ v] ++ B).flatten.length (A.flatten.length + u.length)) (A.flatten.length + u.length) (A.flatten.length + u.length + 1) :=
  cut_in (fun w hw => hne w (List.mem_append_left _ (List.mem_append_left _ hw))) (fun w hw => hne w (List.mem_append_right _ hw)) (hne _ (List.mem_append_left _ (List.mem_append_right _ (List.mem_singleton.mpr rfl))))
theorem ne_put (hne : ∀ w ∈ A ++ [u ++ v] ++ B, w ≠ []) : ∀ w ∈ A ++ [u ++ [k, -k] ++ v] ++ B, w ≠ [] := fun w hw => by
  rcases List.mem_append.mp hw with hw | hw
  · rcases List.mem_append.mp hw with hw | hw
    · exact hne w (List.mem_append_left _ (List.mem_append_left _ hw))
    · rw [List.mem_singleton.mp hw]
      simp
  · exact hne w (List.mem_append_right _ hw)
theorem let_put : (A ++ [u ++ [k, -k] ++ v] ++ B).flatten.getD (A.flatten.length + u.length) 0 = k ∧ (A ++ [u ++ [k, -k] ++ v] ++ B).flatten.getD (A.flatten.length + u.length + 1) 0 = -k := by
  have e1 : (A ++ [u ++ [k, -k] ++ v] ++ B).flatten = (A.flatten ++ u) ++ ([k, -k] ++ (v ++ B.flatten)) := by simp [List.append_assoc]
  rw [e1, gd_r (X := A.flatten ++ u) 0 (by rw [List.length_append]; rfl), gd_r (X := A.flatten ++ u) 1 (by rw [List.length_append])]
  exact ⟨rfl, rfl⟩
/-- taken out again the mates are what they were -/
theorem takM_put (k : Int) (hne : ∀ w ∈ A ++ [u ++ v] ++ B, w ≠ []) (h : MatOk (A ++ [u ++ v] ++ B).flatten mt) : takM (insM mt (A.flatten.length + u.length)) (A.flatten.length + u.length) (A.flatten.length + u.length + 1) ((List.range (A ++ [u ++ v] ++ B).flatten.length).map (eIn (A ++ [u ++ v] ++ B).flatten.length (A.flatten.length + u.length))) = mt := by
  have Cu := cut_put (k := k) hne
  have h2 := mat_in (k := k) h
  have hpn : A.flatten.length + u.length ≤ (A ++ [u ++ v] ++ B).flatten.length := by rw [len_in]; omega
  obtain ⟨i1, i2, i3⟩ := insM_at h.1.1 hpn
  have T := take_mat Cu h2 (by rw [let_put.1, let_put.2]; omega)
  obtain ⟨ll, at_⟩ := takM_at Cu h2.1
  have bj := Cu.bij.1
  refine mt_ext (by rw [ll, h.1.1.1]) T.1.1.pos h.1.1.pos fun i hi => ?_
  rw [ll] at hi
  obtain ⟨a1, _, a3⟩ := at_ i hi
  obtain ⟨b1, b2, b3⟩ := Cu.e_in hi
  have m1 := (mtn_at h.1.1 hi).1
  have e3 : m3 (insM mt (A.flatten.length + u.length)) (A.flatten.length + u.length) (A.flatten.length + u.length + 1) (eIn (A ++ [u ++ v] ++ B).flatten.length (A.flatten.length + u.length) i) = eIn (A ++ [u ++ v] ++ B).flatten.length (A.flatten.length + u.length) (mtn mt i) := by
    unfold m3
    rw [i1, i2, if_neg b2, if_neg b3, i3 i hi]
  rw [e3] at a3
  exact bj.inj _ _ (by omega) (by omega) a3
theorem cost_put (ok : RimOk (A ++ [u ++ v] ++ B)) (h : MatOk (A ++ [u ++ v] ++ B).flatten mt) : costF (A ++ [u ++ [k, -k] ++ v] ++ B) (insM mt (A.flatten.length + u.length)) = costF (A ++ [u ++ v] ++ B) mt := by
  have hpn : A.flatten.length + u.length ≤ (A ++ [u ++ v] ++ B).flatten.length := by rw [len_in]; omega
  have Cu := cut_put (k := k) ok.2.2.1
  obtain ⟨i1, i2, i3⟩ := insM_at h.1.1 hpn
  obtain ⟨t, I⟩ := Cu.ins
  exact ins_cost ok.2.2.1 (ne_put ok.2.2.1) Cu.len I h.1 (mat_in (k := k) h).1 i1 i2 i3
theorem hand_put (ok : RimOk (A ++ [u ++ v] ++ B)) (h : MatOk (A ++ [u ++ v] ++ B).flatten mt) : handF (A ++ [u ++ [k, -k] ++ v] ++ B) (insM mt (A.flatten.length + u.length)) = handF (A ++ [u ++ v] ++ B) mt := by
  have hpn : A.flatten.length + u.length ≤ (A ++ [u ++ v] ++ B).flatten.length := by rw [len_in]; omega
  obtain ⟨i1, i2, i3⟩ := insM_at h.1.1 hpn
  unfold handF
  rw [cost_put ok h, pc_in h.1.1 (mat_in (k := k) h).1.1 i1 i2 i3]
  simp only [List.length_append, List.length_cons, List.length_nil]
end
theorem SewAt.kept {K : PySem.W.Frag} {C CR CS : Addr} {H H' : Hp} {D p rp : Addr} {xs : List Addr} {ws : List (List Int)} {mt : List Int} {us : List V} (h : SewAt K C CR CS H p rp xs ws mt) (hD : H D = some (.lst us)) (d : Kept D H H') : SewAt K C CR CS H' p rp xs ws mt := by
  have kB : ∀ {a ys}, SqB K H a ys → SqB K H' a ys := fun h => SqB.keptL hD d h
  have kI : ∀ {a C dx fs}, H a = some (.ins C dx fs) → H' a = some (.ins C dx fs) := fun {a C dx fs} e => d _ _ (fun z => by rw [z, hD] at e; cases e) e
  have kC : ∀ {a cs}, CornAt K H a cs → CornAt K H' a cs := fun ⟨vs, h1, h2⟩ => ⟨vs, kB h1, h2.imp fun _ _ ⟨q, e, r⟩ => ⟨q, e, kB r⟩⟩
  obtain ⟨dx, tm, tc, tp, h1, ⟨d2, tw, tl, th, tn, r1, r2, r3, r4, r5, r6⟩, h3, h4, h5⟩ := h
  refine ⟨dx, tm, tc, tp, kI h1, ⟨d2, tw, tl, th, tn, kI r1, kB r2, r3.imp fun a ns wa => ?_, kB r4, kB r5, kB r6⟩, kB h3, kC h4, kC h5⟩
  obtain ⟨dx, tl, tk, ks, w1, w2, w3, w4⟩ := wa
  exact ⟨dx, tl, tk, ks, kI w1, kB w2, SqT.keptL hD d w3, w4⟩
theorem HandAt.lst {H : Hp} {a c : Addr} {n : Nat} (h : HandAt H a c n) : ∃ xs, H a = some (.lst xs) := by
  obtain ⟨ns, i, r, h1, _⟩ := h
  exact ⟨_, h1⟩
theorem HandAt.ne_iv {H : Hp} {a c m : Addr} {n : Nat} {ns : List Int} (h : HandAt H a c n) (hm : H m = some (.lst (iv ns))) : m ≠ a := fun e => by
  obtain ⟨_, i, r, h1, _⟩ := h
  rw [← e, hm] at h1
  cases ns with
  | nil => cases h1
  | cons x t => cases h1
theorem HandAt.ne_refs {H : Hp} {a c p : Addr} {n : Nat} {us : List V} (h : HandAt H a c n) (hp : H p = some (.lst us)) (hr : ∀ v ∈ us, ∃ q, v = V.ref q) : p ≠ a := fun e => by
  obtain ⟨_, i, r, h1, _⟩ := h
  rw [← e, hp] at h1
  injection h1 with h1
  injection h1 with h1
  obtain ⟨q, e2⟩ := hr (.int i) (by rw [h1]; simp)
  cases e2
theorem LLs.refs {H : Hp} {us : List V} {ws : List (List Int)} (h : LLs H us ws) : ∀ v ∈ us, ∃ q, v = V.ref q := fun v hv => by
  obtain ⟨i, hi, e⟩ := List.getElem_of_mem hv
  obtain ⟨w, _, q, e2, _⟩ := h.at (List.getElem?_eq_getElem hi)
  exact ⟨q, by rw [← e, e2]⟩
theorem LLs.drew {H H' : Hp} {a c : Addr} {n m : Nat} {us : List V} {ws : List (List Int)} (h : LLs H us ws) (hH : HandAt H a c n) (d : Drew a c m H H') : LLs H' us ws := h.imp fun _ _ ⟨q, e, g⟩ => ⟨q, e, d.2 _ _ (hH.ne_iv g) g⟩
def gvWP (zs : List V) : List V := match zs with | [l, p, s] => [s, p, l] | _ => []
def gvWO (zs : List V) : List V := match zs with | [p, s] => [s, p] | _ => []
structure SewO (P : Program) (w : World) (K : PySem.W.Frag) (mg : Str → Option Value) (base : Heap) (C CR CS : Addr) : Prop where
  T : TxW K mg C
  TC : TxRC K mg CR
  TS : TxSC K mg CS
  ER : EqR P w K mg base C CR
  rn : PySem.W.findIn K (.ref CR) "__ne__" = some (some (.builtin "object.__ne__"))
  ES : OE.Eq P w K mg base CS 4 (SewEq K C CR CS)
/-- where a letter is put in -/
theorem put_at {ws : List (List Int)} {i : Nat} (hi : i < ws.flatten.length) : ∃ (A B : List (List Int)) (u v : List Int), ws = A ++ [u ++ v] ++ B ∧ v ≠ [] ∧ i = A.flatten.length + u.length := by
  obtain ⟨A, w, B, t, rfl, ht, rfl⟩ := spl_at hi
  refine ⟨A, B, w.take t, w.drop t, by rw [List.take_append_drop], fun z => ?_, by rw [List.length_take]; omega⟩
  have := congrArg List.length z
  rw [List.length_drop] at this
  simp at this
  omega
section
variable {K : PySem.W.Frag} {C CR CS CBS CNP CNL CTM CMF : Addr} {H : Hp} {Q : VK} {E : XK} {p rp : Addr} {xs : List Addr} {A B : List (List Int)} {u v : List Int} {k : Int} {mt : List Int}
theorem wp_good (hS : SewAt K C CR CS H p rp xs (A ++ [u ++ v] ++ B) mt) (ok : RimOk (A ++ [u ++ v] ++ B)) (mok : MatOk (A ++ [u ++ v] ++ B).flatten mt) (hv : v ≠ []) (hk : 1 ≤ k.natAbs ∧ k.natAbs ≤ 26) (l22 : (A ++ [u ++ v] ++ B).flatten.length ≤ 22)
    (kq : ∀ q H' rq xs2, Same H H' → SewAt K C CR CS H' q rq xs2 (A ++ [u ++ [k, -k] ++ v] ++ B) (insM mt (A.flatten.length + u.length)) → Q (.ref q) H') : spWP K C CR CS CBS CNP CNL CTM [.ref p, .int ((A.flatten.length + u.length : Nat) : Int), .int k] H Q E :=
  ⟨_, _, _, rfl, .inr ⟨p, rp, xs, _, mt, "int", "int", rfl, hS, ok, mok, .int _, .int _, .inr (.inr ⟨A, B, u, v, k, rfl, hv, rfl, rfl, hk, .inr ⟨by omega, kq⟩⟩)⟩⟩
theorem wo_good {ws ws' : List (List Int)} {e : Nat → Nat} {i q : Nat} (hS : SewAt K C CR CS H p rp xs ws mt) (ok : RimOk ws) (mok : MatOk ws.flatten mt) (hi : i < ws.flatten.length) (hq : q = nxN ws i) (hl : ws.flatten.getD i 0 = -ws.flatten.getD q 0) (h2 : (ws.getD (home ws i) []).length ≠ 2) (Cu : Cut2 ws ws' e i q)
    (kq : ∀ r H' rq xs2, Same H H' → SewAt K C CR CS H' r rq xs2 ws' (takM mt i q ((List.range ws'.flatten.length).map e)) → Q (.ref r) H') : spWO K C CR CS CBS CNP CMF [.ref p, .int (i : Int)] H Q E := by
  subst hq
  exact ⟨_, _, rfl, .inr ⟨p, rp, xs, ws, mt, "int", rfl, hS, ok, mok, .int _, .inr ⟨i, rfl, hi, .inr (.inr ⟨ws', e, hl, h2, Cu, kq⟩)⟩⟩⟩
/-- put in, and taken out -/
theorem wo_put (hS : SewAt K C CR CS H p rp xs (A ++ [u ++ [k, -k] ++ v] ++ B) (insM mt (A.flatten.length + u.length))) (ok : RimOk (A ++ [u ++ v] ++ B)) (mok : MatOk (A ++ [u ++ v] ++ B).flatten mt) (hv : v ≠ []) (hk : 1 ≤ k.natAbs ∧ k.natAbs ≤ 26) (l22 : (A ++ [u ++ v] ++ B).flatten.length ≤ 22)
    (kq : ∀ r H' rq xs2, Same H H' → SewAt K C CR CS H' r rq xs2 (A ++ [u ++ v] ++ B) mt → Q (.ref r) H') : spWO K C CR CS CBS CNP CMF [.ref p, .int ((A.flatten.length + u.length : Nat) : Int)] H Q E := by
  have Cu := cut_put (k := k) ok.2.2.1
  have l2 : (A ++ [u ++ [k, -k] ++ v] ++ B).flatten.length = (A ++ [u ++ v] ++ B).flatten.length + 2 := Cu.len
  refine wo_good hS (rim_in ok hk (by omega)) (mat_in mok) (Cu.pq.2.1) Cu.bij.2.2.2.symm (by rw [let_put.1, let_put.2]; omega) ?_ Cu fun r H' rq xs2 s S => kq r H' rq xs2 s ?_
  · have hm := home_mid (A := A) (B := B) (u := u) (v := [k, -k] ++ v) (by simp)
    rw [← List.append_assoc] at hm
    rw [hm, List.append_assoc A, List.getD_eq_getElem?_getD, List.getElem?_append_right (Nat.le_refl _), Nat.sub_self]
    show (u ++ [k, -k] ++ v).length ≠ 2
    have := List.length_pos_iff.mpr hv
    rw [List.length_append, List.length_append]
    show u.length + 2 + v.length ≠ 2
    omega
  · rw [takM_put (k := k) ok.2.2.1 mok] at S
    exact S
end
theorem atI_end {xs : List V} (h : xs ≠ []) : atI xs (-1) = some (xs.getLast h) := by
  conv => lhs; rw [← List.dropLast_concat_getLast h]
  exact atI_last _ _
theorem lls_first {H : Hp} {us : List V} {ws : List (List Int)} (hu : LLs H us ws) (hne : ∀ w ∈ ws, w ≠ []) (h1 : 1 ≤ ws.length) : ∃ (q : Addr) (w : List Int) (x : Int), us[0]? = some (.ref q) ∧ H q = some (.lst (iv w)) ∧ w[0]? = some x ∧ x ∈ ws.flatten := by
  have l0 : 0 < us.length := by rw [hu.length]; omega
  obtain ⟨w, hw, q, e, g⟩ := hu.at (List.getElem?_eq_getElem l0)
  have hm := List.mem_of_getElem? hw
  have lw := List.length_pos_iff.mpr (hne w hm)
  exact ⟨q, w, w[0], by rw [List.getElem?_eq_getElem l0, e], g, List.getElem?_eq_getElem lw, List.mem_flatten.mpr ⟨w, hm, List.getElem_mem lw⟩⟩
theorem lls_last {H : Hp} {us : List V} {ws : List (List Int)} (hu : LLs H us ws) (hne : ∀ w ∈ ws, w ≠ []) (h1 : 1 ≤ ws.length) : ∃ (q : Addr) (w : List Int) (x : Int), atI us (-1) = some (.ref q) ∧ H q = some (.lst (iv w)) ∧ atI (iv w) (-1) = some (.int x) ∧ x ∈ ws.flatten := by
  have lu := hu.length
  have un : us ≠ [] := fun z => by rw [z] at lu; simp at lu; omega
  have l0 : us.length - 1 < us.length := by omega
  obtain ⟨w, hw, q, e, g⟩ := hu.at (List.getElem?_eq_getElem l0)
  have hm := List.mem_of_getElem? hw
  have wn : w ≠ [] := hne w hm
  have wn2 : iv w ≠ [] := fun z => wn (List.map_eq_nil_iff.mp z)
  refine ⟨q, w, w.getLast wn, by rw [atI_end un, List.getLast_eq_getElem, e], g, ?_, List.mem_flatten.mpr ⟨w, hm, List.getLast_mem wn⟩⟩
  rw [atI_end wn2]
  unfold iv
  rw [List.getLast_map]
def spPutR (K : PySem.W.Frag) (C CR CS : Addr) : Sp := fun vs H Q _ => ∃ (a c p m : Addr) (us : List V) (ws : List (List Int)) (mt : List Int) (n : Nat), vs = [.ref a, .ref p, .ref m] ∧ HandAt H a c n ∧ n ≤ 6000 ∧ H p = some (.lst us) ∧ LLs H us ws ∧ RimOk ws ∧ ws.flatten.length ≤ 22 ∧
  MatOk ws.flatten mt ∧ H m = some (.lst (iv mt)) ∧ ∀ H', Drew a c (n + 2) H H' → Q (.bl true) H'
abbrev sPutR : Stmt := top 83
abbrev nPutR : List Str := ["_law_pen_here", "_law_words", "_law_mates_here", "_law_sewing", "_law_place", "_law_letter", "_law_more", "_law_told", "_law_found"]
theorem scPutR : FnScope nPutR ["_law_pen_here", "_law_words", "_law_mates_here"] (defScope sPutR) := ⟨rfl, rfl, rfl, by decide +kernel, rfl, by decide +kernel, by decide +kernel⟩
section
variable {P : Program} {w : World} {K : PySem.W.Frag} {mg : Str → Option Value} {base : Heap} {C CR CS CBS CNP CNL CTM CMF : Addr}
theorem ok_PutR {f : Addr} {fd : FuncData} (F : Fun K "_law_put_right" "_law_put_right" sPutR f fd) (N : TN mg) (O : SewO P w K mg base C CR CS) (MS : MkS P w K mg base C CR CS) (KP : CalKX P w K mg base "with_pair" 10 ["sewing", "place", "letter"] ["letter", "place", "sewing"] gvWP (spWP K C CR CS CBS CNP CNL CTM)) (KO : CalKX P w K mg base "without_pair" 10 ["sewing", "place"] ["place", "sewing"] gvWO (spWO K C CR CS CBS CNP CMF)) (G_put : Cal P w K mg base "_law_put" 2 ["_law_words", "_law_mates_here", "_law_place", "_law_letter"] (spPut K)) (G_with_pair : CalX P w K mg base "with_pair" 10 ["sewing", "place", "letter"] (spWP K C CR CS CBS CNP CNL CTM)) (G_rims : Cal P w K mg base "_law_rims" 6 ["_law_words"] (spLRims K C CR)) (G_draw : Cal P w K mg base "_law_draw" 1 ["_law_pen_here", "_law_many"] (spTake)) (G_pick : Cal P w K mg base "_law_pick" 2 ["_law_pen_here", "_law_some"] (spPick)) (G_is : Cal P w K mg base "_law_is" 3 ["_law_sewing", "_law_words", "_law_mates_here"] (spIs K C CR CS)) (G_without_pair : CalX P w K mg base "without_pair" 10 ["sewing", "place"] (spWO K C CR CS CBS CNP CMF)) : FnOk P w K mg base CX0 11 f fd ["_law_pen_here", "_law_words", "_law_mates_here"] (spPutR K C CR CS) := by
  refine F.ok scPutR (fun vs H Q E h => ?_) (fun cdv A outer s H vs Q E hr h => ?_)
  · obtain ⟨a, c, p, m, us, ws, mt, n, rfl, _⟩ := h
    rfl
  · obtain ⟨a, c, p, m, us, ws, mt, n, rfl, hH, hn, hp, hu, ok, l22, mok, hm, k⟩ := h
    obtain ⟨T, TC, TS, ER, rn, ES⟩ := id O
    refine ⟨_, pss_cons (ps_set (i := 3) scPutR.nd rfl (Or.inl rfl) (pe_sewK rfl MS TS hr (by decide) (by rfl) (pa_cons (pe_cal G_rims hr (by decide) (by rfl) (pa_cons (pv 1) pa_nil)) (pa_cons (pv 2) pa_nil))))
      (pss_cons (ps_par (i := 4) (j := 5) (by rfl) scPutR.nd rfl rfl (by decide) rfl rfl (pa_cons (pe_cal G_draw hr (by decide) (by rfl) (pa_cons (pv 0) (pa_cons (pe_callB call_len_seq (by rfl) N.len PySem.boot_len (pa_cons (pv 2) pa_nil)) pa_nil))) (pa_cons (pe_cal G_pick hr (by decide) (by rfl) (pa_cons (pv 0) (pa_cons (pe_lst (pa_cons pe_int (pa_cons (pe_un un_neg pe_int) (pa_cons pe_int (pa_cons (pe_un un_neg pe_int) (pa_cons (pe_ix ix_list (pe_ix ix_list (pv 1) pe_int (fun _ _ => rfl)) pe_int (fun _ _ => rfl)) (pa_cons (pe_un un_neg (pe_ix ix_list (pe_ix ix_list (pv 1) (pe_un un_neg pe_int) (fun _ _ => rfl)) (pe_un un_neg pe_int) (fun _ _ => rfl))) pa_nil))))))) pa_nil))) pa_nil)) (by rfl))
      (pss_cons (ps_asg (pe_cal G_put hr (by decide) (by rfl) (pa_cons (pv 1) (pa_cons (pv 2) (pa_cons (pv 4) (pa_cons (pv 5) pa_nil))))) (pg_tup (n := 2) rfl (pgs_cons (pg_name (i := 6) scPutR.nd rfl (Or.inl rfl)) (pgs_cons (pg_name (i := 7) scPutR.nd rfl (Or.inl rfl)) pgs_nil))))
      (pss_cons (ps_set (i := 8) scPutR.nd rfl (Or.inl rfl) (pe_calKX KP hr (by decide) (by rfl) (pk_cons (pv 5) (pk_cons (pv 4) (pk_cons (pv 3) pk_nil)))))
      (pss_cons (ps_if (PW.pt (pw_or (pt_not (pt_val (pe_cal G_is hr (by decide) (by rfl) (pa_cons (pv 8) (pa_cons (pv 6) (pa_cons (pv 7) pa_nil)))))) (pw_or (pt_cmpR op_ne (pe_fld (pv 8) rfl) (pe_fld (pv 3) rfl) (nomark _)) (pw_or (pt_cmpR op_ne (pe_fld (pv 8) rfl) (pe_fld (pv 3) rfl) (nomark _)) (pw_or1 (pt_not (pt_val (pe_cal G_is hr (by decide) (by rfl) (pa_cons (pv 3) (pa_cons (pv 1) (pa_cons (pv 2) pa_nil))))))))))) (pss_one (ps_ret pe_bl)) pss_nil)
      (pss_one (ps_ret (pe_and (pe_cmpR (OE.op_e O.ES hr (by decide)) (pe_calKX KO hr (by decide) (by rfl) (pk_cons (pv 4) (pk_cons (pv 8) pk_nil))) (pv 3) (nomark _)) (pe_one (pe_cmpR (OE.op_e O.ES hr (by decide)) (pe_calX G_with_pair hr (by decide) passF (by rfl) (pa_cons (pv 3) (pa_cons (pv 4) (pa_cons (pv 5) pa_nil)))) (pv 8) (nomark _)))))))))), ?_⟩
    obtain ⟨o1, o2, o3, o4, o5, o6⟩ := id ok
    have hpa := hH.ne_refs hp hu.refs
    have hma := hH.ne_iv hm
    have lm : mt.length = ws.flatten.length := mok.1.1.1
    -- a sewing
    refine ⟨_, rfl, p, us, ws, rfl, hp, hu, ok, fun rp H1 xs s1 R1 => ?_⟩
    refine ⟨_, rfl, ?_⟩
    intro sw dq nq ndq _
    refine sew_at nq ndq R1 ok (.inl (SqL.of (s1 _ _ hm))) mok fun H2 s2 S2 => ?_
    have s02 := s1.trans s2
    try dsimp only
    refine at_set ?_
    try dsimp only
    -- a place
    have hH2 := hH.same s02
    have l0 : 0 < ws.flatten.length := by
      obtain ⟨q, w, x, _, _, _, hx⟩ := lls_first hu o3 o1
      exact List.length_pos_of_mem hx
    refine ⟨_, rfl, _, rfl, m, _, rfl, .inl (SqL.of (s02 _ _ hm)), a, c, _, n, rfl, hH2, by omega, by rw [List.length_map]; omega, by rw [List.length_map]; omega, fun H3 z z0 z1 hH3 k3 => ?_⟩
    rw [List.length_map] at z1
    obtain ⟨i, rfl⟩ : ∃ i : Nat, z = (i : Int) := ⟨z.toNat, by omega⟩
    have hi : i < ws.flatten.length := by omega
    have k03 : Kept a H H3 := Kept.trans (fun b o _ e => s02 b o e) k3
    have hp3 := k03 _ _ hpa hp
    have hm3 := k03 _ _ hma hm
    have L3 : LLs H3 us ws := hu.imp fun _ _ ⟨q, e, g⟩ => ⟨q, e, k03 _ _ (hH.ne_iv g) g⟩
    have S3 := S2.kept hH2.lst.choose_spec k3
    obtain ⟨q1, w1, x1, u1, g1, e1, m1⟩ := lls_first L3 o3 o1
    obtain ⟨q2, w2, x2, u2, g2, e2, m2⟩ := lls_last L3 o3 o1
    refine ⟨_, rfl, _, rfl, _, rfl, _, rfl, p, _, _, _, rfl, rfl, SqL.of hp3, atI_nat (j := 0) u1, q1, _, _, _, rfl, rfl, SqL.of g1, atI_nat (j := 0) (iv_get e1), ?_⟩
    refine ⟨_, rfl, _, rfl, p, _, _, _, rfl, rfl, SqL.of hp3, u2, _, rfl, q2, _, _, _, rfl, rfl, SqL.of g2, e2, _, rfl, by show 6 ≤ sizeLine; decide, fun O1 hO1 => ?_⟩
    have s4 := same_upd (o := .lst [.int 1, .int (-1), .int 26, .int (-26), .int x1, .int (-x2)]) hO1
    have gO : L2.upd H3 O1 (.lst [.int 1, .int (-1), .int 26, .int (-26), .int x1, .int (-x2)]) O1 = some (.lst [.int 1, .int (-1), .int 26, .int (-26), .int x1, .int (-x2)]) := upd_same
    have O1a := hH3.ne hO1
    obtain ⟨H4, e4⟩ : ∃ H4, H4 = L2.upd H3 O1 (.lst [.int 1, .int (-1), .int 26, .int (-26), .int x1, .int (-x2)]) := ⟨_, rfl⟩
    rw [← e4] at s4 gO ⊢
    have hH4 := hH3.same s4
    refine ⟨a, c, O1, _, n + 1, rfl, hH4, by omega, O1a, gO, by show 0 < 6; decide, by show 6 ≤ 1000; decide, fun lv hlv H5 d5 => ?_⟩
    obtain ⟨x, rfl, hx⟩ : ∃ x : Int, lv = .int x ∧ (1 ≤ x.natAbs ∧ x.natAbs ≤ 26) := by
      have f1 := o5 _ m1
      have f2 := o5 _ m2
      simp only [List.mem_cons, List.mem_nil_iff, or_false] at hlv
      rcases hlv with rfl | rfl | rfl | rfl | rfl | rfl
      · exact ⟨_, rfl, by decide⟩
      · exact ⟨_, rfl, by decide⟩
      · exact ⟨_, rfl, by decide⟩
      · exact ⟨_, rfl, by decide⟩
      · exact ⟨_, rfl, by omega⟩
      · exact ⟨_, rfl, by omega⟩
    have hpa3 : p ≠ a := hpa
    have hp5 := d5.2 _ _ hpa (s4 _ _ hp3)
    have hm5 := d5.2 _ _ hma (s4 _ _ hm3)
    have L5 := (L3.same s4).drew hH4 d5
    have S5 := (S3.same s4).kept hH4.lst.choose_spec d5.2
    have hH5 := d5.1
    have k05 : Kept a H H5 := (k03.trans fun b o _ e => s4 b o e).trans d5.2
    clear e4 s4 gO hlv m1 m2 u1 u2 g1 g2 e1 e2 S3 L3 hm3 hp3 k3 hH4 d5 S2 R1 hO1
    obtain ⟨A', B', u, v, rfl, hv, rfl⟩ := put_at hi
    try dsimp only
    -- own words and mates
    refine ⟨_, _, rfl, ?_⟩
    refine ⟨_, rfl, _, rfl, _, rfl, _, rfl, p, m, us, A', B', u, v, x, mt, rfl, hp5, L5, hv, by omega, o2, hm5, lm, fun t l1 l2 us2 H6 s6 gt6 gl1 L6 gl2 => ?_⟩
    refine ⟨t, _, rfl, gt6, rfl, _, _, rfl, _, _, rfl, rfl, ?_⟩
    try dsimp only
    -- put in
    have rok := rim_in ok hx (by omega)
    have mat2 := mat_in (k := x) mok
    refine ⟨_, rfl, _, rfl, _, rfl, rfl, wp_good (S5.same s6) ok mok hv hx l22 fun fo H7 rq xs2 s7 S7 => ?_⟩
    try dsimp only
    refine at_set ?_
    try dsimp only
    have s57 := s6.trans s7
    have cst := cost_put (k := x) ok mok
    have hnd := hand_put (k := x) ok mok
    -- it is so
    refine ⟨_, rfl, _, rfl, _, rfl, fo, l1, l2, rq, xs2, us2, _, _, rfl, S7, s7 _ _ gl1, L6.same s7, s7 _ _ gl2, rok, mat2.1.1, fun H8 s8 => ⟨_, rfl, iteF ?_⟩⟩
    have S8 := S7.same s8
    have T8 := S5.same (s57.trans s8)
    obtain ⟨a1, a2, a3, a4, b1, b2, b3, b4, b5⟩ := id S8
    obtain ⟨f1, f2, f3, f4, j1, j2, j3, j4, j5⟩ := id T8
    refine ⟨_, rfl, fo, CS, a1, _, _, rfl, b1, TS.cl, TS.n4, sf_cost, _, rfl, sw, CS, f1, _, _, rfl, j1, TS.cl, TS.n4, sf_cost, rfl, _, rfl, ?_⟩
    refine iteF' (by
      rw [cst]
      show (!decide (V.int (costF (A' ++ [u ++ v] ++ B') mt) = V.int (costF (A' ++ [u ++ v] ++ B') mt))) = false
      rw [decide_eq_true rfl]
      rfl) ?_
    refine ⟨_, rfl, fo, CS, a1, _, _, rfl, b1, TS.cl, TS.n6, sf_handles, _, rfl, sw, CS, f1, _, _, rfl, j1, TS.cl, TS.n6, sf_handles, rfl, _, rfl, ?_⟩
    refine iteF' (by
      rw [hnd]
      show (!decide (V.int (handF (A' ++ [u ++ v] ++ B') mt) = V.int (handF (A' ++ [u ++ v] ++ B') mt))) = false
      rw [decide_eq_true rfl]
      rfl) ?_
    have s58 := s57.trans s8
    refine ⟨_, rfl, _, rfl, _, rfl, sw, p, m, rp, xs, us, _, mt, rfl, T8, s58 _ _ hp5, L5.same s58, s58 _ _ hm5, ok, mok.1.1, fun H9 s9 => ⟨_, rfl, iteF ?_⟩⟩
    have S9 := S8.same s9
    have T9 := T8.same s9
    -- taken out again
    refine ⟨_, rfl, _, rfl, rfl, wo_put S9 ok mok hv hx l22 fun r Ha rq3 xs3 sa Sa => ?_⟩
    refine ⟨_, rfl, r, sw, _, rfl, rfl, ⟨_, _, _, _, _, _, _, _, Sa, T9.same sa, rfl⟩, ?_⟩
    refine ⟨_, rfl, iteT' (decide_eq_true ⟨rfl, rfl⟩) ?_⟩
    refine ⟨_, rfl, _, rfl, _, rfl, ?_⟩
    refine ⟨_, _, _, rfl, .inr ⟨sw, rp, xs, _, mt, "int", "int", rfl, T9.same sa, ok, mok, .int _, .int _, .inr (.inr ⟨A', B', u, v, x, rfl, hv, rfl, rfl, hx, .inr ⟨by omega, fun r2 Hb rq4 xs4 sb Sb => ?_⟩⟩)⟩⟩
    have Sf := (S9.same sa).same sb
    refine ⟨_, rfl, r2, fo, _, rfl, rfl, ⟨_, _, _, _, _, _, _, _, Sb, Sf, rfl⟩, ?_⟩
    show Q (.bl (decide (A' ++ [u ++ [x, -x] ++ v] ++ B' = A' ++ [u ++ [x, -x] ++ v] ++ B' ∧ insM mt (A'.flatten.length + u.length) = insM mt (A'.flatten.length + u.length)))) Hb
    rw [decide_eq_true ⟨rfl, rfl⟩]
    have sz := ((s58.trans s9).trans sa).trans sb
    exact k Hb ⟨(hH5.same sz).mono (by omega), k05.trans fun b o _ e => sz b o e⟩
end
end W17
set_option Elab.async false
set_option linter.all false
set_option maxRecDepth 100000
set_option maxHeartbeats 1000000
namespace W17
open PySem L2 PySem.Spec PyProof.Rows WR WB WE WS
/-! ### the law's own: taken out, again and again -/
def dPr (xs : List (Nat × Nat)) : PyData := .list (xs.map fun x => .tuple [.int x.1, .int x.2])
theorem layPr : ∀ xs : List (Nat × Nat), PyData.canLayAll0 (xs.map fun x => PyData.tuple [.int x.1, .int x.2]) = true ∧ PyData.depthAll (xs.map fun x => PyData.tuple [.int x.1, .int x.2]) ≤ 1
  | [] => ⟨rfl, Nat.zero_le _⟩
  | x :: r => by
    obtain ⟨h1, h2⟩ := layPr r
    simp [PyData.canLayAll0, PyData.canLay0, PyData.depthAll, PyData.depth, h1]
    omega
theorem shapedPr (xs : List (Nat × Nat)) : SeqAt.shaped (dPr xs) = true := by
  obtain ⟨h1, h2⟩ := layPr xs
  simp [dPr, SeqAt.shaped, PyData.canLay0, PyData.depth, h1]
  omega
theorem dpPr {K : PySem.W.Frag} {H : Hp} {vs : List V} {xs : List (Nat × Nat)} (h : All2 (PrI K H) vs xs) : DpAll K H vs (xs.map fun x => PyData.tuple [.int x.1, .int x.2]) := by
  induction h with
  | nil => exact .nil
  | cons h1 _ ih =>
    obtain ⟨q, rfl, hq⟩ := h1
    exact .cons (.tup hq (.cons (.int _) (.cons (.int _) .nil))) ih
theorem eqPr : ∀ xs : List (Nat × Nat), PyData.eqv (dPr xs) (.list []) = decide (xs = [])
  | [] => rfl
  | x :: r => by
    rw [decide_eq_false (fun z => by cases z)]
    rfl
theorem par_lc {i j : Nat} {wi : TI} {g : TG} {tt : TT} {te : TE} {vs : List Nat} {t2 : TA} {D : Ends} {σ : L2.St} {H : Hp} (h : wi σ H fun J H1 => tLc (fun _ H R => R J H) g tt te vs σ H1 fun y H2 => t2 σ H2 fun xs H3 => ∃ v w, y :: xs = [v, w] ∧ D.nx ((σ.set i (some v)).set j (some w)) H3) : tPar i j (tCons (tLc wi g tt te vs) t2) D σ H := h
def spTakR (K : PySem.W.Frag) (C CR CS : Addr) : Sp := fun vs H Q _ => ∃ (a c p m : Addr) (us : List V) (ws : List (List Int)) (mt : List Int) (n : Nat), vs = [.ref a, .ref p, .ref m] ∧ HandAt H a c n ∧ n ≤ 6000 ∧ H p = some (.lst us) ∧ LLs H us ws ∧ RimOk ws ∧
  MatOk ws.flatten mt ∧ H m = some (.lst (iv mt)) ∧ ∀ H', Drew a c (n + 24) H H' → Q (.bl true) H'
abbrev sTakR : Stmt := top 84
abbrev nTakR : List Str := ["_law_pen_here", "_law_words", "_law_mates_here", "_law_now", "_law_told", "_law_turn", "_law_near_here", "_law_place", "_law_behind", "_law_sewing", "_law_found", "_law_are_mates", "_law_later", "_law_mates_left", "_law_word"]
theorem scTakR : FnScope nTakR ["_law_pen_here", "_law_words", "_law_mates_here"] (defScope sTakR) := ⟨rfl, rfl, rfl, by decide +kernel, rfl, by decide +kernel, by decide +kernel⟩
section
variable {P : Program} {w : World} {K : PySem.W.Frag} {mg : Str → Option Value} {base : Heap} {C CR CS CBS CNP CNL CTM CMF : Addr}
theorem ok_TakR {f : Addr} {fd : FuncData} (F : Fun K "_law_taken_right" "_law_taken_right" sTakR f fd) (N : TN mg) (O : SewO P w K mg base C CR CS) (MS : MkS P w K mg base C CR CS) (G_near : Cal P w K mg base "_law_near" 2 ["_law_words"] (spNear K)) (G_pick : Cal P w K mg base "_law_pick" 2 ["_law_pen_here", "_law_some"] (spPick)) (G_taken : Cal P w K mg base "_law_taken" 2 ["_law_words", "_law_mates_here", "_law_one", "_law_other"] (spTaken K)) (G_rims : Cal P w K mg base "_law_rims" 6 ["_law_words"] (spLRims K C CR)) (G_without_pair : CalX P w K mg base "without_pair" 10 ["sewing", "place"] (spWO K C CR CS CBS CNP CMF)) (G_is : Cal P w K mg base "_law_is" 3 ["_law_sewing", "_law_words", "_law_mates_here"] (spIs K C CR CS)) : FnOk P w K mg base CX0 11 f fd ["_law_pen_here", "_law_words", "_law_mates_here"] (spTakR K C CR CS) := by
  refine F.ok scTakR (fun vs H Q E h => ?_) (fun cdv A outer s H vs Q E hr h => ?_)
  · obtain ⟨a, c, p, m, us, ws, mt, n, rfl, _⟩ := h
    rfl
  · obtain ⟨a, c, p, m, us, ws, mt, n, rfl, hH, hn, hp, hu, ok, mok, hm, k⟩ := h
    obtain ⟨T, TC, TS, ER, rn, ES⟩ := id O
    refine ⟨_, pss_cons (ps_par (i := 3) (j := 4) (by rfl) scTakR.nd rfl rfl (by decide) rfl rfl (pa_cons (pe_lc (own := [("_law_word", 14)]) (g := gName 14) (tt := tYes) rfl scTakR.nd (pi_list (pv 1)) (blkOk_by (N := nTakR) (sc := defScope sTakR) (by decide +kernel)) (fun _ _ _ _ _ => (pg_name (i := 14) scTakR.nd rfl (Or.inl rfl))) (fun _ _ _ _ _ => pts_nil) (fun _ _ _ _ _ => (pe_callTy (call_listK (K := K) rfl) (by rfl) N.list (by decide +kernel) (pa_cons (pv 14) pa_nil)))) (pa_cons (pe_callTy call_list_of (by rfl) N.list (by decide +kernel) (pa_cons (pv 2) pa_nil)) pa_nil)) (by rfl))
      (pss_cons (ps_for PassesOwn.never rfl (pi_range1 (by rfl) N.range (pa_cons (pe_callB call_len_seq (by rfl) N.len PySem.boot_len (pa_cons (pv 2) pa_nil)) pa_nil)) (pg_name (i := 5) scTakR.nd rfl (Or.inl rfl))
      (pss_cons (ps_set (i := 6) scTakR.nd rfl (Or.inl rfl) (pe_cal G_near hr (by decide) (by rfl) (pa_cons (pv 3) pa_nil)))
      (pss_cons (ps_if (pt_cmpR (op_eqD hr.units) (pv 6) (pe_lst pa_nil) (nomark _)) (pss_one (ps_ret pe_bl)) pss_nil)
      (pss_cons (ps_asg (pe_cal G_pick hr (by decide) (by rfl) (pa_cons (pv 0) (pa_cons (pv 6) pa_nil))) (pg_tup (n := 2) rfl (pgs_cons (pg_name (i := 7) scTakR.nd rfl (Or.inl rfl)) (pgs_cons (pg_name (i := 8) scTakR.nd rfl (Or.inl rfl)) pgs_nil))))
      (pss_cons (ps_set (i := 9) scTakR.nd rfl (Or.inl rfl) (pe_sewK rfl MS TS hr (by decide) (by rfl) (pa_cons (pe_cal G_rims hr (by decide) (by rfl) (pa_cons (pv 3) pa_nil)) (pa_cons (pv 4) pa_nil))))
      (pss_cons (ps_par (i := 10) (j := 11) (by rfl) scTakR.nd rfl rfl (by decide) rfl rfl (pa_cons (pe_calX G_without_pair hr (by decide) passF (by rfl) (pa_cons (pv 9) (pa_cons (pv 7) pa_nil))) (pa_cons (pe_cmpR op_eq (pe_ix ix_list (pv 4) (pv 7) (fun _ _ => rfl)) (pv 8) (nomark _)) pa_nil)) (by rfl))
      (pss_cons (ps_asg (pe_cal G_taken hr (by decide) (by rfl) (pa_cons (pv 3) (pa_cons (pv 4) (pa_cons (pv 7) (pa_cons (pv 8) pa_nil))))) (pg_tup (n := 2) rfl (pgs_cons (pg_name (i := 12) scTakR.nd rfl (Or.inl rfl)) (pgs_cons (pg_name (i := 13) scTakR.nd rfl (Or.inl rfl)) pgs_nil))))
      (pss_cons (ps_if (PW.pt (pw_or (pt_not (pt_val (pe_cal G_is hr (by decide) (by rfl) (pa_cons (pv 10) (pa_cons (pv 12) (pa_cons (pv 13) pa_nil)))))) (pw_or1 (pt_cmpR (op_neD hr.units) (pe_fld (pv 9) rfl) (pe_callTy call_tupB (by rfl) N.tuple (by decide +kernel) (pa_cons (pv 4) pa_nil)) (nomark _))))) (pss_one (ps_ret pe_bl)) pss_nil)
      (pss_cons (ps_if (pt_cmpR op_notIn_seq (pe_op op_sub (pe_fld (pv 10) rfl) (pe_fld (pv 9) rfl)) (pe_ifExp (pt_val (pv 11)) (pe_tupB (pa_cons pe_int pa_nil)) (pe_tupB (pa_cons pe_int (pa_cons (pe_un un_neg pe_int) pa_nil)))) (by rfl)) (pss_one (ps_ret pe_bl)) pss_nil)
      (pss_one (ps_par (i := 3) (j := 4) (by rfl) scTakR.nd rfl rfl (by decide) rfl rfl (pa_cons (pv 12) (pa_cons (pv 13) pa_nil)) (by rfl))))))))))))
      (pss_one (ps_ret pe_bl))), ?_⟩
    have lm : mt.length = ws.flatten.length := mok.1.1.1
    have l24 := ok.2.2.2.1
    have hpa := hH.ne_refs hp hu.refs
    have hma := hH.ne_iv hm
    refine par_lc ?_
    refine ⟨_, rfl, p, rfl, ⟨_, SqL.of hp⟩, ?_⟩
    refine lcM (walk_list (K := K) (a := p) (xs := us)) ws (fun D H v w => ∃ q, v = V.ref q ∧ q ≠ D ∧ H q = some (.lst (iv w))) (fun _ _ _ _ _ ⟨q, e, n, h⟩ s => ⟨q, e, n, s _ _ h⟩) ?_ (by have := hu.length; have := ok.2.1; omega) hu.length (fun H s => SqL.of (s _ _ hp)) ?_ (fun x σ1 H A B k h => gName_mono k h) ?_
    · rintro D H2 ws2 o v w hD ⟨q, e, n, h⟩
      exact ⟨q, e, n, by rw [upd_ne n]; exact h⟩
    · rintro i y wd hy hw' D H2 hD ⟨wsD, gD⟩ s2 Qy ky
      obtain ⟨u', hu2, ⟨q, rfl, hq⟩⟩ := hu.at hy
      obtain rfl : u' = wd := Option.some.inj (hu2.symm.trans hw')
      refine ⟨rfl, _, rfl, q, _, rfl, .inl (SqL.of (s2 _ _ hq)), fun l hl => ky _ _ (same_upd hl) ⟨l, rfl, (fun z => by rw [z, gD] at hl; cases hl), upd_same⟩⟩
    intro D1 H1 ys hD1 s1 gD1 qy
    refine ⟨_, rfl, m, _, rfl, .inl (SqL.of (s1 _ _ hm)), fun M1 hM1 => ⟨_, _, rfl, ?_⟩⟩
    have s2 := same_upd (o := .lst (iv mt)) hM1
    have s02 := s1.trans s2
    have gM2 : L2.upd H1 M1 (.lst (iv mt)) M1 = some (.lst (iv mt)) := upd_same
    have gD2 := s2 _ _ gD1
    have LL2 : LLs (L2.upd H1 M1 (.lst (iv mt))) ys ws := qy.imp fun v w ⟨q, e, _, g⟩ => ⟨q, e, s2 _ _ g⟩
    obtain ⟨H2, e2⟩ : ∃ H2, H2 = L2.upd H1 M1 (.lst (iv mt)) := ⟨_, rfl⟩
    rw [← e2] at s2 s02 gM2 gD2 LL2 ⊢
    try dsimp only
    refine ⟨_, rfl, m, _, rfl, .inl (SqL.of (s02 _ _ hm)), _, rfl, by rw [List.length_map]; omega, by rw [List.length_map]; omega, ?_⟩
    rw [List.length_map, Int.toNat_natCast]
    refine for_range (lo := 0) (n := mt.length) (fun i σ H' => ∃ (v5 v6 v7 v8 v9 v10 v11 v12 v13 : Option V) (pn mn : Addr) (usn : List V) (wsn : List (List Int)) (mt' : List Int), σ = [some (.ref a), some (.ref p), some (.ref m), some (.ref pn), some (.ref mn), v5, v6, v7, v8, v9, v10, v11, v12, v13, none] ∧ Drew a c (n + i) H H' ∧ H' pn = some (.lst usn) ∧ LLs H' usn wsn ∧ H' mn = some (.lst (iv mt')) ∧ RimOk wsn ∧ MatOk wsn.flatten mt')
      ⟨none, none, none, none, none, none, none, none, none, D1, M1, ys, ws, mt, rfl, (Drew.refl hH).same s02, gD2, LL2, gM2, ok, mok⟩ ?_ ?_
    · rintro i σ H3 hi ⟨v5, v6, v7, v8, v9, v10, v11, v12, v13, pn, mn, usn, wsn, mt', rfl, D3, gp3, L3, gm3, ok3, mok3⟩
      have hi24 : i < 24 := by omega
      have hH3 := D3.1
      obtain ⟨o1, o2, o3, o4, o5, o6⟩ := id ok3
      try dsimp only
      -- neighbours
      refine ⟨_, rfl, pn, usn, wsn, rfl, gp3, L3, o3, by omega, fun nq H4 xs hnq s4 g4 q4 => ?_⟩
      have nqa := hH3.ne hnq
      have hH4 := hH3.same s4
      have D4 := D3.same s4
      try dsimp only
      refine at_set ?_
      try dsimp only
      refine ⟨_, rfl, Nat.zero_le _, fun fo hfo => ?_⟩
      have s5 := same_upd (o := .lst []) hfo
      refine ⟨dPr (nearF wsn), .list [], .lst (SqL.of (s5 _ _ g4)) (dpPr (q4.imp fun _ _ r => PrI.same r s5)), .lst (SqL.of upd_same) .nil, shapedPr _, by rfl, ?_⟩
      rw [eqPr]
      have D5 := D4.same s5
      have hH5 := hH4.same s5
      have g5 := s5 _ _ g4
      have q5 := q4.imp fun _ _ r => PrI.same r s5
      have gp5 := s5 _ _ (s4 _ _ gp3)
      have gm5 := s5 _ _ (s4 _ _ gm3)
      have L5 := (L3.same s4).same s5
      generalize L2.upd H4 fo (.lst []) = H5 at s5 D5 hH5 g5 q5 gp5 gm5 L5 ⊢
      refine ⟨_, rfl, ?_⟩
      by_cases c0 : nearF wsn = []
      · refine iteT' (decide_eq_true c0) ?_
        exact k H5 ⟨D5.1.mono (by omega), D5.2⟩
      refine iteF' (decide_eq_false c0) ?_
      try dsimp only
      have lx := q5.length
      have ln : 0 < (nearF wsn).length := List.length_pos_iff.mpr c0
      have l60 : (nearF wsn).length ≤ 24 := by
        unfold nearF
        rw [List.length_map]
        refine Nat.le_trans (List.length_filter_le _ _) (Nat.le_trans (List.length_filter_le _ _) ?_)
        rw [List.length_range]
        exact o4
      refine ⟨_, rfl, _, rfl, a, c, nq, xs, n + i, rfl, hH5, by omega, nqa, g5, by omega, by omega, fun v hv H6 d6 => ?_⟩
      obtain ⟨jv, hjv, ev⟩ := List.getElem_of_mem hv
      obtain ⟨⟨x1, x2⟩, hx, T0, e0, sT⟩ := q5.at (List.getElem?_eq_getElem hjv)
      rw [ev] at e0
      subst e0
      obtain ⟨c1, c2, c3, c4, ws', e, Cu⟩ := near_cut o3 (List.mem_of_getElem? hx)
      have c1 : x1 < wsn.flatten.length := c1
      have c2 : x2 = nxN wsn x1 := c2
      have c3 : wsn.flatten.getD x1 0 = -wsn.flatten.getD x2 0 := c3
      have c4 : (wsn.getD (home wsn x1) []).length ≠ 2 := c4
      have Cu : Cut2 wsn ws' e x1 x2 := Cu
      subst c2
      have D6 := D5.trans d6
      have hH6 := d6.1
      have sT6 : SqT K H6 T0 [.int (x1 : Int), .int (nxN wsn x1 : Int)] := SqT.keptL hH5.lst.choose_spec d6.2 sT
      have gp6 := d6.2 _ _ (hH5.ne_refs gp5 L5.refs) gp5
      have gm6 := d6.2 _ _ (hH5.ne_iv gm5) gm5
      have L6 := L5.drew hH5 d6
      refine ⟨T0, _, rfl, sT6, rfl, _, _, rfl, _, _, rfl, rfl, ?_⟩
      try dsimp only
      -- a sewing
      refine ⟨_, rfl, pn, usn, wsn, rfl, gp6, L6, ok3, fun rp H7 xs7 s7 R7 => ?_⟩
      refine ⟨_, rfl, ?_⟩
      intro sw dq nq' ndq _
      refine sew_at nq' ndq R7 ok3 (.inl (SqL.of (s7 _ _ gm6))) mok3 fun H8 s8 S8 => ?_
      have s68 := s7.trans s8
      have gp8 := s68 _ _ gp6
      have gm8 := s68 _ _ gm6
      have L8 := L6.same s68
      try dsimp only
      refine at_set ?_
      try dsimp only
      obtain ⟨ka, ga, _⟩ := mtn_at mok3.1.1 c1
      have rok := Cu.rim ok3 c3
      have mat2 := take_mat Cu mok3 c3
      have cst := take_cost Cu o3 mok3 c3
      -- taken out
      refine ⟨_, rfl, _, rfl, _, _, rfl, .inr ⟨sw, rp, xs7, wsn, mt', "int", rfl, S8, ok3, mok3, .int _, .inr ⟨x1, rfl, c1, .inr (.inr ⟨ws', e, c3, c4, Cu, fun fo H9 rq xs9 s9 S9 => ?_⟩)⟩⟩⟩
      have gm9 := s9 _ _ gm8
      refine ⟨_, rfl, _, rfl, mn, _, _, _, rfl, rfl, SqL.of gm9, atI_nat (iv_get ga), _, rfl, rfl, ?_⟩
      refine ⟨_, _, rfl, ?_⟩
      try dsimp only
      have gp9 := s9 _ _ gp8
      have L9 := L8.same s9
      refine ⟨_, rfl, _, rfl, _, rfl, _, rfl, pn, mn, usn, wsn, ws', e, x1, nxN wsn x1, mt', rfl, gp9, L9, gm9, mok3.1, Cu, o4, o2, fun t l1 l2 us2 Ha sa gta gl1 La gl2 => ?_⟩
      refine ⟨t, _, rfl, gta, rfl, _, _, rfl, _, _, rfl, rfl, ?_⟩
      try dsimp only
      -- it is so
      refine ⟨_, rfl, _, rfl, _, rfl, fo, l1, l2, rq, xs9, us2, _, _, rfl, S9.same sa, gl1, La, gl2, rok, mat2.1.1, fun Hb sb => ⟨_, rfl, iteF ?_⟩⟩
      have s8b := (s9.trans sa).trans sb
      have S8b := S8.same s8b
      obtain ⟨f1, f2, f3, f4, j1, j2, j3, j4, j5⟩ := id S8b
      refine ⟨_, rfl, sw, CS, f1, _, _, rfl, j1, TS.cl, TS.n2, sf_mates, _, rfl, mn, _, rfl, .inl ⟨SqL.of (s8b _ _ gm8), fun tq Hc sc Bc => ?_⟩⟩
      refine ⟨.tuple (mt'.map .int), .tuple (mt'.map .int), .tup (SqB.same sc j3).sq (dpInts _), .tup Bc.sq (dpInts _), PySem.W.ke_shaped_ints _, PySem.W.ke_shaped_ints _, _, rfl, ?_⟩
      rw [eqv_ints]
      refine iteF' (by rw [decide_eq_true rfl]; rfl) ?_
      -- its cost
      have s9c := (sa.trans sb).trans sc
      have S9c := S9.same s9c
      have S8c := S8b.same sc
      obtain ⟨a1, a2, a3, a4, b1, b2, b3, b4, b5⟩ := id S9c
      obtain ⟨f1, f2, f3, f4, j1, j2, j3, j4, j5⟩ := id S8c
      have D8 := D6.same s68
      have D9 := D8.same s9
      have hDc := D9.same s9c
      have La2 : LLs Hc us2 ws' := La.same (sb.trans sc)
      have gl1c := (sb.trans sc) _ _ gl1
      have gl2c := (sb.trans sc) _ _ gl2
      refine ⟨_, rfl, fo, CS, a1, _, _, rfl, b1, TS.cl, TS.n4, sf_cost, _, rfl, sw, CS, f1, _, _, rfl, j1, TS.cl, TS.n4, sf_cost, _, _, rfl, rfl, _, rfl, _, rfl, ?_⟩
      by_cases cm : mtn mt' x1 = nxN wsn x1
      · refine iteT' (decide_eq_true (by rw [cm])) ?_
        refine ⟨by show 1 ≤ sizeLine; decide, fun t12 H12 s12 B12 => ⟨t12, _, rfl, .inr B12.sq, rfl, rfl, _, rfl, ?_⟩⟩
        show if (!inV (.int (costF ws' (takM mt' x1 (nxN wsn x1) ((List.range ws'.flatten.length).map e)) - costF wsn mt')) [.int 0]) = true then _ else _
        rw [cst.1 cm, Int.sub_self]
        refine iteF' (by decide) ?_
        exact ⟨_, rfl, _, rfl, _, _, rfl, _, _, _, _, _, _, _, _, _, l1, l2, us2, ws', _, rfl, hDc.same s12, s12 _ _ gl1c, La2.same s12, s12 _ _ gl2c, rok, mat2⟩
      · refine iteF' (decide_eq_false (fun z => cm (by injection z with z; omega))) ?_
        refine ⟨_, rfl, by show 2 ≤ sizeLine; decide, fun t12 H12 s12 B12 => ⟨t12, _, rfl, .inr B12.sq, rfl, rfl, _, rfl, ?_⟩⟩
        show if (!inV (.int (costF ws' (takM mt' x1 (nxN wsn x1) ((List.range ws'.flatten.length).map e)) - costF wsn mt')) [.int 0, .int (-2)]) = true then _ else _
        have hin : inV (.int (costF ws' (takM mt' x1 (nxN wsn x1) ((List.range ws'.flatten.length).map e)) - costF wsn mt')) [.int 0, .int (-2)] = true := by
          rcases cst.2 cm with z | z
          · rw [z, Int.sub_self]
            decide
          · rw [z, show costF wsn mt' - 2 - costF wsn mt' = -2 by omega]
            decide
        refine iteF' (by rw [hin]; rfl) ?_
        exact ⟨_, rfl, _, rfl, _, _, rfl, _, _, _, _, _, _, _, _, _, l1, l2, us2, ws', _, rfl, hDc.same s12, s12 _ _ gl1c, La2.same s12, s12 _ _ gl2c, rok, mat2⟩
    · rintro σ H3 ⟨v5, v6, v7, v8, v9, v10, v11, v12, v13, pn, mn, usn, wsn, mt', rfl, D3, _⟩
      exact k H3 ⟨D3.1.mono (by omega), D3.2⟩
end
end W17
set_option Elab.async false
set_option linter.all false
set_option maxRecDepth 100000
set_option maxHeartbeats 1000000
namespace W17
open PySem L2 PySem.Spec PyProof.Rows WR WB WE WS
/-! ### calls by lambdas: what is kept; what is heard -/
structure FunC (K : PySem.W.Frag) (x : Str) (st : Stmt) (f c : Addr) (fd : FuncData) : Prop where
  ex : ∃ (oc : Value) (od : Option Addr) (kV doc pm : Value) (an : Option Addr) (ct : Value) (osl : Array (Option Value)),
    fd = PySem.W.fnOf x x (defArgs st) (defBody st) (defScope st) .none kV doc pm an (.ref c) ct ∧ K.lookup f = some ⟨oc, od, .func fd, osl⟩ ∧ PySem.W.codeIn K (.ref c) x = true
theorem FunC.okG {P : Program} {w : World} {K : PySem.W.Frag} {mg : Str → Option Value} {base : Heap} {x : Str} {st : Stmt} {f c : Addr} {fd : FuncData} {N ps : List Str} {k : Nat} {sp : Sp} (F : FunC K x st f c fd) (S : FnScope N ps (defScope st)) (many : ∀ zs G R E, sp zs G R E → zs.length = ps.length)
    (B0 : ∀ (B : Around) (fr : List Env) (t : Shared) (G : Hp) (zs : List V) (R : VK) (E : XK), B.guards = some [] → Room k (B.deeper (envOfC x (defScope st) t.heap.objs.size f (.ref c))) → sp zs G R E →
      ∃ tb, PSs (cxOf CX0 P w K mg base N x (defScope st) f (.ref c) B fr t G E).nox (defBody st) tb ∧ tb { nx := fun _ G' => R .non G', rt := R } (L2.start N zs) G) : RG.FnG P w K mg base (k + 1) f fd ps sp := by
  obtain ⟨oc, od, kV, doc, pm, an, ct, osl, rfl, lk, cd⟩ := F.ex
  refine RG.fnG_of lk cd S many fun B fr t G zs R E hg room asked => ?_
  obtain ⟨tb, run, read⟩ := B0 B fr t G zs R E hg room asked
  exact ⟨tb, run.nox, read⟩
structure FaultK (K : PySem.W.Frag) (mg : Str → Option Value) (g : Addr) : Prop where
  mg : mg "_law_fault" = some (.ref g)
  kp : PySem.W.keepIn K (.ref g) = true
  ex : ∃ (oc : Value) (od : Option Addr) (kV doc pm cdv ct : Value) (an : Option Addr) (osl : Array (Option Value)),
    K.lookup g = some ⟨oc, od, .func (PySem.W.fnOf "_law_fault" "_law_fault" (defArgs sFault) (defBody sFault) (defScope sFault) .none kV doc pm an cdv ct), osl⟩ ∧ PySem.W.codeIn K cdv "_law_fault" = true
theorem tabs_kept {T : List (Addr × Str)} {a c : Addr} {n : Nat} {H H' : Hp} (h : HandAt H a c n) (k : Kept a H H') (t : LamX.Tabs T H) : LamX.Tabs T H' := by
  intro p hp
  obtain ⟨ps, h1, h2, h3⟩ := t p hp
  obtain ⟨ns, i, r, ha, _⟩ := h
  have na : ∀ {b : Addr} {o : HO}, H b = some o → (∀ xs, o ≠ .lst xs) → b ≠ a := fun e z q => by
    rw [q, ha] at e
    exact z _ (Option.some.inj e).symm
  refine ⟨ps, k _ _ (na h1 fun xs q => by cases q) h1, h2, fun pos cv hc => ?_⟩
  obtain ⟨d, e1, e2⟩ := h3 pos cv hc
  exact ⟨d, e1, k _ _ (na e2 fun xs q => by
    have q2 : HO.ext _ = HO.lst xs := q
    cases q2) e2⟩
theorem HandAt.ext {H H' : Hp} {a c : Addr} {n : Nat} (h : HandAt H a c n) (s : LamX.ExtN H H') : HandAt H' a c n := by
  obtain ⟨ns, i, r, h1, h2, h3⟩ := h
  exact ⟨ns, i, r, s _ _ h1 (fun ps q => by cases q), s _ _ h2 (fun ps q => by cases q), h3⟩
theorem Drew.tabs {T : List (Addr × Str)} {a c : Addr} {m n : Nat} {H H' : Hp} (d : Drew a c n H H') (h : HandAt H a c m) (t : LamX.Tabs T H) : LamX.Tabs T H' := tabs_kept h d.2 t
section
variable {K : PySem.W.Frag} {C CR CS : Addr} {H H' : Hp}
theorem extOf (s : Same H H') : LamX.ExtN H H' := LamX.ExtN.of fun b o e => s b o e
theorem SqT.extN {a : Addr} {xs : List V} (s : LamX.ExtN H H') (h : SqT K H a xs) : SqT K H' a xs :=
  h.elim (fun r => .inl (r.elim (fun r => .inl (s _ _ r fun ps q => by cases q)) fun ⟨o, r⟩ => .inr ⟨o, s _ _ r fun ps q => by cases q⟩)) fun r => .inr r
theorem SqB.extN {a : Addr} {xs : List V} (s : LamX.ExtN H H') (h : SqB K H a xs) : SqB K H' a xs :=
  ⟨SqT.extN s h.sq, let ⟨o, u, e, z⟩ := h.bare; ⟨o, u, s _ _ e (fun ps q => by cases q), z⟩⟩
theorem WordAt.extN {p : Addr} {ns : List Int} (s : LamX.ExtN H H') (h : WordAt K C H p ns) : WordAt K C H' p ns := by
  obtain ⟨dx, tl, tk, ks, h1, h2, h3, h4⟩ := h
  exact ⟨dx, tl, tk, ks, s _ _ h1 (fun ps q => by cases q), SqB.extN s h2, SqT.extN s h3, h4⟩
theorem RimsAt.extN {p : Addr} {xs : List Addr} {ws : List (List Int)} (s : LamX.ExtN H H') (h : RimsAt K C CR H p xs ws) : RimsAt K C CR H' p xs ws := by
  obtain ⟨d2, tw, tl, th, tn, r1, r2, r3, r4, r5, r6⟩ := h
  exact ⟨d2, tw, tl, th, tn, s _ _ r1 (fun ps q => by cases q), SqB.extN s r2, r3.imp fun a ns wa => WordAt.extN s wa, SqB.extN s r4, SqB.extN s r5, SqB.extN s r6⟩
theorem CornAt.extN {a : Addr} {cs : List (List Nat)} (s : LamX.ExtN H H') (h : CornAt K H a cs) : CornAt K H' a cs := by
  obtain ⟨vs, h1, h2⟩ := h
  exact ⟨vs, SqB.extN s h1, h2.imp fun _ _ ⟨q, e, r⟩ => ⟨q, e, SqB.extN s r⟩⟩
theorem SewAt.extN {p rp : Addr} {xs : List Addr} {ws : List (List Int)} {mt : List Int} (s : LamX.ExtN H H') (h : SewAt K C CR CS H p rp xs ws mt) : SewAt K C CR CS H' p rp xs ws mt := by
  obtain ⟨dx, tm, tc, tp, h1, h2, h3, h4, h5⟩ := h
  exact ⟨dx, tm, tc, tp, s _ _ h1 (fun ps q => by cases q), RimsAt.extN s h2, SqB.extN s h3, CornAt.extN s h4, CornAt.extN s h5⟩
/-- what is no Sewing -/
structure XS (K : PySem.W.Frag) (CR CS : Addr) : Prop where
  nN : PySem.W.kitOne K (.type "NoneType") (.ref CS) = some false
  nI : PySem.W.kitOne K (.type "int") (.ref CS) = some false
  nB : PySem.W.kitOne K (.type "bool") (.ref CS) = some false
  nS : PySem.W.kitOne K (.type "str") (.ref CS) = some false
  nL : PySem.W.kitOne K (.type "list") (.ref CS) = some false
  nT : PySem.W.kitOne K (.type "tuple") (.ref CS) = some false
  nR : PySem.W.kitOne K (.ref CR) (.ref CS) = some false
/-- repr shows it, in a str that can be compared -/
def ShS (d : PyData) : Prop := RA.Shw d ∧ PyData.canLay0 (.str d.shown) = true
instance (d : PyData) : Decidable (RA.Shw d) := by unfold RA.Shw; exact inferInstance
instance (d : PyData) : Decidable (ShS d) := by unfold ShS; exact inferInstance
/-- data that is asked for a place, or a letter -/
inductive Plc (H : Hp) : V → PyData → String → Prop
  | int (i : Int) (h : ShS (.int i)) : Plc H (.int i) (.int i) "int"
  | bl (b : Bool) : Plc H (.bl b) (.bool b) "bool"
  | non : Plc H .non .none "NoneType"
  | str (z : Str) (h : ShS (.str z)) : Plc H (.str z) (.str z) "str"
  | one {p : Addr} {i : Int} (e : H p = some (.lst [.int i])) (h : ShS (.list [.int i])) : Plc H (.ref p) (.list [.int i]) "list"
theorem Plc.ext {v : V} {pd : PyData} {t : String} (s : LamX.ExtN H H') (h : Plc H v pd t) : Plc H' v pd t := by
  cases h with
  | int i h => exact .int i h
  | bl b => exact .bl b
  | non => exact .non
  | str z h => exact .str z h
  | one e h => exact .one (s _ _ e fun ps q => by cases q) h
theorem Plc.kept {v : V} {pd : PyData} {t : String} {a c : Addr} {n : Nat} (hH : HandAt H a c n) (d : Kept a H H') (h : Plc H v pd t) : Plc H' v pd t := by
  cases h with
  | int i h => exact .int i h
  | bl b => exact .bl b
  | non => exact .non
  | str z h => exact .str z h
  | one e h => exact .one (d _ _ (hH.ne_iv (ns := [_]) e) e) h
theorem Plc.typ {v : V} {pd : PyData} {t : String} (h : Plc H v pd t) : Typ H v t := by
  cases h with
  | int i h => exact .int i
  | bl b => exact .bl b
  | non => exact .non
  | str z h => exact .str z
  | one e h => exact .lst e
theorem Plc.dp {v : V} {pd : PyData} {t : String} (h : Plc H v pd t) : Dp K H v pd := by
  cases h with
  | int i h => exact .int i
  | bl b => exact .bl b
  | non => exact .non
  | str z h => exact .str z
  | one e h => exact .lst (SqL.of e) (.cons (.int _) .nil)
theorem Plc.shs {v : V} {pd : PyData} {t : String} (h : Plc H v pd t) : ShS pd := by
  cases h with
  | int i h => exact h
  | bl b => cases b <;> decide +kernel
  | non => decide +kernel
  | str z h => exact h
  | one e h => exact h
theorem Plc.shw {v : V} {pd : PyData} {t : String} (h : Plc H v pd t) : RA.Shw pd := h.shs.1
theorem shw_nat : ∀ n : Nat, n < 61 → ShS (.int (n : Int)) := by decide +kernel
theorem shw_neg : ∀ n : Nat, n < 61 → ShS (.int (-(n : Int))) := by decide +kernel
/-! ### what is heard -/
variable {CBS CMF CTM CNP CNL : Addr} {T : List (Addr × Str)} {Q : VK} {H1 : Hp}
theorem bad_sew (s0 : LamX.ExtN H H1) (t1 : LamX.Tabs T H1) (k : ∀ H2 t, LamX.ExtN H H2 → LamX.Tabs T H2 → H2 t = some (.tup [.str "sewing", .str "sewing"]) → Q (.ref t) H2) : Bad "part" CBS (EF K CBS CMF CTM CNP CNL Q) H1 (.str "sewing") := by
  intro H2 s2 d hd
  have s3 := s2.trans (same_upd (o := .xd [("part", .str "sewing")]) hd)
  refine ⟨CBS, d, _, .str "sewing", .str "sewing", rfl, rfl, upd_same, .inl ⟨rfl, rfl, rfl⟩, fun H4 s4 t ht => ?_⟩
  have s5 := s3.trans s4
  exact k H4 t (s0.trans (extOf s5)) (fun p hp => (t1 p hp).ext fun b o e => s5 b o e) ht
theorem bad_mis {z : Str} (s0 : LamX.ExtN H H1) (t1 : LamX.Tabs T H1) (k : ∀ H2 t, LamX.ExtN H H2 → LamX.Tabs T H2 → H2 t = some (.tup [.str "misfit", .str z]) → Q (.ref t) H2) : Bad "part" CMF (EF K CBS CMF CTM CNP CNL Q) H1 (.str z) := by
  intro H2 s2 d hd
  have s3 := s2.trans (same_upd (o := .xd [("part", .str z)]) hd)
  refine ⟨CMF, d, _, .str "misfit", .str z, rfl, rfl, upd_same, .inr (.inl ⟨rfl, rfl, rfl⟩), fun H4 s4 t ht => ?_⟩
  have s5 := s3.trans s4
  exact k H4 t (s0.trans (extOf s5)) (fun p hp => (t1 p hp).ext fun b o e => s5 b o e) ht
theorem bad_place {v : V} {pd : PyData} {t : String} (pl : Plc H1 v pd t) (s0 : LamX.ExtN H H1) (t1 : LamX.Tabs T H1) (k : ∀ H2 t, LamX.ExtN H H2 → LamX.Tabs T H2 → H2 t = some (.tup [.str "place", .str pd.shown]) → Q (.ref t) H2) : Bad "value" CNP (EF K CBS CMF CTM CNP CNL Q) H1 v := by
  intro H2 s2 d hd
  have s3 := s2.trans (same_upd (o := .xd [("value", v)]) hd)
  refine ⟨CNP, d, _, .str "place", .str pd.shown, rfl, rfl, upd_same, .inr (.inr (.inr (.inl ⟨rfl, v, pd, rfl, rfl, (pl.ext (extOf s3)).dp, pl.shw, rfl⟩))), fun H4 s4 t ht => ?_⟩
  have s5 := s3.trans s4
  exact k H4 t (s0.trans (extOf s5)) (fun p hp => (t1 p hp).ext fun b o e => s5 b o e) ht
theorem bad_letter {v : V} {pd : PyData} {t : String} (pl : Plc H1 v pd t) (s0 : LamX.ExtN H H1) (t1 : LamX.Tabs T H1) (k : ∀ H2 t, LamX.ExtN H H2 → LamX.Tabs T H2 → H2 t = some (.tup [.str "letter", .str pd.shown]) → Q (.ref t) H2) : Bad "value" CNL (EF K CBS CMF CTM CNP CNL Q) H1 v := by
  intro H2 s2 d hd
  have s3 := s2.trans (same_upd (o := .xd [("value", v)]) hd)
  refine ⟨CNL, d, _, .str "letter", .str pd.shown, rfl, rfl, upd_same, .inr (.inr (.inr (.inr ⟨rfl, v, pd, rfl, rfl, (pl.ext (extOf s3)).dp, pl.shw, rfl⟩))), fun H4 s4 t ht => ?_⟩
  have s5 := s3.trans s4
  exact k H4 t (s0.trans (extOf s5)) (fun p hp => (t1 p hp).ext fun b o e => s5 b o e) ht
theorem bad_many (s0 : LamX.ExtN H H1) (t1 : LamX.Tabs T H1) (k : ∀ H2 t, LamX.ExtN H H2 → LamX.Tabs T H2 → H2 t = some (.tup [.str "letters", .int 24]) → Q (.ref t) H2) : BadM CTM (EF K CBS CMF CTM CNP CNL Q) H1 (.str "letters") 24 := by
  intro H2 s2 d hd
  have s3 := s2.trans (same_upd (o := .xd [("most", .int 24), ("what", .str "letters")]) hd)
  refine ⟨CTM, d, _, .str "letters", .int 24, rfl, rfl, upd_same, .inr (.inr (.inl ⟨rfl, rfl⟩)), fun H4 s4 t ht => ?_⟩
  have s5 := s3.trans s4
  exact k H4 t (s0.trans (extOf s5)) (fun p hp => (t1 p hp).ext fun b o e => s5 b o e) ht
/-- a tuple of a str and a str or an int -/
inductive TwoD (H : Hp) : V → Str × PyData → Prop
  | str {t : Addr} {a z : Str} (e : H t = some (.tup [.str a, .str z])) : TwoD H (.ref t) (a, .str z)
  | int {t : Addr} {a : Str} {i : Int} (e : H t = some (.tup [.str a, .int i])) : TwoD H (.ref t) (a, .int i)
theorem TwoD.ext {v : V} {d : Str × PyData} (s : LamX.ExtN H H') (h : TwoD H v d) : TwoD H' v d := by
  cases h with
  | str e => exact .str (s _ _ e fun ps q => by cases q)
  | int e => exact .int (s _ _ e fun ps q => by cases q)
theorem TwoD.kept {v : V} {d : Str × PyData} {a : Addr} {us : List V} (hl : H a = some (.lst us)) (k : Kept a H H') (h : TwoD H v d) : TwoD H' v d := by
  cases h with
  | str e => exact .str (k _ _ (fun z => by rw [z, hl] at e; cases e) e)
  | int e => exact .int (k _ _ (fun z => by rw [z, hl] at e; cases e) e)
def dps (ds : List (Str × PyData)) : List PyData := ds.map fun d => .tuple [.str d.1, d.2]
theorem twoD_dp : ∀ {vs : List V} {ds : List (Str × PyData)}, All2 (TwoD H) vs ds → DpAll K H vs (dps ds) := by
  intro vs ds h
  induction h with
  | nil => exact .nil
  | cons h1 _ ih =>
    refine .cons ?_ ih
    cases h1 with
    | str e => exact .tup (SqT.of e) (.cons (.str _) (.cons (.str _) .nil))
    | int e => exact .tup (SqT.of e) (.cons (.str _) (.cons (.int _) .nil))
end
theorem dps_eqv : ∀ ds : List (Str × PyData), (∀ d ∈ ds, PyData.eqv d.2 d.2 = true) → PyData.eqvAll (dps ds) (dps ds) = true
  | [], _ => rfl
  | (a, b) :: r, h => by
    show (PyData.eqv (.tuple [.str a, b]) (.tuple [.str a, b]) && PyData.eqvAll (dps r) (dps r)) = true
    rw [dps_eqv r fun d hd => h d (List.mem_cons_of_mem _ hd), Bool.and_true]
    show (a == a && (PyData.eqv b b && true)) = true
    rw [beq_self_eq_true, h (a, b) List.mem_cons_self]
    rfl
theorem dps_lay : ∀ ds : List (Str × PyData), (∀ d ∈ ds, PyData.canLay0 (.str d.1) = true ∧ PyData.canLay0 d.2 = true) → PyData.canLayAll0 (dps ds) = true
  | [], _ => rfl
  | (a, b) :: r, h => by
    show ((PyData.canLay0 (.str a) && (PyData.canLay0 b && true)) && PyData.canLayAll0 (dps r)) = true
    rw [dps_lay r (fun d hd => h d (List.mem_cons_of_mem _ hd)), (h _ List.mem_cons_self).1, (h _ List.mem_cons_self).2]
    rfl
end W17
set_option Elab.async false
set_option linter.all false
set_option maxRecDepth 100000
set_option maxHeartbeats 1000000
/-! x(lambda p=0: body): a lambda with one parameter that has a default; it is called without arguments. -/
namespace LamD
open PySem PySem.Spec PyProof.Rows L2 LamX
/-- the function: its defaults are the tuple at t -/
abbrev fnD (qual : Str) (params : Arguments) (body : Expr) (scope : Scope) (cl : List (Str × Addr)) (pm cdv ct dv : Value) : FuncData := { PySem.W.kla_fn "<lambda>" qual params body scope cl pm cdv ct with defaults := dv }
abbrev obD (qual : Str) (params : Arguments) (body : Expr) (scope : Scope) (cl : List (Str × Addr)) (pm cdv ct dv : Value) : Obj := { cls := .type "function", data := .func (fnD qual params body scope cl pm cdv ct dv) }
abbrev tupO (u : Value) : Obj := { cls := .type "tuple", data := .seq [u].toArray }
section
variable {M : Model} {A : Around} {E : Value → Shared → Prop} {s : Shared} {qual : Str} {params : Arguments} {body : Expr} {scope : Scope} {env : Env} {c P : Addr} {ps : Array Value} {pos : Pos} {mg : Str → Option Value} {clos : List (Str × Addr)} {Q : Value → Shared → Prop} {dv : Value}
/-- the function's end: its code object is new -/
theorem tail_new (hcl : closureFor scope env = pure clos) (hge0 : env.globals = mainGlobals) (hg : s.heap.Ns mainGlobals mg) (hcode : env.code = .ref c) (C : PySem.W.CodeHd s.heap c P) (hP : s.heap.get? P = some (PySem.W.tabObj ps)) (ht : TriplesOk ps.toList)
    (hnf : codeAmong pos ps.toList = none) (hgP : mainGlobals ≠ P) (hb : s.heap.BuiltinsAt mg P)
    (h : ∀ c' ctv h' tk, Heap.ExtBut P s.heap h' → s.heap.objs.size ≤ c' → c' < h'.objs.size → h'.CodeRec (.ref c') qual → h'.get? P = some (PySem.W.tabObj (ps ++ #[rawInt pos.line, rawInt pos.col, .ref c'])) →
      Q (.ref h'.objs.size) { s with heap := h'.push (obD qual params body scope clos ((mg "__name__").getD .none) (.ref c') ctv dv), toks := tk }) :
    wpAny M A (makeTail "<lambda>" qual params (.expr body) scope env dv .none none pos pos.line) Q E s := by
  obtain ⟨bm, ob, b1, b2, _, b3, b4, b5, b6, b7⟩ := hb
  -- from where the tuple of cells stands, or none
  have rest : ∀ (ctv : Value) (h0 : Heap), (∀ b o, s.heap.get? b = some o → h0.get? b = some o) → s.heap.objs.size ≤ h0.objs.size →
      wpAny M A (do
        let code ← functionCode env pos pos.line "<lambda>" qual params scope (.expr body)
        let bu ← builtinsFor mainGlobals env.builtins
        let nm ← nsGet mainGlobals "__name__"
        let dc ← (pure .none : Sem Value)
        newObj (.type "function") (.func { name := "<lambda>", qualname := qual, params := params, body := .expr body, scope := scope, globals := mainGlobals, closure := clos, closureTuple := ctv, code := code, builtins := bu, defaults := dv, kwdefaults := .none, annotations := none, pyModule := nm.getD .none, doc := dc })) Q E { s with heap := h0 } := by
    intro ctv h0 k0 z0
    have hP0 := k0 _ _ hP
    have C0 := C.keeps k0
    refine wpAny_bind (wpAny_functionCodeX hcode (C0.code hP0 ht) (C0.tab hP0) hnf fun c' h' tk hx hge hlt _ hrec htb _ => ?_)
    have hg0 : h0.Ns mainGlobals mg := by
      obtain ⟨o, es, ep, e, r⟩ := hg
      exact ⟨o, es, ep, k0 _ _ e, r⟩
    have hg' := hg0.extBut hx hgP
    refine wpAny_bind (wpAny_builtinsFor hg' b1 b2 (hx _ _ b3 (k0 _ _ b4)) b5 b6 b7 (wpAny_bind (wpAny_nsGet hg' (wpAny_bind (wpAny_pure ?_)))))
    exact wpAny_newObj_type (h c' ctv h' tk (fun b o n e => hx b o n (k0 _ _ e)) (Nat.le_trans z0 hge) hlt hrec htb.2) (by size_fits)
  unfold makeTail
  rw [hcl, hge0]
  refine wpAny_bind (wpAny_pure ?_)
  by_cases em : clos.isEmpty = true
  · simp only [em, if_true]
    exact wpAny_bind (wpAny_pure (rest .none s.heap (fun _ _ e => e) (Nat.le_refl _)))
  · simp only [em, if_false]
    exact wpAny_bind (wpAny_newTextTuple (rest _ _ (fun b o e => Heap.get?_push_of_some _ e) (by rw [Heap.size_push]; omega)))
/-- the function's end: its code object is known -/
theorem tail_hit {cv : Value} (hcl : closureFor scope env = pure clos) (hge0 : env.globals = mainGlobals) (hg : s.heap.Ns mainGlobals mg) (hcode : env.code = .ref c) (C : PySem.W.CodeHd s.heap c P) (hP : s.heap.get? P = some (PySem.W.tabObj ps)) (ht : TriplesOk ps.toList)
    (hf : codeAmong pos ps.toList = some cv) (hb : s.heap.BuiltinsAt mg P)
    (h : ∀ (ctv : Value) (h' : Heap) (tk : Tok), (∀ b o, s.heap.get? b = some o → h'.get? b = some o) → s.heap.objs.size ≤ h'.objs.size → Q (.ref h'.objs.size) { s with heap := h'.push (obD qual params body scope clos ((mg "__name__").getD .none) cv ctv dv), toks := tk }) :
    wpAny M A (makeTail "<lambda>" qual params (.expr body) scope env dv .none none pos pos.line) Q E s := by
  obtain ⟨bm, ob, b1, b2, _, b3, b4, b5, b6, b7⟩ := hb
  have rest : ∀ (ctv : Value) (h0 : Heap), (∀ b o, s.heap.get? b = some o → h0.get? b = some o) → s.heap.objs.size ≤ h0.objs.size →
      wpAny M A (do
        let code ← functionCode env pos pos.line "<lambda>" qual params scope (.expr body)
        let bu ← builtinsFor mainGlobals env.builtins
        let nm ← nsGet mainGlobals "__name__"
        let dc ← (pure .none : Sem Value)
        newObj (.type "function") (.func { name := "<lambda>", qualname := qual, params := params, body := .expr body, scope := scope, globals := mainGlobals, closure := clos, closureTuple := ctv, code := code, builtins := bu, defaults := dv, kwdefaults := .none, annotations := none, pyModule := nm.getD .none, doc := dc })) Q E { s with heap := h0 } := by
    intro ctv h0 k0 z0
    have hP0 := k0 _ _ hP
    have C0 := C.keeps k0
    have hg0 : h0.Ns mainGlobals mg := by
      obtain ⟨o, es, ep, e, r⟩ := hg
      exact ⟨o, es, ep, k0 _ _ e, r⟩
    refine wpAny_bind (wpAny_functionCode_hit hcode (C0.code hP0 ht) hf ?_)
    refine wpAny_bind (wpAny_builtinsFor hg0 b1 b2 (k0 _ _ b4) b5 b6 b7 (wpAny_bind (wpAny_nsGet hg0 (wpAny_bind (wpAny_pure ?_)))))
    exact wpAny_newObj_type (h ctv h0 s.toks k0 z0) (by size_fits)
  unfold makeTail
  rw [hcl, hge0]
  refine wpAny_bind (wpAny_pure ?_)
  by_cases em : clos.isEmpty = true
  · simp only [em, if_true]
    exact wpAny_bind (wpAny_pure (rest .none s.heap (fun _ _ e => e) (Nat.le_refl _)))
  · simp only [em, if_false]
    exact wpAny_bind (wpAny_newTextTuple (rest _ _ (fun b o e => Heap.get?_push_of_some _ e) (by rw [Heap.size_push]; omega)))
/-- the lambda's expression: its default is made, then a tuple of it, then the function -/
theorem eval_lam {d : Sem Value} (hdef : defaultsOf params env = ([d], []))
    (h : wpAny M A d (fun u s1 => wpAny M A (makeTail "<lambda>" (env.qual ++ "<lambda>") params (.expr body) scope env (.ref s1.heap.objs.size) .none none pos pos.line) Q E { s1 with heap := s1.heap.push (tupO u) }) E s) : wpAny M A (eval (.Lambda params body scope pos) env) Q E s := by
  rw [arm_eval_Lambda, hdef]
  show wpAny M A (do let dv ← evalAll [d]; let kdv ← holding dv (evalAllOpt []); makeFunction "<lambda>" (env.qual ++ "<lambda>") params (.expr body) scope env dv kdv [] pos pos.line) Q E s
  refine wpAny_bind ?_
  show wpAny M A (do let v ← d; let r ← holding [v] (evalAll []); pure (v :: r)) _ E s
  refine wpAny_bind (wpAny_mono h (fun u s1 h1 => ?_) fun _ _ z => z)
  refine wpAny_bind (wpAny_holding (wpAny_pure (wpAny_pure ?_)))
  refine wpAny_bind (wpAny_holding (wpAny_pure ?_))
  rw [makeFunction_eq]
  simp only [List.zip_nil_right, List.filterMap_nil, List.isEmpty_nil, List.isEmpty_cons, if_true, if_false, pure_bind]
  exact wpAny_bind (wpAny_newTextTuple h1)
end
section
variable {X : Cx} {pins : List (Addr × Obj)} {σ : L2.St} {H : Hp} {s : Shared}
theorem not_frame {f : Addr} {X : Cx} {pins : List (Addr × Obj)} {σ : L2.St} {H : Hp} {s : Shared} (I : Inv X pins σ H s) (hf : s.heap.objs.size ≤ f) : f ∉ frs X.stack := fun z => by
  rcases List.mem_cons.mp (I.stkSub _ z) with e | e
  · have h1 := I.lt
    rw [← e] at h1
    exact Nat.lt_irrefl _ (Nat.lt_of_lt_of_le h1 hf)
  · exact I.nofs hf e
/-- what stands when the lambda is made -/
structure Made (X : Cx) (T : List (Addr × Str)) (params : Arguments) (body : Expr) (scope : Scope) (H H1 : Hp) (s' : Shared) (f c' t : Addr) (u : Value) (pm ctv : Value) : Prop where
  ext : ExtN H H1
  tab : Tabs T H1
  fn : s'.heap.get? f = some (obD (X.env.qual ++ "<lambda>") params body scope (cloFrom X.env.cells scope.names []) pm (.ref c') ctv (.ref t))
  fnN : H1 f = none
  fnF : f ∉ frs X.stack
  tu : s'.heap.get? t = some (tupO u)
  tuN : H1 t = none
  tuF : t ∉ frs X.stack
  co : H1 c' = some (CodeO c' (X.env.qual ++ "<lambda>"))
theorem lam_makeD {T : List (Addr × Str)} {c P : Addr} {params : Arguments} {body e0 : Expr} {v0 : V} {scope : Scope} {pos : Pos} {Q : Value → Shared → Prop} (I : Inv X pins σ H s) (TB : TabB X.base X.mg c P) (hcode : X.env.code = .ref c)
    (hm : (P, X.env.qual ++ "<lambda>") ∈ T) (hu : ∀ p ∈ T, p.1 = P → p.2 = X.env.qual ++ "<lambda>") (hT : Tabs T H) (hdef : defaultsOf params X.env = ([eval e0 X.env], [])) (he : PE X e0 (tC v0)) (hfree : ∀ y ∈ scope.names, y.2 = .free → ∃ c, X.env.cells.lookup y.1 = some c)
    (h : ∀ (f c' t : Addr) (u pm ctv : Value) (H1 : Hp) (s' : Shared), Inv X pins σ H1 s' → Made X T params body scope H H1 s' f c' t u pm ctv → Q (.ref f) s') :
    wpAny (model X.prog X.w) X.A (eval (.Lambda params body scope pos) X.env) Q X.xe s := by
  refine eval_lam hdef (thn (he.run pins s σ H (fun v H1 => H1 = H) I rfl) fun u s1 ⟨v, H1, I1, r1, eH⟩ => ?_)
  subst eH
  obtain ⟨ps, hP, ht, ha⟩ := hT _ hm
  -- the tuple
  have tS : (s1.heap.push (tupO u)).get? s1.heap.objs.size = some (tupO u) := Heap.get?_push_size _ rfl
  have I2 : Inv X pins σ H1 { s1 with heap := s1.heap.push (tupO u), toks := s1.toks } := I1.kept fun b o e => Heap.get?_push_of_some _ e
  have tN : H1 s1.heap.objs.size = none := I1.hok.fresh (Nat.le_refl _)
  have tF : s1.heap.objs.size ∉ frs X.stack := not_frame I1 (Nat.le_refl _)
  have tlt : s1.heap.objs.size < (s1.heap.push (tupO u)).objs.size := by rw [Heap.size_push]; omega
  generalize s1.heap.objs.size = t at tS tN tF tlt ⊢
  show wpAny _ _ _ _ _ { s1 with heap := s1.heap.push (tupO u), toks := s1.toks }
  obtain ⟨s2, e2⟩ : ∃ s2 : Shared, s2 = { s1 with heap := s1.heap.push (tupO u), toks := s1.toks } := ⟨_, rfl⟩
  have tS2 : s2.heap.get? t = some (tupO u) := by rw [e2]; exact tS
  have tlt2 : t < s2.heap.objs.size := by rw [e2]; exact tlt
  rw [← e2] at I2 ⊢
  clear e2 tS tlt I1 I
  have bP : s2.heap.BuiltinsAt X.mg P := TB.bm.keeps I2.bk
  have hP' : s2.heap.get? P = some { cls := .none, data := .fields ps } := I2.hok P _ hP
  have tP : t ≠ P := fun z => by
    rw [z, hP'] at tS2
    have z2 : Data.fields ps = Data.seq _ _ := congrArg Obj.data (Option.some.inj tS2)
    cases z2
  cases hc : codeAmong pos ps.toList with
  | none =>
    refine tail_new (mg := X.mg) (c := c) (P := P) (ps := ps) (closure_ok hfree) I2.ok.glob (I2.mod.glob.keeps I2.bk) hcode (TB.code.keeps I2.bk) hP' ht hc TB.gP bP fun c' ctv h' tk hx hge hlt hrec htb => ?_
    obtain ⟨c2, oc, cs, tq, e2, hoc, hd, hv⟩ := hrec
    cases e2
    have hsz : s2.heap.objs.size ≤ h'.objs.size := Nat.le_trans hge (Nat.le_of_lt hlt)
    have nC : H1 c' = none := I2.hok.fresh hge
    have I3 := inv_table (t' := tk) (more := #[rawInt pos.line, rawInt pos.col, .ref c']) (h' := h'.push (obD (X.env.qual ++ "<lambda>") params body scope (cloFrom X.env.cells scope.names []) ((X.mg "__name__").getD .none) (.ref c') ctv (.ref t))) I2 hP
      (fun b o hb e => Heap.get?_push_of_some _ (hx b o hb e)) (Heap.get?_push_of_some _ htb) hge ⟨oc, cs, tq, Heap.get?_push_of_some _ hoc, hd, hv⟩
    have hE : ExtN H1 (upd (upd H1 P (.tbl (ps ++ #[rawInt pos.line, rawInt pos.col, .ref c']))) c' (CodeO c' (X.env.qual ++ "<lambda>"))) := fun b o e n => by
      rw [upd_ne (ne_of_none e nC), upd_ne (fun z => n ps (Option.some.inj (e.symm.trans (by rw [z]; exact hP))))]
      exact e
    have eL : (ps ++ #[rawInt pos.line, rawInt pos.col, .ref c']).toList = ps.toList ++ [rawInt pos.line, rawInt pos.col, .ref c'] := by simp
    have n1 : h'.objs.size ≠ c' := Nat.ne_of_gt hlt
    have n2 : h'.objs.size ≠ P := Nat.ne_of_gt (Nat.lt_of_lt_of_le (Heap.lt_size hP') hsz)
    refine h h'.objs.size c' t u ((X.mg "__name__").getD .none) ctv _ _ I3 ⟨hE, fun p hp => ?_, Heap.get?_push_size _ rfl, ?_, not_frame I2 hsz, Heap.get?_push_of_some _ (hx _ _ tP tS2), ?_, tF, upd_same⟩
    · by_cases hb : p.1 = P
      · rw [hu p hp hb, hb]
        refine ⟨_, by rw [upd_ne (ne_of_none hP nC), upd_same], by rw [eL]; exact PySem.TriplesOk_snoc _ _ _ _ ht, fun p' cv hcv => ?_⟩
        rw [eL] at hcv
        rcases among_app _ ht hcv with z | z
        · obtain ⟨c0, e1, e2⟩ := ha p' cv z
          exact ⟨c0, e1, hE _ _ e2 codeO_ne⟩
        · exact ⟨c', z, upd_same⟩
      · obtain ⟨ps', a1, a2, a3⟩ := hT p hp
        refine ⟨ps', by rw [upd_ne (ne_of_none a1 nC), upd_ne hb]; exact a1, a2, fun p' cv hcv => ?_⟩
        obtain ⟨c0, e1, e2⟩ := a3 p' cv hcv
        exact ⟨c0, e1, hE _ _ e2 codeO_ne⟩
    · rw [upd_ne n1, upd_ne n2]
      exact I2.hok.fresh hsz
    · rw [upd_ne (fun z => by rw [z] at tlt2; omega), upd_ne tP]
      exact tN
  | some cv =>
    obtain ⟨c', e, hco⟩ := ha pos cv hc
    subst e
    refine tail_hit (mg := X.mg) (c := c) (P := P) (ps := ps) (closure_ok hfree) I2.ok.glob (I2.mod.glob.keeps I2.bk) hcode (TB.code.keeps I2.bk) hP' ht hc bP fun ctv h' tk hx hsz => ?_
    have I3 : Inv X pins σ H1 { s2 with heap := h'.push (obD (X.env.qual ++ "<lambda>") params body scope (cloFrom X.env.cells scope.names []) ((X.mg "__name__").getD .none) (.ref c') ctv (.ref t)), toks := tk } := I2.kept fun b o e => Heap.get?_push_of_some _ (hx b o e)
    exact h h'.objs.size c' t u ((X.mg "__name__").getD .none) ctv H1 _ I3 ⟨ExtN.refl H1, hT, Heap.get?_push_size _ rfl, I2.hok.fresh hsz, not_frame I2 hsz, Heap.get?_push_of_some _ (hx _ _ tS2), tN, tF, hco⟩
end
/-! ### its body -/
/-- one name of its own, the parameter p1; captured ones and globals -/
structure LamS1 (sc scope : Scope) (p1 : Str) : Prop where
  kind : scope.kind = .function
  co : scope.isCoroutine = false
  gen : scope.isGenerator = false
  own : ∀ y ∈ scope.names, y.2 ≠ .cell ∧ (y.2 = .local → y.1 = p1)
  par : scope.names.lookup p1 = some .local
  free : ∀ y ∈ scope.names, y.2 = .free → sc.names.lookup y.1 = some .cell ∨ sc.names.lookup y.1 = some .free
def lamS1B (sc scope : Scope) (p1 : Str) : Bool :=
  decide (scope.kind = .function) && (!scope.isCoroutine && (!scope.isGenerator && (decide (scope.names.lookup p1 = some .local) && scope.names.all fun y => !decide (y.2 = .cell) && ((!decide (y.2 = .local) || decide (y.1 = p1)) && (!decide (y.2 = .free) || decide (sc.names.lookup y.1 = some .cell) || decide (sc.names.lookup y.1 = some .free))))))
theorem lamS1_by {sc scope : Scope} {p1 : Str} (h : lamS1B sc scope p1 = true) : LamS1 sc scope p1 := by
  unfold lamS1B at h
  simp only [Bool.and_eq_true, Bool.or_eq_true, Bool.not_eq_true', decide_eq_true_eq, decide_eq_false_iff_not, List.all_eq_true] at h
  obtain ⟨h1, h2, h3, h4, h5⟩ := h
  refine ⟨h1, h2, h3, fun y hy => ⟨(h5 y hy).1, fun e => ?_⟩, h4, fun y hy e => ?_⟩
  · rcases (h5 y hy).2.1 with z | z
    · exact absurd e z
    · exact z
  · rcases (h5 y hy).2.2 with (z | z) | z
    · exact absurd e z
    · exact .inl z
    · exact .inr z
section
variable {X : Cx} {pins : List (Addr × Obj)} {σ : L2.St} {H HZ : Hp} {s s1 : Shared}
theorem LamS1.has {scope : Scope} {p1 : Str} (L : LamS1 X.env.scope scope p1) (ok : X.Ok) : ∀ y ∈ scope.names, y.2 = .free → ∃ c, X.env.cells.lookup y.1 = some c := fun y hy e => by
  rcases L.free y hy e with k | k
  · exact ok.has _ (.inl k)
  · exact ok.has _ (.inr k)
theorem startD {A : Around} {outer : List Env} {E : XK} {scope : Scope} {p1 : Str} {u : Value} {f c' : Addr} {h₁ : Heap} {tk : Nat} (I : Inv X pins σ H s) (L : LamS1 X.env.scope scope p1) (new : p1 ∉ X.N) (e0 : Env0 X.prog X.w X.K X.mg X.base A outer s1 HZ) (hd : A.handled = none)
    (un : Un (frs X.stack) [] H HZ s.heap s1.heap) (hns : h₁.Ns s1.heap.objs.size fun y => [(p1, u)].reverse.lookup y) (kp : ∀ b o, s1.heap.get? b = some o → h₁.get? b = some o) :
    Inv (lamCx X A outer s1 HZ E scope f c') [] σ HZ { s1 with heap := h₁, toks := tk } := by
  have hfree := L.has I.ok
  have mem : ∀ {y : Str} {k : NameKind}, scope.names.lookup y = some k → (y, k) ∈ scope.names := fun e => PySem.mem_of_lookup e
  have cm : ∀ {y c}, (cloFrom X.env.cells scope.names []).lookup y = some c → X.env.cells.lookup y = some c := fun {y c} e => by
    rcases cloFrom_mem (PySem.mem_of_lookup e) with hm | ⟨h1, h2⟩
    · cases hm
    · obtain ⟨c1, hc⟩ := hfree _ h1 rfl
      have hc : X.env.cells.lookup y = some c1 := hc
      rw [show c = c1 by rw [h2, hc] <;> rfl]
      exact hc
  have look : ∀ {y}, scope.names.lookup y = some .free → ∃ c, (cloFrom X.env.cells scope.names []).lookup y = some c := fun {y} hl => mem_lookup (cloFrom_has (cells := X.env.cells) (acc := []) (mem hl))
  have cellK : ∀ {c : Addr} {v : Option Value}, H c = none → s.heap.IsCell c v → h₁.IsCell c v := fun {c v} n ⟨o, ho, hd⟩ => by
    obtain ⟨sl, q⟩ := un.any ho n (by simp)
    exact ⟨_, kp _ _ q, hd⟩
  have noA : ∀ b : Addr, b ∉ (lamCx X A outer s1 HZ E scope f c').ex := fun b z => absurd (show b ∈ ([] : List Addr) from z) (by simp)
  refine ⟨⟨e0.mod, L.kind, rfl, rfl, Nat.le_refl _, fun y z c e1 e2 => I.ok.inj y z c (cm e1) (cm e2), fun y hy => ?_, fun y c z _ => ?_, fun _ => hd, Around.frames_deeper e0.frames, .inr ⟨rfl, rfl⟩, fun b z => absurd z (noA b), e0.bs, e0.bsz, fun b _ _ => noA b,
      fun b z => absurd z (noA b), e0.funs, e0.frf⟩,
    rfl, e0.bare, Un.kept kp, ⟨_, hns, fun i y v e1 e2 e3 => ?_⟩, fun y c e => ?_, e0.hok.fresh (Nat.le_refl _), fun y c e => ?_, fun q hq => absurd (show q ∈ ([] : List (Addr × Obj)) ++ [] from hq) (by simp), e0.hok.kept kp, I.len⟩
  · have hy : scope.names.lookup y = some .cell ∨ scope.names.lookup y = some .free := hy
    rcases hy with hy | hy
    · exact absurd rfl (L.own _ (mem hy)).1
    · exact look hy
  · have z : false = true := z
    cases z
  · have e3 : Vis scope y := e3
    have hN : y ∈ X.N := List.mem_of_getElem? e1
    rcases e3 with k | k | k
    · have e4 : y = p1 := (L.own _ (mem k)).2 rfl
      exact absurd (by rw [← e4]; exact hN) new
    · exact absurd rfl (L.own _ (mem k)).1
    · obtain ⟨m, hn, hl⟩ := I.loc
      have hvis : Vis X.env.scope y := (L.free _ (mem k) rfl).elim (fun k => .inr (.inl k)) (fun k => .inr (.inr k))
      obtain ⟨w', r, q⟩ := hl i y v e1 e2 hvis
      obtain ⟨c2, h2⟩ := look k
      refine ⟨w', r, .inr ⟨.inr k, c2, h2, ?_⟩⟩
      have c1 := cm h2
      rcases q with ⟨k', _⟩ | ⟨_, c3, e', z⟩
      · have k' : X.env.scope.names.lookup y = some .local := k'
        rcases L.free _ (mem k) rfl with k2 | k2 <;> rw [show X.env.scope.names.lookup y = _ from k2] at k' <;> cases k'
      · rw [c1] at e'
        cases e'
        exact cellK (I.freeC y _ c1) z
  · obtain ⟨w', z⟩ := I.cell y c (cm e)
    exact ⟨w', cellK (I.freeC y c (cm e)) z⟩
  · obtain ⟨v, o, ho, hd⟩ := I.cell y c (cm e)
    exact un.free c o ho (I.freeC y c (cm e)) (by simp)
/-- what the call without arguments binds: the default -/
abbrev BindD (params : Arguments) (body : Expr) (scope : Scope) (p1 : Str) : Prop := ∀ (q : Str) (cl : List (Str × Addr)) (pm cv ctv u : Value) (t : Addr), ∃ k, bindArgs (fnD q params body scope cl pm cv ctv (.ref t)) ⟨[], []⟩ = (seqItems? (.ref t) >>= k) ∧ k (some [u].toArray) = pure [(p1, u)]
/-- x(), in the def that got the lambda -/
theorem pe_actD {CXg : CXT} {Eg : XK} {Ng : List Str} {qg : Str} {sg : Scope} {g f c' t : Addr} {u cdg pm ctv : Value} {params : Arguments} {body : Expr} {scope : Scope} {p1 : Str} {k i : Nat} {a : Str} {pn : List (Addr × Obj)} {xe : Value → Shared → Prop} {W : WX} {E : XK} {tb : TE} {T : List (Addr × Str)} {H0 : Hp} {q1 q2 : Pos}
    (I : Inv X pins σ H s) (L : LamS1 X.env.scope scope p1) (new : p1 ∉ X.N) (D : Made X T params body scope H0 H s f c' t u pm ctv) (hbind : BindD params body scope p1)
    (tk : Takes ((cxOf CXg X.prog X.w X.K X.mg X.base Ng qg sg g cdg X.A X.stack s H Eg).tr pn xe) W) (hW : ∀ cls d σ' H', E cls d H' → W cls d σ' H') (hr : Room (k + 1) (X.A.deeper (envOfC qg sg s.heap.objs.size g cdg)))
    (hbody : ∀ (A : Around) (outer : List Env) (s : Shared) (H : Hp), Room k (A.deeper (lamEnv X scope s.heap.objs.size f c')) → PE (lamCx X A outer s H E scope f c') body tb)
    (hN : Ng[i]? = some a) (hv : Vis sg a) (hd : (a == ("__debug__" : Str)) = false := by decide) (hcd : (a == ("__classdict__" : Str)) = false := by decide) :
    PE ((cxOf CXg X.prog X.w X.K X.mg X.base Ng qg sg g cdg X.A X.stack s H Eg).tr pn xe) (.Call (.Name a q1) [] [] q2)
      (fun σZ HZ Q => σZ[i]? = some (some (.ref f)) ∧ HZ c' = some (CodeO c' (X.env.qual ++ "<lambda>")) ∧ tb σ HZ Q) := by
  refine ⟨fun pinsZ sZ σZ HZ Q IZ h => ?_⟩
  obtain ⟨hs, hc, ht⟩ := h
  refine wpAny_Call_Name_kw (thn ((pe_var (pos := q1) (i := i) hN hv hd hcd).run pinsZ sZ σZ HZ (fun v H1 => v = .ref f ∧ H1 = HZ) IZ ⟨.ref f, hs, rfl, rfl⟩) fun w1 s1 ⟨v, H1, I1, r1, ev, eH⟩ => ?_)
  subst ev eH
  obtain rfl : w1 = Value.ref f := r1
  have no : ∀ b : Addr, b ∉ ([] : List Addr) := fun b z => nomatch z
  have of1 := I1.base.keep f _ D.fn D.fnN D.fnF (no _)
  have ot1 := I1.base.keep t _ D.tu D.tuN D.tuF (no _)
  refine PySem.W.callWith_F0 ⟨_, _, _, _, of1⟩ ?_
  have un : Un (frs X.stack) [] H H1 s.heap s1.heap := I1.base
  obtain ⟨⟨oc, cs, tt, hoc, hdc, hvc⟩, _, _⟩ := I1.hok c' _ hc
  have rc : codeAny (model X.prog X.w) (X.A.deeper (envOfC qg sg s.heap.objs.size g cdg)) (.call (.ref f) ⟨[], []⟩) (CR (L2.CX X.prog X.w) (envOfC qg sg s.heap.objs.size g cdg :: X.stack) X.prog X.w H1 s1 Q E) s1 := by
    refine PySem.W.kla_callFunE hr.depth of1 rfl L.co L.gen rfl ⟨c', oc, cs, tt, rfl, hoc, hdc, hvc⟩ ?_
    obtain ⟨kk, hb1, hb2⟩ := hbind (X.env.qual ++ "<lambda>") (cloFrom X.env.cells scope.names []) pm (.ref c') ctv u t
    rw [hb1]
    refine wpAny_bind (wpAny_seqItems ot1 rfl ?_)
    rw [hb2]
    refine wpAny_pure (wpAny_newFunctionEnv (fun y hy => (L.own y hy).1) (fun y hy => by rw [List.mem_singleton.mp hy]; exact L.par) (fun h₁ hns hsb => ⟨I1.nolimit.fresh _ hsb, ?_⟩) L.kind)
    show codeAny _ _ (.expr body (lamEnv X scope s1.heap.objs.size f c')) _ _
    have kp : ∀ b o, s1.heap.get? b = some o → h₁.get? b = some o := fun b o e => hsb.extBut b o (Nat.ne_of_lt (Heap.lt_size e)) (Heap.get?_push_of_some _ e)
    have J := startD (f := f) (c' := c') (E := E) (tk := s1.toks + [(p1, u)].length) I L new I1.env0 hr.hd un hns kp
    refine PySem.W.kla_codeExpr (wpAny_mono ((hbody _ _ s1 H1 (hr.deeper _)).run [] _ _ H1 Q J ht) (fun v s' hq => ?_) fun e s' hq => hq)
    obtain ⟨w', H', J', rv, q⟩ := hq
    exact ⟨w', H', J'.os, J'.bare, J'.base, J'.hok, rv, q⟩
  have hx : Passes (L2.CX X.prog X.w) ((cxOf CXg X.prog X.w X.K X.mg X.base Ng qg sg g cdg X.A X.stack s H Eg).tr pn xe) E := passes_call tk hW
  refine wpAny_call (codeAny_mono rc fun r s' hq => ?_)
  match r, hq with
  | .error e, hq => exact hx pinsZ σZ H1 s1 e s' I1 hq
  | .ok (.ret z), hq => exact I1.after hq
/-- x(lambda p1=e0: body) -/
theorem pe_lamcallD {T : List (Addr × Str)} {TT : (XK → Hp → VK → Prop) → Hp → VK → Prop} {x a p1 : Str} {g c P : Addr} {k : Nat} {pg : Arguments} {bg : List Stmt} {sg : Scope} {dV kV doc pm cdv ct oc : Value} {an od : Option Addr} {osl : Array (Option Value)} {Ng : List Str}
    {params : Arguments} {body e0 : Expr} {v0 : V} {scope : Scope} {t : XK → TE} {p lpos pos : Pos} (hg : Gl X x) (hm : X.mg x = some (.ref g)) (hk : PySem.W.keepIn X.K (.ref g) = true)
    (lk : X.K.lookup g = some ⟨oc, od, .func (PySem.W.fnOf x x pg bg sg dV kV doc pm an cdv ct), osl⟩) (hcg : PySem.W.codeIn X.K cdv x = true) (hb : L2.Binds X.K (PySem.W.fnOf x x pg bg sg dV kV doc pm an cdv ct) [a] []) (Sg : FnScope Ng [a] sg) (hNg : Ng[0]? = some a) (hva : Vis sg a)
    (hG : GivesTo X Ng x sg g cdv bg a (X.env.qual ++ "<lambda>") TT)
    (TB : TabB X.base X.mg c P) (hcode : X.env.code = .ref c) (hmT : (P, X.env.qual ++ "<lambda>") ∈ T) (hu : ∀ p ∈ T, p.1 = P → p.2 = X.env.qual ++ "<lambda>") (hr : Room (k + 2) X.A) (L : LamS1 X.env.scope scope p1) (new : p1 ∉ X.N) (hdef : defaultsOf params X.env = ([eval e0 X.env], [])) (he : PE X e0 (tC v0))
    (hbind : BindD params body scope p1)
    (hbody : ∀ (A : Around) (outer : List Env) (s : Shared) (H : Hp) (E : XK) (f c' : Addr), Room k (A.deeper (lamEnv X scope s.heap.objs.size f c')) → PE (lamCx X A outer s H E scope f c') body (t E))
    (hdb : (x == ("__debug__" : Str)) = false := by decide) (hd : (a == ("__debug__" : Str)) = false := by decide) (hcd : (a == ("__classdict__" : Str)) = false := by decide) :
    PE X (.Call (.Name x p) [.Lambda params body scope lpos] [] pos) (tLam T TT t) := by
  refine ⟨fun pins s σ H Q I h => ?_⟩
  obtain ⟨hT, h⟩ := h
  refine wpAny_Call_Name_kw (ld_glob I hg hm (PySem.W.callWith_K (h₀ := X.base) I.ok.mod.kin hk ?_ (by rfl) (by rfl)) hdb)
  refine Calls.spliced_cons (lam_makeD I TB hcode hmT hu hT hdef he (L.has I.ok) fun f c' tt u pm' ctv H1 s' I1 D => Calls.spliced_nil ⟨I1.kIn, ?_⟩)
  have rc : codeAny (model X.prog X.w) X.A (.call (.ref g) ⟨[.ref f], []⟩) (CR C8.CX0 X.stack X.prog X.w H1 s' Q C8.E0) s' := by
    refine run_ofS (N := Ng) (ps := [a]) (us := [.ref f]) (vs := [.ref f]) lk hcg Sg hr I1.env0 (hb s' [.ref f] I1.kIn rfl) (.cons rfl .nil) rfl fun hr' => ?_
    obtain ⟨t', ht', hq'⟩ := hG f c' s' H1 Q (fun E H' Q' => t E σ H' Q') (fun W pn xe E p1 p2 tk hW => pe_actD (i := 0) I1 L new D hbind tk hW hr' (fun A outer s H hr2 => hbody A outer s H E f c' hr2) hNg hva hd hcd) D.co (h H1 D.ext D.tab)
    exact ⟨t', ht'.nox, hq'⟩
  refine wpAny_call (codeAny_mono rc fun r s2 hq => ?_)
  match r, hq with
  | .error e, hq => exact (show False from hq).elim
  | .ok (.ret z), hq => exact I1.after hq
end
end LamD
set_option Elab.async false
set_option linter.all false
set_option maxRecDepth 100000
set_option maxHeartbeats 1000000
namespace W17
open PySem L2 PySem.Spec PyProof.Rows WR WB WE WS
/-! ### sewings written out -/
def Wf : List (List Int) := [List.replicate 12 7, List.replicate 12 (-7)]
def Mf : List Int := nats ((List.range 12).map (12 + ·) ++ List.range 12)
def Wp : List (List Int) := [[1, -1], [2], [-2]]
def Mp : List Int := [1, 0, 3, 2]
def Wt : List (List Int) := [[3, -3], [-3, 3]]
def Mt : List Int := [2, 3, 0, 1]
theorem rimF : RimOk Wf := by
  unfold RimOk Lts
  decide +kernel
theorem rimP : RimOk Wp := by
  unfold RimOk Lts
  decide +kernel
theorem rimT : RimOk Wt := by
  unfold RimOk Lts
  decide +kernel
theorem mateF : MatOk Wf.flatten Mf := by
  unfold MatOk PairOk MatesOk
  decide +kernel
theorem mateP : MatOk Wp.flatten Mp := by
  unfold MatOk PairOk MatesOk
  decide +kernel
theorem mateT : MatOk Wt.flatten Mt := by
  unfold MatOk PairOk MatesOk
  decide +kernel
section
variable {K : PySem.W.Frag} {C CR CS : Addr} {σ : L2.St} {H : Hp} {Q : VK}
theorem mk_full (k : ∀ f rf xf H', Same H H' → SewAt K C CR CS H' f rf xf Wf Mf → Q (.ref f) H') :
    tMake CS (spInitS K C CR CS) [] E0 (tCons (tCall (spLRims K C CR) [] E0 (tCons (tLst (tCons (tOp rRep (tLst (tCons (tC (V.int 7)) tNil)) (tC (V.int 12))) (tCons (tOp rRep (tLst (tCons (tUn (rU fun i => V.int (-i)) (tC (V.int 7))) tNil)) (tC (V.int 12))) tNil))) tNil)) (tCons (tOp rCat (tLstRg (tRg2 (tC (V.int 12)) (tC (V.int 24)))) (tLstRg (tRg1 (tC (V.int 12))))) tNil)) σ H Q := by
  refine ⟨by show 1 ≤ sizeLine; decide, fun l1 hl1 => ⟨l1, 12, _, rfl, rfl, upd_same, by decide, by decide, by show 1 * 12 ≤ sizeLine; decide, fun r1 hr1 => ?_⟩⟩
  have s1 := (same_upd (o := .lst [.int 7]) hl1).trans (same_upd (o := .lst (iv (List.replicate 12 7))) hr1)
  have g1 : L2.upd (L2.upd H l1 (.lst [.int 7])) r1 (.lst (iv (List.replicate 12 7))) r1 = some (.lst (iv (List.replicate 12 7))) := upd_same
  have e1 : (List.replicate (Int.toNat 12) [V.int 7]).flatten = iv (List.replicate 12 7) := rfl
  rw [e1]
  generalize L2.upd (L2.upd H l1 (.lst [.int 7])) r1 (.lst (iv (List.replicate 12 7))) = H1 at s1 g1 ⊢
  refine ⟨_, rfl, by show 1 ≤ sizeLine; decide, fun l2 hl2 => ⟨l2, 12, _, rfl, rfl, upd_same, by decide, by decide, by show 1 * 12 ≤ sizeLine; decide, fun r2 hr2 => ?_⟩⟩
  have e2 : (List.replicate (Int.toNat 12) [(fun i => V.int (-i)) 7]).flatten = iv (List.replicate 12 (-7)) := rfl
  rw [e2]
  have s2 := (same_upd (o := .lst [(fun i => V.int (-i)) 7]) hl2).trans (same_upd (o := .lst (iv (List.replicate 12 (-7)))) hr2)
  have g2 : L2.upd (L2.upd H1 l2 (.lst [(fun i => V.int (-i)) 7])) r2 (.lst (iv (List.replicate 12 (-7)))) r2 = some (.lst (iv (List.replicate 12 (-7)))) := upd_same
  generalize L2.upd (L2.upd H1 l2 (.lst [(fun i => V.int (-i)) 7])) r2 (.lst (iv (List.replicate 12 (-7)))) = H2 at s2 g2 ⊢
  refine ⟨by show 2 ≤ sizeLine; decide, fun O hO => ?_⟩
  have s3 := same_upd (o := .lst [.ref r1, .ref r2]) hO
  refine ⟨O, _, Wf, rfl, upd_same, .cons ⟨r1, rfl, s3 _ _ (s2 _ _ g1)⟩ (.cons ⟨r2, rfl, s3 _ _ g2⟩ .nil), rimF, fun rp H4 xs s4 R4 => ?_⟩
  have s04 := ((s1.trans s2).trans s3).trans s4
  refine ⟨_, _, rfl, rfl, ⟨by decide, by decide, by decide⟩, fun q1 hq1 => ?_⟩
  have s5 := same_upd (o := .lst (rgV 12 24)) hq1
  have g5 : L2.upd H4 q1 (.lst (rgV 12 24)) q1 = some (.lst (rgV 12 24)) := upd_same
  generalize L2.upd H4 q1 (.lst (rgV 12 24)) = H5 at s5 g5 ⊢
  refine ⟨_, rfl, ⟨by decide, by decide, by decide⟩, fun q2 hq2 => ?_⟩
  have s6 := same_upd (o := .lst (rgV 0 12)) hq2
  refine ⟨q1, q2, _, _, rfl, rfl, s6 _ _ g5, upd_same, by decide +kernel, fun m hm => ?_⟩
  have s7 := same_upd (o := .lst (rgV 12 24 ++ rgV 0 12)) hm
  have g7 : L2.upd (L2.upd H5 q2 (.lst (rgV 0 12))) m (.lst (rgV 12 24 ++ rgV 0 12)) m = some (.lst (iv Mf)) := by
    rw [upd_same]
    rfl
  generalize L2.upd (L2.upd H5 q2 (.lst (rgV 0 12))) m (.lst (rgV 12 24 ++ rgV 0 12)) = H7 at s7 g7 ⊢
  intro x dx nx ndx _
  have s57 := (s5.trans s6).trans s7
  refine sew_at nx ndx (R4.same s57) rimF (.inl (SqL.of g7)) mateF fun H8 s8 S8 => k x rp xs H8 ((s04.trans s57).trans s8) S8
theorem mk_pair (k : ∀ f rf xf H', Same H H' → SewAt K C CR CS H' f rf xf Wp Mp → Q (.ref f) H') :
    tMake CS (spInitS K C CR CS) [] E0 (tCons (tCall (spLRims K C CR) [] E0 (tCons (tLst (tCons (tLst (tCons (tC (V.int 1)) (tCons (tUn (rU fun i => V.int (-i)) (tC (V.int 1))) tNil))) (tCons (tLst (tCons (tC (V.int 2)) tNil)) (tCons (tLst (tCons (tUn (rU fun i => V.int (-i)) (tC (V.int 2))) tNil)) tNil)))) tNil)) (tCons (tLst (tCons (tC (V.int 1)) (tCons (tC (V.int 0)) (tCons (tC (V.int 3)) (tCons (tC (V.int 2)) tNil))))) tNil)) σ H Q := by
  refine ⟨_, rfl, by show 2 ≤ sizeLine; decide, fun l1 hl1 => ?_⟩
  have s1 := same_upd (o := .lst [.int 1, .int (-1)]) hl1
  have g1 : L2.upd H l1 (.lst [.int 1, .int (-1)]) l1 = some (.lst [.int 1, .int (-1)]) := upd_same
  obtain ⟨H1, e1⟩ : ∃ H1, H1 = L2.upd H l1 (.lst [.int 1, .int (-1)]) := ⟨_, rfl⟩
  rw [← e1] at s1 g1 ⊢
  refine ⟨by show 1 ≤ sizeLine; decide, fun l2 hl2 => ?_⟩
  have s2 := same_upd (o := .lst [.int 2]) hl2
  have g2 : L2.upd H1 l2 (.lst [.int 2]) l2 = some (.lst [.int 2]) := upd_same
  obtain ⟨H2, e2⟩ : ∃ H2, H2 = L2.upd H1 l2 (.lst [.int 2]) := ⟨_, rfl⟩
  rw [← e2] at s2 g2 ⊢
  refine ⟨_, rfl, by show 1 ≤ sizeLine; decide, fun l3 hl3 => ?_⟩
  have s3 := same_upd (o := .lst [.int (-2)]) hl3
  have g3 : L2.upd H2 l3 (.lst [.int (-2)]) l3 = some (.lst [.int (-2)]) := upd_same
  obtain ⟨H3, e3⟩ : ∃ H3, H3 = L2.upd H2 l3 (.lst [.int (-2)]) := ⟨_, rfl⟩
  rw [← e3] at s3 g3 ⊢
  refine ⟨by show 3 ≤ sizeLine; decide, fun O hO => ?_⟩
  have s4 := same_upd (o := .lst [.ref l1, .ref l2, .ref l3]) hO
  refine ⟨O, _, Wp, rfl, upd_same, .cons ⟨l1, rfl, s4 _ _ (s3 _ _ (s2 _ _ g1))⟩ (.cons ⟨l2, rfl, s4 _ _ (s3 _ _ g2)⟩ (.cons ⟨l3, rfl, s4 _ _ g3⟩ .nil)), rimP, fun rp H5 xs s5 R5 => ?_⟩
  refine ⟨by show 4 ≤ sizeLine; decide, fun m hm => ?_⟩
  have s6 := same_upd (o := .lst (iv Mp)) hm
  have s06 := ((((s1.trans s2).trans s3).trans s4).trans s5).trans s6
  intro x dx nx ndx _
  exact sew_at nx ndx (R5.same s6) rimP (.inl (SqL.of upd_same)) mateP fun H8 s8 S8 => k x rp xs H8 (s06.trans s8) S8
theorem mk_two (k : ∀ f rf xf H', Same H H' → SewAt K C CR CS H' f rf xf Wt Mt → Q (.ref f) H') :
    tMake CS (spInitS K C CR CS) [] E0 (tCons (tCall (spLRims K C CR) [] E0 (tCons (tLst (tCons (tLst (tCons (tC (V.int 3)) (tCons (tUn (rU fun i => V.int (-i)) (tC (V.int 3))) tNil))) (tCons (tLst (tCons (tUn (rU fun i => V.int (-i)) (tC (V.int 3))) (tCons (tC (V.int 3)) tNil))) tNil))) tNil)) (tCons (tLst (tCons (tC (V.int 2)) (tCons (tC (V.int 3)) (tCons (tC (V.int 0)) (tCons (tC (V.int 1)) tNil))))) tNil)) σ H Q := by
  refine ⟨_, rfl, by show 2 ≤ sizeLine; decide, fun l1 hl1 => ?_⟩
  have s1 := same_upd (o := .lst [.int 3, .int (-3)]) hl1
  have g1 : L2.upd H l1 (.lst [.int 3, .int (-3)]) l1 = some (.lst [.int 3, .int (-3)]) := upd_same
  obtain ⟨H1, e1⟩ : ∃ H1, H1 = L2.upd H l1 (.lst [.int 3, .int (-3)]) := ⟨_, rfl⟩
  rw [← e1] at s1 g1 ⊢
  refine ⟨_, rfl, by show 2 ≤ sizeLine; decide, fun l2 hl2 => ?_⟩
  have s2 := same_upd (o := .lst [.int (-3), .int 3]) hl2
  have g2 : L2.upd H1 l2 (.lst [.int (-3), .int 3]) l2 = some (.lst [.int (-3), .int 3]) := upd_same
  obtain ⟨H2, e2⟩ : ∃ H2, H2 = L2.upd H1 l2 (.lst [.int (-3), .int 3]) := ⟨_, rfl⟩
  rw [← e2] at s2 g2 ⊢
  refine ⟨by show 2 ≤ sizeLine; decide, fun O hO => ?_⟩
  have s4 := same_upd (o := .lst [.ref l1, .ref l2]) hO
  refine ⟨O, _, Wt, rfl, upd_same, .cons ⟨l1, rfl, s4 _ _ (s2 _ _ g1)⟩ (.cons ⟨l2, rfl, s4 _ _ g2⟩ .nil), rimT, fun rp H5 xs s5 R5 => ?_⟩
  refine ⟨by show 4 ≤ sizeLine; decide, fun m hm => ?_⟩
  have s6 := same_upd (o := .lst (iv Mt)) hm
  have s06 := (((s1.trans s2).trans s4).trans s5).trans s6
  intro x dx nx ndx _
  exact sew_at nx ndx (R5.same s6) rimT (.inl (SqL.of upd_same)) mateT fun H8 s8 S8 => k x rp xs H8 (s06.trans s8) S8
end
theorem call_cons {sp : Sp} {E : XK} {te : TE} {tr : TA} {σ : L2.St} {H : Hp} {Q : VK} (h : te σ H fun x H1 => tr σ H1 fun xs H2 => sp (x :: xs ++ []) H2 Q E) : tCall sp [] E (tCons te tr) σ H Q := h
theorem st_is {f : TS} {D : Ends} {σ σ2 : L2.St} {H : Hp} (e : σ = σ2) (h : f D σ2 H) : f D σ H := e ▸ h
/-! ### places of these -/
theorem plF11 : Wf.flatten.getD 11 0 ≠ -Wf.flatten.getD (nxN Wf 11) 0 := by decide +kernel
theorem plP2 : Wp.flatten.getD 2 0 ≠ -Wp.flatten.getD (nxN Wp 2) 0 := by decide +kernel
theorem plP0 : ∀ z, z < 2 → Wp.flatten.getD z 0 = -Wp.flatten.getD (nxN Wp z) 0 ∧ (Wp.getD (home Wp z) []).length = 2 := by decide +kernel
theorem plT1 : Wt.flatten.getD 1 0 = -Wt.flatten.getD (nxN Wt 1) 0 ∧ (Wt.getD (home Wt 1) []).length = 2 := by decide +kernel
theorem lenF : Wf.flatten.length = 24 := by decide +kernel
theorem lenP : Wp.flatten.length = 4 := by decide +kernel
theorem lenT : Wt.flatten.length = 4 := by decide +kernel
/-! ### what stands while calls are heard -/
def SewX (K : PySem.W.Frag) (C CR CS : Addr) (H : Hp) (p : Addr) (ws : List (List Int)) (mt : List Int) : Prop := ∃ rp xs, SewAt K C CR CS H p rp xs ws mt
structure RS (K : PySem.W.Frag) (C CR CS : Addr) (T : List (Addr × Str)) (a c m s f q : Addr) (n : Nat) (ws : List (List Int)) (mt : List Int) (nv : V) (nd : PyData) (nt : String) (nv2 : V) (nd2 : PyData) (nt2 : String) (lv : V) (ld : PyData) (lt : String) (H : Hp) : Prop where
  hand : HandAt H a c n
  mm : H m = some (.lst (iv mt))
  sw : SewX K C CR CS H s ws mt
  fl : SewX K C CR CS H f Wf Mf
  pr : SewX K C CR CS H q Wp Mp
  nP : Plc H nv nd nt
  n2P : Plc H nv2 nd2 nt2
  lP : Plc H lv ld lt
  tab : LamX.Tabs T H
def HL (H : Hp) (hl : Addr) (ds : List (Str × PyData)) : Prop := ∃ us, H hl = some (.lst us) ∧ All2 (TwoD H) us ds
section
variable {K : PySem.W.Frag} {C CR CS : Addr} {T : List (Addr × Str)} {a c m s f q : Addr} {n : Nat} {ws : List (List Int)} {mt : List Int} {nv : V} {nd : PyData} {nt : String} {nv2 : V} {nd2 : PyData} {nt2 : String} {lv : V} {ld : PyData} {lt : String} {H H' : Hp} {p : Addr}
theorem SewX.ext (h : SewX K C CR CS H p ws mt) (x : LamX.ExtN H H') : SewX K C CR CS H' p ws mt := by
  obtain ⟨rp, xs, r⟩ := h
  exact ⟨rp, xs, SewAt.extN x r⟩
theorem SewX.kept (h : SewX K C CR CS H p ws mt) (hH : HandAt H a c n) (k : Kept a H H') : SewX K C CR CS H' p ws mt := by
  obtain ⟨rp, xs, r⟩ := h
  exact ⟨rp, xs, r.kept hH.lst.choose_spec k⟩
theorem RS.ext (r : RS K C CR CS T a c m s f q n ws mt nv nd nt nv2 nd2 nt2 lv ld lt H) (x : LamX.ExtN H H') (t : LamX.Tabs T H') : RS K C CR CS T a c m s f q n ws mt nv nd nt nv2 nd2 nt2 lv ld lt H' :=
  ⟨r.hand.ext x, x _ _ r.mm (fun ps z => by cases z), r.sw.ext x, r.fl.ext x, r.pr.ext x, r.nP.ext x, r.n2P.ext x, r.lP.ext x, t⟩
theorem RS.same (r : RS K C CR CS T a c m s f q n ws mt nv nd nt nv2 nd2 nt2 lv ld lt H) (x : Same H H') : RS K C CR CS T a c m s f q n ws mt nv nd nt nv2 nd2 nt2 lv ld lt H' := r.ext (extOf x) (r.tab.ext x)
theorem RS.drew {n2 : Nat} (r : RS K C CR CS T a c m s f q n ws mt nv nd nt nv2 nd2 nt2 lv ld lt H) (h2 : HandAt H' a c n2) (k : Kept a H H') : RS K C CR CS T a c m s f q n2 ws mt nv nd nt nv2 nd2 nt2 lv ld lt H' :=
  ⟨h2, k _ _ (r.hand.ne_iv r.mm) r.mm, r.sw.kept r.hand k, r.fl.kept r.hand k, r.pr.kept r.hand k, r.nP.kept r.hand k, r.n2P.kept r.hand k, r.lP.kept r.hand k, tabs_kept r.hand k r.tab⟩
theorem HL.ext {hl : Addr} {ds : List (Str × PyData)} (h : HL H hl ds) (x : LamX.ExtN H H') : HL H' hl ds := by
  obtain ⟨us, g, r⟩ := h
  exact ⟨us, x _ _ g (fun ps z => by cases z), r.imp fun _ _ h => h.ext x⟩
theorem HL.kept {hl : Addr} {ds : List (Str × PyData)} (h : HL H hl ds) (hH : HandAt H a c n) (k : Kept a H H') (ne : hl ≠ a) : HL H' hl ds := by
  obtain ⟨us, g, r⟩ := h
  exact ⟨us, k _ _ ne g, r.imp fun _ _ h => h.kept hH.lst.choose_spec k⟩
theorem HL.dp {hl : Addr} {ds : List (Str × PyData)} (h : HL H hl ds) : Dp K H (.ref hl) (.list (dps ds)) := by
  obtain ⟨us, g, r⟩ := h
  exact .lst (SqL.of g) (twoD_dp r)
/-- two more are heard -/
theorem HL.cat {hl : Addr} {ds : List (Str × PyData)} {x y : V} {dx dy : Str × PyData} {Q : VK} (h : HL H hl ds) (hl4 : ds.length ≤ 40) {b : Addr} (hb : H b = some (.lst [x, y])) (tx : TwoD H x dx) (ty : TwoD H y dy) (k : ∀ r H', H r = none → Same H H' → HL H' r (ds ++ [dx, dy]) → Q (.ref r) H') : rCat (.ref hl) (.ref b) H Q := by
  obtain ⟨us, g, r⟩ := h
  refine ⟨hl, b, us, _, rfl, rfl, g, hb, Evl.sz_of (by rw [r.length]; show _ + 2 ≤ _; omega), fun p hp => ?_⟩
  have sp := same_upd (o := .lst (us ++ [x, y])) hp
  exact k p _ hp sp ⟨_, upd_same, All2.app (r.imp fun _ _ h => h.ext (extOf sp)) (.cons (tx.ext (extOf sp)) (.cons (ty.ext (extOf sp)) .nil))⟩
theorem if_none {σ : L2.St} {Q : VK} {N : Nat} (h6 : σ[6]? = some (some nv)) (h2 : σ[2]? = some (some (.ref m))) (mm : H m = some (.lst (iv mt))) (lN : mt.length = N) (hd : Dp K H nv nd) (sh : SeqAt.shaped nd = true)
    (nS : (PyData.eqv nd (.int (N : Int)) = true ∧ nv2 = .int 24 ∧ nd2 = .int 24) ∨ (PyData.eqv nd (.int (N : Int)) = false ∧ nv2 = nv ∧ nd2 = nd)) (k : Q nv2 H) :
    tIf (tTest (tOp (rNeD K) (tVar 6) (tCB (fun xs H Q => ∃ p ys, xs = [V.ref p] ∧ (SqL K H p ys ∨ SqT K H p ys) ∧ Q (.int ys.length) H) (tCons (tVar 2) tNil)))) (tVar 6) (tC (.int 24)) σ H Q := by
  refine ⟨nv, h6, .ref m, h2, m, _, rfl, .inl (SqL.of mm), nd, .int (N : Int), hd, ?_, sh, rfl, _, rfl, ?_⟩
  · rw [List.length_map, lN]
    exact .int _
  · rcases nS with ⟨e, rfl, _⟩ | ⟨e, rfl, _⟩
    · rw [e]
      exact iteF k
    · rw [e]
      exact iteT ⟨_, h6, k⟩
theorem HL.app {hl b : Addr} {ds ds2 : List (Str × PyData)} {Q : VK} (h : HL H hl ds) (h2 : HL H b ds2) (l1 : ds.length ≤ 20) (l2 : ds2.length ≤ 20) (k : ∀ r H', H r = none → Same H H' → HL H' r (ds ++ ds2) → Q (.ref r) H') : rCat (.ref hl) (.ref b) H Q := by
  obtain ⟨us, g, r⟩ := h
  obtain ⟨vs, g2, r2⟩ := h2
  refine ⟨hl, b, us, vs, rfl, rfl, g, g2, Evl.sz_of (by rw [r.length, r2.length]; omega), fun p hp => ?_⟩
  have sp := same_upd (o := .lst (us ++ vs)) hp
  exact k p _ hp sp ⟨_, upd_same, All2.app (r.imp fun _ _ h => h.ext (extOf sp)) (r2.imp fun _ _ h => h.ext (extOf sp))⟩
theorem cb1 {r : List V → Hp → VK → Prop} {te : TE} {σ : L2.St} {Q : VK} (h : te σ H fun x H1 => r [x] H1 Q) : tCB r (tCons te tNil) σ H Q := h
theorem eqv_s (z : Str) : PyData.eqv (.str z) (.str z) = true := by
  show (z == z) = true
  exact beq_self_eq_true z
end
end W17
set_option Elab.async false
set_option linter.all false
set_option maxRecDepth 100000
set_option maxHeartbeats 1000000
namespace W17
open PySem L2 PySem.Spec PyProof.Rows WR WB WE WS
/-! ### what is refused -/
theorem op_neDK {X : Cx} {K : PySem.W.Frag} (h : X.K = K) (hu : X.A.units + 64 < cLine) : OpR X (compareOp .NotEq) (rNeD K) := h ▸ op_neD hu
theorem ar1 {t : TE} {σ : L2.St} {H : Hp} {Q : List V → Hp → Prop} (h : t σ H fun x H2 => Q [x] H2) : tCons t tNil σ H Q := h
def spRR (K : PySem.W.Frag) (T : List (Addr × Str)) : Sp := fun vs H Q _ => ∃ (a c p m : Addr) (us : List V) (ws : List (List Int)) (mt : List Int) (n : Nat), vs = [.ref a, .ref p, .ref m] ∧ HandAt H a c n ∧ n ≤ 6000 ∧ H p = some (.lst us) ∧ LLs H us ws ∧ RimOk ws ∧ ws.flatten.length ≤ 22 ∧ MatOk ws.flatten mt ∧ H m = some (.lst (iv mt)) ∧ LamX.Tabs T H ∧
  ∀ H', HandAt H' a c (n + 4) → LamX.Tabs T H' → Q (.bl true) H'
abbrev qRR : Str := ("_law_refused_right" : Str) ++ ".<locals>." ++ "<lambda>"
abbrev sRR : Stmt := top 85
abbrev nRR : List Str := ["_law_pen_here", "_law_words", "_law_mates_here", "_law_sewing", "_law_full", "_law_odd", "_law_none", "_law_no", "_law_pair", "_law_heard", "_law_due"]
theorem scRR : FnScope nRR ["_law_pen_here", "_law_words", "_law_mates_here"] (defScope sRR) := ⟨rfl, rfl, rfl, by decide +kernel, rfl, by decide +kernel, by decide +kernel⟩
section
variable {P : Program} {w : World} {K : PySem.W.Frag} {mg : Str → Option Value} {base : Heap} {C CR CS CBS CNP CNL CTM CMF CH : Addr}
theorem ok_RR {f cd P1 g : Addr} {fd : FuncData} {TT : List (Addr × Str)} (F : FunC K "_law_refused_right" sRR f cd fd) (N : TN mg) (O : SewO P w K mg base C CR CS) (MS : MkS P w K mg base C CR CS) (XS_ : XS K CR CS) (BS : ErrC P w K mg base CBS "BadSewing" ["self", "part"] (spI1 "part" CBS)) (MF : ErrC P w K mg base CMF "Misfit" ["self", "part"] (spI1 "part" CMF))
    (TM : ErrC P w K mg base CTM "TooMany" ["self", "what", "most"] (spI2 CTM)) (NP : ErrC P w K mg base CNP "NoPlace" ["self", "value"] (spI1 "value" CNP)) (NL : ErrC P w K mg base CNL "NoLetter" ["self", "value"] (spI1 "value" CNL)) (Z : Five K mg CBS CMF CTM CNP CNL CH) (G : FaultK K mg g) (TB : LamX.TabB base mg cd P1) (hT : (P1, qRR) ∈ TT) (hu : ∀ p ∈ TT, p.1 = P1 → p.2 = qRR)
    (G_draw : Cal P w K mg base "_law_draw" 1 ["_law_pen_here", "_law_many"] spTake) (G_pick : Cal P w K mg base "_law_pick" 2 ["_law_pen_here", "_law_some"] spPick) (G_rims : Cal P w K mg base "_law_rims" 6 ["_law_words"] (spLRims K C CR)) (G_with_pair : CalX P w K mg base "with_pair" 10 ["sewing", "place", "letter"] (spWP K C CR CS CBS CNP CNL CTM)) (G_without_pair : CalX P w K mg base "without_pair" 10 ["sewing", "place"] (spWO K C CR CS CBS CNP CMF)) :
    RG.FnG P w K mg base 13 f fd ["_law_pen_here", "_law_words", "_law_mates_here"] (spRR K TT) := by
  refine F.okG scRR (fun vs H Q E h => ?_) (fun A outer s H vs Q E hg hr h => ?_)
  · obtain ⟨a, c, p, m, us, ws, mt, n, rfl, _⟩ := h
    rfl
  · obtain ⟨a, c, p, m, us, ws, mt, n, rfl, hH, hn, hp, hu', ok, l22, mok, hm, tT, k⟩ := h
    obtain ⟨T, TC, TS, ER, rn, ES⟩ := id O
    obtain ⟨oc, od, kV, doc, pm, cdv, ct, an, osl, lk, hcd⟩ := G.ex
    have bG : L2.Binds K (PySem.W.fnOf "_law_fault" "_law_fault" (defArgs sFault) (defBody sFault) (defScope sFault) .none kV doc pm an cdv ct) ["_law_ask"] [] := (fun_mk (st := sFault) lk hcd G.kp).binds (ps := ["_law_ask"]) fun _ _ _ _ _ _ us hl => match us, hl with | [_], _ => rfl
    refine ⟨_, pss_cons (ps_asg (pe_tup (pa_cons (pe_sewK rfl MS TS hr (by decide) (by rfl) (pa_cons (pe_cal G_rims hr (by decide) (by rfl) (pa_cons (pv 1) pa_nil)) (pa_cons (pv 2) pa_nil))) (pa_cons (pe_sewK rfl MS TS hr (by decide) (by rfl) (pa_cons (pe_cal G_rims hr (by decide) (by rfl) (pa_cons (pe_lst (pa_cons (pe_op op_rep (pe_lst (pa_cons pe_int pa_nil)) pe_int) (pa_cons (pe_op op_rep (pe_lst (pa_cons (pe_un un_neg pe_int) pa_nil)) pe_int) pa_nil))) pa_nil)) (pa_cons (pe_op op_cat (pe_listRg rfl (by rfl) N.list (prg_2 (by rfl) N.range pe_int pe_int)) (pe_listRg rfl (by rfl) N.list (prg_1 (by rfl) N.range pe_int))) pa_nil))) pa_nil))) (pg_tup (n := 2) rfl (pgs_cons (pg_name (i := 3) scRR.nd rfl (Or.inr rfl)) (pgs_cons (pg_name (i := 4) scRR.nd rfl (Or.inr rfl)) pgs_nil))))
      (pss_cons (ps_asg (pe_tup (pa_cons (pe_cal G_pick hr (by decide) (by rfl) (pa_cons (pv 0) (pa_cons (pe_lst (pa_cons pe_non (pa_cons pe_int (pa_cons (pe_fld (pv 3) rfl) (pa_cons (pe_fld (pv 3) rfl) (pa_cons (pe_lst (pa_cons (pv 3) pa_nil)) (pa_cons pe_bl pa_nil))))))) pa_nil))) (pa_cons (pe_cal G_pick hr (by decide) (by rfl) (pa_cons (pv 0) (pa_cons (pe_lst (pa_cons (pe_un un_neg pe_int) (pa_cons (pe_callB call_len_seq (by rfl) N.len PySem.boot_len (pa_cons (pv 2) pa_nil)) (pa_cons pe_non (pa_cons pe_bl (pa_cons pe_str (pa_cons (pe_lst (pa_cons pe_int pa_nil)) (pa_cons (pe_op op_pow pe_int pe_int) pa_nil)))))))) pa_nil))) pa_nil))) (pg_tup (n := 2) rfl (pgs_cons (pg_name (i := 5) scRR.nd rfl (Or.inr rfl)) (pgs_cons (pg_name (i := 6) scRR.nd rfl (Or.inr rfl)) pgs_nil))))
      (pss_cons (ps_asg (pe_tup (pa_cons (pe_cal G_pick hr (by decide) (by rfl) (pa_cons (pv 0) (pa_cons (pe_lst (pa_cons pe_int (pa_cons pe_int (pa_cons (pe_un un_neg pe_int) (pa_cons pe_non (pa_cons pe_bl (pa_cons pe_str (pa_cons (pe_lst (pa_cons pe_int pa_nil)) pa_nil)))))))) pa_nil))) (pa_cons (pe_sewK rfl MS TS hr (by decide) (by rfl) (pa_cons (pe_cal G_rims hr (by decide) (by rfl) (pa_cons (pe_lst (pa_cons (pe_lst (pa_cons pe_int (pa_cons (pe_un un_neg pe_int) pa_nil))) (pa_cons (pe_lst (pa_cons pe_int pa_nil)) (pa_cons (pe_lst (pa_cons (pe_un un_neg pe_int) pa_nil)) pa_nil)))) pa_nil)) (pa_cons (pe_lst (pa_cons pe_int (pa_cons pe_int (pa_cons pe_int (pa_cons pe_int pa_nil))))) pa_nil))) pa_nil))) (pg_tup (n := 2) rfl (pgs_cons (pg_name (i := 7) scRR.nd rfl (Or.inr rfl)) (pgs_cons (pg_name (i := 8) scRR.nd rfl (Or.inr rfl)) pgs_nil))))
      (pss_cons (ps_set (i := 9) scRR.nd rfl (Or.inl rfl) (pe_lst (pa_cons (LamX.pe_lamcall (T := TT) (k := 10) (t := fun E => tCall (spWP K C CR CS CBS CNP CNL CTM) [] E (tCons (tVar 5) (tCons (tVar 6) (tCons (tVar 7) tNil)))) (by rfl) G.mg G.kp lk hcd bG scFault (by rfl) (Or.inl rfl) (fault_gives N BS MF TM NP NL Z hg (hr.mono (by decide))) TB rfl hT hu hr (LamX.lamS_by (sc := defScope sRR) (by decide +kernel)) (by rfl) (fun q cl pm cv ctv => by rfl) (fun A outer s H E f c' hr2 => pe_calX G_with_pair hr2 (by decide) (passes_call (takes_of rfl rfl rfl rfl) (fun _ _ _ _ h => h)) (by rfl) (pa_cons (pv 5) (pa_cons (pv 6) (pa_cons (pv 7) pa_nil))))) (pa_cons (LamD.pe_lamcallD (T := TT) (k := 10) (p1 := "_law_c1") (v0 := .int 0) (t := fun E => tCall (spWO K C CR CS CBS CNP CMF) [] E (tCons (tVar 5) (tCons (tVar 6) tNil))) (by rfl) G.mg G.kp lk hcd bG scFault (by rfl) (Or.inl rfl) (fault_gives N BS MF TM NP NL Z hg (hr.mono (by decide))) TB rfl hT hu hr (LamD.lamS1_by (sc := defScope sRR) (by decide +kernel)) (show ("_law_c1" : Str) ∉ nRR by decide) (by rfl) pe_int (fun q cl pm cv ctv u t => ⟨_, rfl, rfl⟩) (fun A outer s H E f c' hr2 => pe_calX G_without_pair hr2 (by decide) (passes_call (takes_of rfl rfl rfl rfl) (fun _ _ _ _ h => h)) (by rfl) (pa_cons (pv 5) (pa_cons (pv 6) pa_nil)))) pa_nil))))
      (pss_cons (ps_set (i := 9) scRR.nd rfl (Or.inl rfl) (pe_op op_cat (pv 9) (pe_lst (pa_cons (LamX.pe_lamcall (T := TT) (k := 10) (t := fun E => tCall (spWP K C CR CS CBS CNP CNL CTM) [] E (tCons (tVar 4) (tCons (tIf (tTest (tOp (rNeD K) (tVar 6) (tCB (fun xs H Q => ∃ p ys, xs = [V.ref p] ∧ (SqL K H p ys ∨ SqT K H p ys) ∧ Q (.int ys.length) H) (tCons (tVar 2) tNil)))) (tVar 6) (tC (.int 24))) (tCons (tVar 7) tNil)))) (by rfl) G.mg G.kp lk hcd bG scFault (by rfl) (Or.inl rfl) (fault_gives N BS MF TM NP NL Z hg (hr.mono (by decide))) TB rfl hT hu hr (LamX.lamS_by (sc := defScope sRR) (by decide +kernel)) (by rfl) (fun q cl pm cv ctv => by rfl) (fun A outer s H E f c' hr2 => pe_calX G_with_pair hr2 (by decide) (passes_call (takes_of rfl rfl rfl rfl) (fun _ _ _ _ h => h)) (by rfl) (pa_cons (pv 4) (pa_cons (pe_ifExp (pt_cmpR (op_neDK (K := K) rfl hr2.units) (pv 6) (pe_callB (call_lenK (K := K) rfl) (by rfl) N.len PySem.boot_len (pa_cons (pv 2) pa_nil)) (nomark _)) (pv 6) pe_int) (pa_cons (pv 7) pa_nil))))) (pa_cons (LamD.pe_lamcallD (T := TT) (k := 10) (p1 := "_law_c2") (v0 := .int 0) (t := fun E => tCall (spWO K C CR CS CBS CNP CMF) [] E (tCons (tVar 3) (tCons (tVar 6) tNil))) (by rfl) G.mg G.kp lk hcd bG scFault (by rfl) (Or.inl rfl) (fault_gives N BS MF TM NP NL Z hg (hr.mono (by decide))) TB rfl hT hu hr (LamD.lamS1_by (sc := defScope sRR) (by decide +kernel)) (show ("_law_c2" : Str) ∉ nRR by decide) (by rfl) pe_int (fun q cl pm cv ctv u t => ⟨_, rfl, rfl⟩) (fun A outer s H E f c' hr2 => pe_calX G_without_pair hr2 (by decide) (passes_call (takes_of rfl rfl rfl rfl) (fun _ _ _ _ h => h)) (by rfl) (pa_cons (pv 3) (pa_cons (pv 6) pa_nil)))) pa_nil)))))
      (pss_cons (ps_set (i := 9) scRR.nd rfl (Or.inl rfl) (pe_op op_cat (pv 9) (pe_lst (pa_cons (LamX.pe_lamcall (T := TT) (k := 10) (t := fun E => tCall (spWP K C CR CS CBS CNP CNL CTM) [] E (tCons (tVar 4) (tCons (tC (.int 23)) (tCons (tVar 7) tNil)))) (by rfl) G.mg G.kp lk hcd bG scFault (by rfl) (Or.inl rfl) (fault_gives N BS MF TM NP NL Z hg (hr.mono (by decide))) TB rfl hT hu hr (LamX.lamS_by (sc := defScope sRR) (by decide +kernel)) (by rfl) (fun q cl pm cv ctv => by rfl) (fun A outer s H E f c' hr2 => pe_calX G_with_pair hr2 (by decide) (passes_call (takes_of rfl rfl rfl rfl) (fun _ _ _ _ h => h)) (by rfl) (pa_cons (pv 4) (pa_cons pe_int (pa_cons (pv 7) pa_nil))))) (pa_cons (LamD.pe_lamcallD (T := TT) (k := 10) (p1 := "_law_c3") (v0 := .int 0) (t := fun E => tCall (spWP K C CR CS CBS CNP CNL CTM) [] E (tCons (tVar 4) (tCons (tC (.int 0)) (tCons (tC (.int 1)) tNil)))) (by rfl) G.mg G.kp lk hcd bG scFault (by rfl) (Or.inl rfl) (fault_gives N BS MF TM NP NL Z hg (hr.mono (by decide))) TB rfl hT hu hr (LamD.lamS1_by (sc := defScope sRR) (by decide +kernel)) (show ("_law_c3" : Str) ∉ nRR by decide) (by rfl) pe_int (fun q cl pm cv ctv u t => ⟨_, rfl, rfl⟩) (fun A outer s H E f c' hr2 => pe_calX G_with_pair hr2 (by decide) (passes_call (takes_of rfl rfl rfl rfl) (fun _ _ _ _ h => h)) (by rfl) (pa_cons (pv 4) (pa_cons pe_int (pa_cons pe_int pa_nil))))) pa_nil)))))
      (pss_cons (ps_set (i := 9) scRR.nd rfl (Or.inl rfl) (pe_op op_cat (pv 9) (pe_lst (pa_cons (LamX.pe_lamcall (T := TT) (k := 10) (t := fun E => tCall (spWO K C CR CS CBS CNP CMF) [] E (tCons (tVar 8) (tCons (tC (.int 2)) tNil))) (by rfl) G.mg G.kp lk hcd bG scFault (by rfl) (Or.inl rfl) (fault_gives N BS MF TM NP NL Z hg (hr.mono (by decide))) TB rfl hT hu hr (LamX.lamS_by (sc := defScope sRR) (by decide +kernel)) (by rfl) (fun q cl pm cv ctv => by rfl) (fun A outer s H E f c' hr2 => pe_calX G_without_pair hr2 (by decide) (passes_call (takes_of rfl rfl rfl rfl) (fun _ _ _ _ h => h)) (by rfl) (pa_cons (pv 8) (pa_cons pe_int pa_nil)))) (pa_cons (LamD.pe_lamcallD (T := TT) (k := 10) (p1 := "_law_c4") (v0 := .int 0) (t := fun E => tCall (spWO K C CR CS CBS CNP CMF) [] E (tCons (tVar 8) (tCons (tCall spTake [] E0 (tCons (tVar 0) (tCons (tC (.int 2)) tNil))) tNil))) (by rfl) G.mg G.kp lk hcd bG scFault (by rfl) (Or.inl rfl) (fault_gives N BS MF TM NP NL Z hg (hr.mono (by decide))) TB rfl hT hu hr (LamD.lamS1_by (sc := defScope sRR) (by decide +kernel)) (show ("_law_c4" : Str) ∉ nRR by decide) (by rfl) pe_int (fun q cl pm cv ctv u t => ⟨_, rfl, rfl⟩) (fun A outer s H E f c' hr2 => pe_calX G_without_pair hr2 (by decide) (passes_call (takes_of rfl rfl rfl rfl) (fun _ _ _ _ h => h)) (by rfl) (pa_cons (pv 8) (pa_cons (pe_cal G_draw hr2 (by decide) (by rfl) (pa_cons (pv 0) (pa_cons pe_int pa_nil))) pa_nil)))) pa_nil)))))
      (pss_cons (ps_set (i := 9) scRR.nd rfl (Or.inl rfl) (pe_op op_cat (pv 9) (pe_lst (pa_cons (LamX.pe_lamcall (T := TT) (k := 10) (t := fun E => tCall (spWO K C CR CS CBS CNP CMF) [] E (tCons (tVar 4) (tCons (tC (.int 11)) tNil))) (by rfl) G.mg G.kp lk hcd bG scFault (by rfl) (Or.inl rfl) (fault_gives N BS MF TM NP NL Z hg (hr.mono (by decide))) TB rfl hT hu hr (LamX.lamS_by (sc := defScope sRR) (by decide +kernel)) (by rfl) (fun q cl pm cv ctv => by rfl) (fun A outer s H E f c' hr2 => pe_calX G_without_pair hr2 (by decide) (passes_call (takes_of rfl rfl rfl rfl) (fun _ _ _ _ h => h)) (by rfl) (pa_cons (pv 4) (pa_cons pe_int pa_nil)))) (pa_cons (LamD.pe_lamcallD (T := TT) (k := 10) (p1 := "_law_c5") (v0 := .int 0) (t := fun E => tCall (spWO K C CR CS CBS CNP CMF) [] E (tCons _ (tCons (tC (.int 1)) tNil))) (by rfl) G.mg G.kp lk hcd bG scFault (by rfl) (Or.inl rfl) (fault_gives N BS MF TM NP NL Z hg (hr.mono (by decide))) TB rfl hT hu hr (LamD.lamS1_by (sc := defScope sRR) (by decide +kernel)) (show ("_law_c5" : Str) ∉ nRR by decide) (by rfl) pe_int (fun q cl pm cv ctv u t => ⟨_, rfl, rfl⟩) (fun A outer s H E f c' hr2 => pe_calX G_without_pair hr2 (by decide) (passes_call (takes_of rfl rfl rfl rfl) (fun _ _ _ _ h => h)) (by rfl) (pa_cons (pe_sewK rfl MS TS hr2 (by decide) (by rfl) (pa_cons (pe_cal G_rims hr2 (by decide) (by rfl) (pa_cons (pe_lst (pa_cons (pe_lst (pa_cons pe_int (pa_cons (pe_un un_neg pe_int) pa_nil))) (pa_cons (pe_lst (pa_cons (pe_un un_neg pe_int) (pa_cons pe_int pa_nil))) pa_nil))) pa_nil)) (pa_cons (pe_lst (pa_cons pe_int (pa_cons pe_int (pa_cons pe_int (pa_cons pe_int pa_nil))))) pa_nil))) (pa_cons pe_int pa_nil)))) pa_nil)))))
      (pss_cons (ps_set (i := 10) scRR.nd rfl (Or.inl rfl) (pe_op op_cat (pe_op op_rep (pe_lst (pa_cons (pe_tup (pa_cons pe_str (pa_cons pe_str pa_nil))) pa_nil)) pe_int) (pe_lst (pa_cons (pe_tup (pa_cons pe_str (pa_cons (pe_callB (RA.call_reprA hg (by have hh : _ < cLine := hr.units; exact Nat.lt_of_le_of_lt (Nat.add_le_add_left (by decide : 40 ≤ 64) _) hh)) (by rfl) N.repr (by decide +kernel) (pa_cons (pe_ifExp (pt_cmpR (op_neD hr.units) (pv 6) (pe_callB call_len_seq (by rfl) N.len PySem.boot_len (pa_cons (pv 2) pa_nil)) (nomark _)) (pv 6) pe_int) pa_nil)) pa_nil))) (pa_cons (pe_tup (pa_cons pe_str (pa_cons (pe_callB (RA.call_reprA hg (by have hh : _ < cLine := hr.units; exact Nat.lt_of_le_of_lt (Nat.add_le_add_left (by decide : 40 ≤ 64) _) hh)) (by rfl) N.repr (by decide +kernel) (pa_cons (pv 6) pa_nil)) pa_nil))) (pa_cons (pe_tup (pa_cons pe_str (pa_cons (pe_callB (RA.call_reprA hg (by have hh : _ < cLine := hr.units; exact Nat.lt_of_le_of_lt (Nat.add_le_add_left (by decide : 40 ≤ 64) _) hh)) (by rfl) N.repr (by decide +kernel) (pa_cons (pv 7) pa_nil)) pa_nil))) (pa_cons (pe_tup (pa_cons pe_str (pa_cons pe_int pa_nil))) pa_nil)))))))
      (pss_one (ps_ret (pe_cmpR (op_eqD hr.units) (pv 9) (pe_op op_cat (pv 10) (pe_lst (pa_cons (pe_tup (pa_cons pe_str (pa_cons pe_str pa_nil))) (pa_cons (pe_tup (pa_cons pe_str (pa_cons pe_str pa_nil))) (pa_cons (pe_tup (pa_cons pe_str (pa_cons pe_str pa_nil))) (pa_cons (pe_tup (pa_cons pe_str (pa_cons pe_str pa_nil))) pa_nil)))))) (nomark _)))))))))))), ?_⟩
    -- two sewings
    have l24 : ws.flatten.length ≤ 24 := ok.2.2.2.1
    have lm : mt.length = ws.flatten.length := mok.1.1.1
    have hpa := hH.ne_refs hp hu'.refs
    have hma := hH.ne_iv hm
    refine ⟨_, rfl, p, us, ws, rfl, hp, hu', ok, fun rp H1 xs s1 R1 => ?_⟩
    refine ⟨_, rfl, ?_⟩
    intro sw dq nq ndq _
    refine sew_at nq ndq R1 ok (.inl (SqL.of (s1 _ _ hm))) mok fun H2 s2 S2 => ?_
    refine ar1 ?_
    refine mk_full fun fu rf xf H3 s3 S3 => ?_
    refine ⟨by show 2 ≤ sizeLine; decide, fun t0 ht0 => ?_⟩
    have s4 := same_upd (o := .tup [.ref sw, .ref fu]) ht0
    refine ⟨t0, _, rfl, SqT.of upd_same, rfl, _, _, rfl, _, _, rfl, rfl, ?_⟩
    have s04 := ((s1.trans s2).trans s3).trans s4
    have S4 := S2.same (s3.trans s4)
    have F4 := S3.same s4
    obtain ⟨H4, e4⟩ : ∃ H4, H4 = L2.upd H3 t0 (.tup [.ref sw, .ref fu]) := ⟨_, rfl⟩
    rw [← e4] at s4 s04 S4 F4 ⊢
    have hH4 := hH.same s04
    have hm4 := s04 _ _ hm
    have t4 := tT.ext s04
    clear e4 s4 ht0 S3 S2 R1 s3 s2 s1 nq ndq
    try dsimp only
    -- no sewing
    obtain ⟨dx, tm, tc, tp, h1, R1, h3, h4, h5⟩ := id S4
    refine ⟨_, rfl, _, rfl, sw, CS, dx, _, _, rfl, h1, TS.cl, TS.n1, sf_rims, _, rfl, sw, CS, dx, _, _, rfl, h1, TS.cl, TS.n2, sf_mates, _, rfl, by show 1 ≤ sizeLine; decide, fun l1 hl1 => ⟨by show 6 ≤ sizeLine; decide, fun O1 hO1 => ?_⟩⟩
    have sA := same_upd (o := .lst [.ref sw]) hl1
    have gl1 : L2.upd H4 l1 (.lst [.ref sw]) l1 = some (.lst [.ref sw]) := upd_same
    obtain ⟨H5, e5⟩ : ∃ H5, H5 = L2.upd H4 l1 (.lst [.ref sw]) := ⟨_, rfl⟩
    rw [← e5] at sA gl1 hO1 ⊢
    have sB := same_upd (o := .lst [.non, .int 5, .ref rp, .ref tm, .ref l1, .bl true]) hO1
    have gO1 : L2.upd H5 O1 (.lst [.non, .int 5, .ref rp, .ref tm, .ref l1, .bl true]) O1 = some (.lst [.non, .int 5, .ref rp, .ref tm, .ref l1, .bl true]) := upd_same
    have gl2 := sB _ _ gl1
    have O1a := (hH4.same sA).ne hO1
    obtain ⟨H6, e6⟩ : ∃ H6, H6 = L2.upd H5 O1 (.lst [.non, .int 5, .ref rp, .ref tm, .ref l1, .bl true]) := ⟨_, rfl⟩
    rw [← e6] at sB gO1 gl2 ⊢
    have s46 := sA.trans sB
    have hH6 := hH4.same s46
    have l1a : l1 ≠ a := hH4.ne hl1
    refine ⟨a, c, O1, _, n, rfl, hH6, by omega, O1a, gO1, by show 0 < 6; decide, by show 6 ≤ 1000; decide, fun od hod H7 d7 => ?_⟩
    have S7 := (S4.same s46).kept hH6.lst.choose_spec d7.2
    have F7 := (F4.same s46).kept hH6.lst.choose_spec d7.2
    have gl7 := d7.2 _ _ l1a gl2
    have hm7 := d7.2 _ _ hma (s46 _ _ hm4)
    have t7 := d7.tabs hH6 (t4.ext s46)
    have hH7 := d7.1
    have kA7 : Kept a H4 H7 := Kept.trans (fun b o _ e => s46 b o e) d7.2
    clear e5 e6 sA gl1 hO1 sB gO1 gl2 s46 d7
    -- no place
    refine ⟨_, rfl, _, rfl, _, rfl, m, _, rfl, .inl (SqL.of hm7), by show 1 ≤ sizeLine; decide, fun l4 hl4 => ?_⟩
    have sC := same_upd (o := .lst [.int 0]) hl4
    have gl4 : L2.upd H7 l4 (.lst [.int 0]) l4 = some (.lst [.int 0]) := upd_same
    obtain ⟨H8, e8⟩ : ∃ H8, H8 = L2.upd H7 l4 (.lst [.int 0]) := ⟨_, rfl⟩
    rw [← e8] at sC gl4 ⊢
    refine ⟨_, _, rfl, rfl, ⟨by decide, by decide, by decide⟩, by show 7 ≤ sizeLine; decide, fun O2 hO2 => ?_⟩
    rw [show ((iv mt).length : Int) = (ws.flatten.length : Int) by rw [List.length_map, lm]]
    have sD := same_upd (o := .lst [.int (-1), .int (ws.flatten.length : Int), .non, .bl true, .str "0", .ref l4, .int (10 ^ (20 : Int).toNat)]) hO2
    have gO2 : L2.upd H8 O2 (.lst [.int (-1), .int (ws.flatten.length : Int), .non, .bl true, .str "0", .ref l4, .int (10 ^ (20 : Int).toNat)]) O2 = some (.lst [.int (-1), .int (ws.flatten.length : Int), .non, .bl true, .str "0", .ref l4, .int (10 ^ (20 : Int).toNat)]) := upd_same
    have O2a := (hH7.same sC).ne hO2
    have l4a : l4 ≠ a := hH7.ne hl4
    have gl5 := sD _ _ gl4
    obtain ⟨H9, e9⟩ : ∃ H9, H9 = L2.upd H8 O2 (.lst [.int (-1), .int (ws.flatten.length : Int), .non, .bl true, .str "0", .ref l4, .int (10 ^ (20 : Int).toNat)]) := ⟨_, rfl⟩
    rw [← e9] at sD gO2 gl5 ⊢
    have s79 := sC.trans sD
    have hH9 := hH7.same s79
    refine ⟨a, c, O2, _, n + 1, rfl, hH9, by omega, O2a, gO2, by show 0 < 7; decide, by show 7 ≤ 1000; decide, fun nv hnv Ha da => ?_⟩
    have gla := da.2 _ _ l4a gl5
    have Sa := (S7.same s79).kept hH9.lst.choose_spec da.2
    have Fa := (F7.same s79).kept hH9.lst.choose_spec da.2
    have gl1a := da.2 _ _ l1a (s79 _ _ gl7)
    have hma' := da.2 _ _ hma (s79 _ _ hm7)
    have ta := da.tabs hH9 (t7.ext s79)
    have hHa := da.1
    have kAa : Kept a H4 Ha := (kA7.trans fun b o _ e => s79 b o e).trans da.2
    refine ⟨by show 2 ≤ sizeLine; decide, fun t1 ht1 => ?_⟩
    have sF := same_upd (o := .tup [od, nv]) ht1
    refine ⟨t1, _, rfl, SqT.of upd_same, rfl, _, _, rfl, _, _, rfl, rfl, ?_⟩
    have hHb := hHa.same sF
    have Sb := Sa.same sF
    have Fb := Fa.same sF
    have tb := ta.ext sF
    have glb := sF _ _ gla
    have gl1b := sF _ _ gl1a
    have hmb := sF _ _ hma'
    have kAb : Kept a H4 (L2.upd Ha t1 (.tup [od, nv])) := kAa.trans fun b o _ e => sF b o e
    obtain ⟨Hb, eb⟩ : ∃ Hb, Hb = L2.upd Ha t1 (.tup [od, nv]) := ⟨_, rfl⟩
    rw [← eb] at sF hHb Sb Fb tb glb gl1b hmb kAb ⊢
    clear e8 sC gl4 e9 sD gO2 gl5 s79 da gla Sa Fa gl1a hma' ta hHa kAa eb sF ht1 hO2 hH9 hH7 hH6 S7 F7 gl7 hm7 t7 kA7 hl4 O2a O1a
    try dsimp only
    -- no letter
    refine ⟨_, rfl, _, rfl, by show 1 ≤ sizeLine; decide, fun l6 hl6 => ?_⟩
    have sC := same_upd (o := .lst [.int 1]) hl6
    have gl6 : L2.upd Hb l6 (.lst [.int 1]) l6 = some (.lst [.int 1]) := upd_same
    obtain ⟨Hc, ec⟩ : ∃ Hc, Hc = L2.upd Hb l6 (.lst [.int 1]) := ⟨_, rfl⟩
    rw [← ec] at sC gl6 ⊢
    refine ⟨by show 7 ≤ sizeLine; decide, fun O3 hO3 => ?_⟩
    try dsimp only
    have sD := same_upd (o := .lst [.int 0, .int 27, .int (-27), .non, .bl true, .str "a", .ref l6]) hO3
    have gO3 : L2.upd Hc O3 (.lst [.int 0, .int 27, .int (-27), .non, .bl true, .str "a", .ref l6]) O3 = some (.lst [.int 0, .int 27, .int (-27), .non, .bl true, .str "a", .ref l6]) := upd_same
    have O3a := (hHb.same sC).ne hO3
    have l6a : l6 ≠ a := hHb.ne hl6
    have gl61 := sD _ _ gl6
    obtain ⟨Hd, ed⟩ : ∃ Hd, Hd = L2.upd Hc O3 (.lst [.int 0, .int 27, .int (-27), .non, .bl true, .str "a", .ref l6]) := ⟨_, rfl⟩
    rw [← ed] at sD gO3 gl61 ⊢
    have sbd := sC.trans sD
    have hHd := hHb.same sbd
    refine ⟨a, c, O3, _, n + 2, rfl, hHd, by omega, O3a, gO3, by show 0 < 7; decide, by show 7 ≤ 1000; decide, fun lv hlv He de => ?_⟩
    refine ar1 ?_
    refine mk_pair fun pr rq xq Hf sf' Pf => ?_
    refine ⟨by show 2 ≤ sizeLine; decide, fun t2 ht2 => ?_⟩
    have sG := same_upd (o := .tup [lv, .ref pr]) ht2
    refine ⟨t2, _, rfl, SqT.of upd_same, rfl, _, _, rfl, _, _, rfl, rfl, ?_⟩
    have seg := sf'.trans sG
    have kbg : Kept a Hb (L2.upd Hf t2 (.tup [lv, .ref pr])) := (Kept.trans (fun b o _ e => sbd b o e) de.2).trans fun b o _ e => seg b o e
    have hHg := de.1.same seg
    have Sg := ((Sb.same sbd).kept hHd.lst.choose_spec de.2).same seg
    have Fg := ((Fb.same sbd).kept hHd.lst.choose_spec de.2).same seg
    have Pg := Pf.same sG
    have tg := (de.tabs hHd (tb.ext sbd)).ext seg
    have glg := kbg _ _ l4a glb
    have gl1g := kbg _ _ l1a gl1b
    have gl6g := seg _ _ (de.2 _ _ l6a gl61)
    have hmg := kbg _ _ hma hmb
    have kAg := kAb.trans kbg
    obtain ⟨Hg, eg⟩ : ∃ Hg, Hg = L2.upd Hf t2 (.tup [lv, .ref pr]) := ⟨_, rfl⟩
    rw [← eg] at seg kbg hHg Sg Fg Pg tg glg gl1g gl6g hmg kAg ⊢
    clear ec sC gl6 ed sD gO3 gl61 sbd de Pf sf' sG seg ht2 eg kbg hO3 O3a hHd glb gl1b hmb kAb Sb Fb tb hHb hl6
    try dsimp only
    -- what they are
    obtain ⟨la, hla⟩ := hH4.lst
    have m9 : SqB K Hg tm (iv mt) := SqB.keptL hla kAg h3
    have odd : ∀ H', LamX.ExtN Hg H' → NotC K CS H' od := fun H' x => by
      simp only [List.mem_cons, List.mem_nil_iff, or_false] at hod
      obtain ⟨rp2, xs2, Sx⟩ : SewX K C CR CS Hg sw ws mt := ⟨_, _, Sg⟩
      rcases hod with rfl | rfl | rfl | rfl | rfl | rfl
      · exact ⟨_, Typ.non.ty, XS_.nN⟩
      · exact ⟨_, (Typ.int _).ty, XS_.nI⟩
      · obtain ⟨_, _, _, _, _, R9, _⟩ := id Sg
        exact ⟨_, (RimsAt.extN x R9).tyx T TC, XS_.nR⟩
      · exact ⟨_, SqT.tyx (SqB.extN x m9).sq, XS_.nT⟩
      · exact ⟨_, (Typ.lst (x _ _ gl1g fun ps z => by cases z)).ty, XS_.nL⟩
      · exact ⟨_, (Typ.bl _).ty, XS_.nB⟩
    have l2 : 2 ≤ ws.flatten.length := by
      have l0 : 0 < ws.flatten.length := by
        obtain ⟨q, w, x, _, _, _, hx⟩ := lls_first hu' ok.2.2.1 ok.1
        exact List.length_pos_of_mem hx
      have := (pair_inv mok.1 l0).2
      have := (mtn_at mok.1.1 l0).1
      omega
    have npl : ∃ (nd : PyData) (nt : String) (nv2 : V) (nd2 : PyData) (nt2 : String), Plc Hg nv nd nt ∧ plB nv ws.flatten.length = false ∧ SeqAt.shaped nd = true ∧ Plc Hg nv2 nd2 nt2 ∧ plB nv2 24 = false ∧ ((PyData.eqv nd (.int (ws.flatten.length : Int)) = true ∧ nv2 = .int 24 ∧ nd2 = .int 24) ∨ (PyData.eqv nd (.int (ws.flatten.length : Int)) = false ∧ nv2 = nv ∧ nd2 = nd)) := by
      simp only [List.mem_cons, List.mem_nil_iff, or_false] at hnv
      rcases hnv with rfl | rfl | rfl | rfl | rfl | rfl | rfl
      · refine ⟨_, _, _, _, _, .int _ (shw_neg 1 (by decide)), rfl, rfl, .int _ (shw_neg 1 (by decide)), rfl, .inr ⟨?_, rfl, rfl⟩⟩
        show decide ((-1 : Int) = (ws.flatten.length : Int)) = false
        exact decide_eq_false (by omega)
      · refine ⟨_, _, _, _, _, .int _ (shw_nat _ (by omega)), ?_, rfl, .int _ (shw_nat 24 (by decide)), rfl, .inl ⟨?_, rfl, rfl⟩⟩
        · show (decide ((0 : Int) ≤ (ws.flatten.length : Int)) && decide ((ws.flatten.length : Int) ≤ (ws.flatten.length : Int) - 1)) = false
          rw [decide_eq_false (show ¬ (ws.flatten.length : Int) ≤ (ws.flatten.length : Int) - 1 by omega), Bool.and_false]
        · show decide ((ws.flatten.length : Int) = (ws.flatten.length : Int)) = true
          exact decide_eq_true rfl
      · exact ⟨_, _, _, _, _, .non, rfl, rfl, .non, rfl, .inr ⟨rfl, rfl, rfl⟩⟩
      · refine ⟨_, _, _, _, _, .bl _, rfl, rfl, .bl _, rfl, .inr ⟨?_, rfl, rfl⟩⟩
        show decide ((1 : Int) = (ws.flatten.length : Int)) = false
        exact decide_eq_false (by omega)
      · exact ⟨_, _, _, _, _, .str _ (by decide +kernel), rfl, by decide +kernel, .str _ (by decide +kernel), rfl, .inr ⟨rfl, rfl, rfl⟩⟩
      · exact ⟨_, _, _, _, _, .one glg (by decide +kernel), rfl, rfl, .one glg (by decide +kernel), rfl, .inr ⟨rfl, rfl, rfl⟩⟩
      · refine ⟨_, _, _, _, _, .int _ (by decide +kernel), ?_, by decide +kernel, .int _ (by decide +kernel), by decide +kernel, .inr ⟨?_, rfl, rfl⟩⟩
        · show (decide ((0 : Int) ≤ 10 ^ (20 : Int).toNat) && decide ((10 : Int) ^ (20 : Int).toNat ≤ (ws.flatten.length : Int) - 1)) = false
          rw [decide_eq_false (show ¬ (10 : Int) ^ (20 : Int).toNat ≤ (ws.flatten.length : Int) - 1 by
            rw [show (10 : Int) ^ (20 : Int).toNat = 100000000000000000000 by decide +kernel]
            omega), Bool.and_false]
        · show decide ((10 : Int) ^ (20 : Int).toNat = (ws.flatten.length : Int)) = false
          rw [show (10 : Int) ^ (20 : Int).toNat = 100000000000000000000 by decide +kernel]
          exact decide_eq_false (by omega)
    have nlt : ∃ (ld : PyData) (lt : String), Plc Hg lv ld lt ∧ letterB lv = false := by
      simp only [List.mem_cons, List.mem_nil_iff, or_false] at hlv
      rcases hlv with rfl | rfl | rfl | rfl | rfl | rfl | rfl
      · exact ⟨_, _, .int _ (by decide +kernel), by decide⟩
      · exact ⟨_, _, .int _ (by decide +kernel), by decide⟩
      · exact ⟨_, _, .int _ (by decide +kernel), by decide⟩
      · exact ⟨_, _, .non, rfl⟩
      · exact ⟨_, _, .bl _, rfl⟩
      · exact ⟨_, _, .str _ (by decide +kernel), rfl⟩
      · exact ⟨_, _, .one gl6g (by decide +kernel), rfl⟩
    obtain ⟨nd, nt, nv2, nd2, nt2, nP, nF, nSh, n2P, n2F, nS⟩ := npl
    obtain ⟨ld, lt, lP, lF⟩ := nlt
    have r0 : RS K C CR CS TT a c m sw fu pr (n + 2 + 1) ws mt nv nd nt nv2 nd2 nt2 lv ld lt Hg := ⟨hHg, hmg, ⟨_, _, Sg⟩, ⟨_, _, Fg⟩, ⟨_, _, Pg⟩, nP, n2P, lP, tg⟩
    clear hod hnv hlv nP n2P lP tg Sg Fg Pg hmg hHg m9 hla kAg glg gl1g gl6g h1 R1 h3 h4 h5 l1a l4a l6a F4 S4 hm4 t4 s04 hH4
    -- the first of it
    refine st_is (σ2 := [some (.ref a), some (.ref p), some (.ref m), some (.ref sw), some (.ref fu), some od, some nv, some lv, some (.ref pr), none, none]) rfl ?_
    refine ⟨r0.tab, fun H11 x11 t11 R hR => ?_⟩
    refine ⟨_, rfl, _, rfl, _, rfl, od, nv, lv, rfl, .inl ⟨odd _ x11, bad_sew x11 t11 fun H12 u1 x12 t12 g12 => ?_⟩⟩
    refine ⟨t12, fun H13 x13 t13 R2 hR2 => ?_⟩
    refine ⟨_, rfl, _, rfl, od, nv, rfl, .inl ⟨odd _ (x12.trans x13), bad_sew x13 t13 fun H14 u2 x14 t14 g14 => ?_⟩⟩
    refine ⟨by show 2 ≤ sizeLine; decide, fun h1 hh1 => ?_⟩
    have s15 := same_upd (o := .lst [.ref u1, .ref u2]) hh1
    have q1 : HL (L2.upd H14 h1 (.lst [.ref u1, .ref u2])) h1 [("sewing", .str "sewing"), ("sewing", .str "sewing")] :=
      ⟨_, upd_same, .cons (((TwoD.str g12).ext x14).ext (extOf s15)) (.cons ((TwoD.str g14).ext (extOf s15)) .nil)⟩
    have r1 := (r0.ext (x12.trans x14) t14).same s15
    have h1a : h1 ≠ a := (r0.ext (x12.trans x14) t14).hand.ne hh1
    obtain ⟨H15, e15⟩ : ∃ H15, H15 = L2.upd H14 h1 (.lst [.ref u1, .ref u2]) := ⟨_, rfl⟩
    rw [← e15] at q1 r1 ⊢
    clear e15 s15 hh1 g14 t14 x14 hR2 R2 t13 x13 g12 t12 x12 hR R t11 x11 odd r0
    try dsimp only
    refine at_set ?_
    try dsimp only
    refine st_is (σ2 := [some (.ref a), some (.ref p), some (.ref m), some (.ref sw), some (.ref fu), some od, some nv, some lv, some (.ref pr), some (.ref h1), none]) rfl ?_
    -- no place
    refine ⟨_, rfl, r1.tab, fun H11 x11 t11 R hR => ?_⟩
    obtain ⟨rf, xf, Ff⟩ := r1.fl.ext x11
    refine ⟨_, rfl, ?_⟩
    refine if_none rfl rfl (r1.ext x11 t11).mm lm (r1.nP.ext x11).dp nSh nS ?_
    refine ⟨_, rfl, ?_⟩
    refine ⟨_, _, _, rfl, .inr ⟨fu, rf, xf, Wf, Mf, nt2, lt, rfl, Ff, rimF, mateF, (r1.n2P.ext x11).typ, (r1.lP.ext x11).typ, .inl ⟨by rw [lenF]; exact n2F, bad_place (r1.n2P.ext x11) x11 t11 fun H12 u3 x12 t12 g12 => ?_⟩⟩⟩
    refine ⟨t12, fun H13 x13 t13 R2 hR2 => ?_⟩
    obtain ⟨rs, xs3, Ss⟩ := (r1.sw.ext x12).ext x13
    refine ⟨_, rfl, _, rfl, .ref sw, nv, rfl, .inr ⟨sw, rs, xs3, ws, mt, nt, rfl, Ss, ok, mok, ((r1.nP.ext x12).ext x13).typ, .inl ⟨nF, bad_place ((r1.nP.ext x12).ext x13) x13 t13 fun H14 u4 x14 t14 g14 => ?_⟩⟩⟩
    refine ⟨by show 2 ≤ sizeLine; decide, fun b1 hb1 => ?_⟩
    have s15 := same_upd (o := .lst [.ref u3, .ref u4]) hb1
    refine HL.cat ((q1.ext (x12.trans x14)).ext (extOf s15)) (by decide) upd_same (((TwoD.str g12).ext x14).ext (extOf s15)) ((TwoD.str g14).ext (extOf s15)) fun h2 H16 hh2 s16 q2 => ?_
    have r2 := ((r1.ext (x12.trans x14) t14).same s15).same s16
    have h2a : h2 ≠ a := ((r1.ext (x12.trans x14) t14).same s15).hand.ne hh2
    clear s16 hh2 s15 hb1 g14 t14 x14 hR2 R2 Ss t13 x13 g12 t12 x12 Ff hR R t11 x11 r1 q1 h1a
    try dsimp only
    refine at_set ?_
    try dsimp only
    refine st_is (σ2 := [some (.ref a), some (.ref p), some (.ref m), some (.ref sw), some (.ref fu), some od, some nv, some lv, some (.ref pr), some (.ref h2), none]) rfl ?_
    -- no letter, and too many
    refine ⟨_, rfl, r2.tab, fun H11 x11 t11 R hR => ?_⟩
    obtain ⟨rf, xf, Ff⟩ := r2.fl.ext x11
    refine ⟨_, rfl, _, rfl, ?_⟩
    refine ⟨_, _, _, rfl, .inr ⟨fu, rf, xf, Wf, Mf, "int", lt, rfl, Ff, rimF, mateF, .int _, (r2.lP.ext x11).typ, .inr (.inl ⟨by rw [lenF]; rfl, lF, bad_letter (r2.lP.ext x11) x11 t11 fun H12 u3 x12 t12 g12 => ?_⟩)⟩⟩
    refine ⟨t12, fun H13 x13 t13 R2 hR2 => ?_⟩
    obtain ⟨rf2, xf2, Ff2⟩ := (r2.fl.ext x12).ext x13
    refine ⟨_, rfl, .ref fu, .int 0, .int 1, rfl, .inr ⟨fu, rf2, xf2, Wf, Mf, "int", "int", rfl, Ff2, rimF, mateF, .int _, .int _, .inr (.inr ⟨[], [List.replicate 12 (-7)], [], List.replicate 12 7, 1, rfl, by decide, rfl, rfl, by decide, .inl ⟨by rw [lenF]; decide, bad_many x13 t13 fun H14 u4 x14 t14 g14 => ?_⟩⟩)⟩⟩
    refine ⟨by show 2 ≤ sizeLine; decide, fun b1 hb1 => ?_⟩
    have s15 := same_upd (o := .lst [.ref u3, .ref u4]) hb1
    refine HL.cat ((q2.ext (x12.trans x14)).ext (extOf s15)) (by show 4 ≤ 40; decide) upd_same (((TwoD.str g12).ext x14).ext (extOf s15)) ((TwoD.int g14).ext (extOf s15)) fun h3 H17 hh3 s16 q3 => ?_
    have r3 := ((r2.ext (x12.trans x14) t14).same s15).same s16
    have h3a : h3 ≠ a := ((r2.ext (x12.trans x14) t14).same s15).hand.ne hh3
    clear s16 hh3 s15 hb1 g14 t14 x14 hR2 R2 Ff2 t13 x13 g12 t12 x12 Ff hR R t11 x11 r2 q2 h2a
    try dsimp only
    refine at_set ?_
    try dsimp only
    refine st_is (σ2 := [some (.ref a), some (.ref p), some (.ref m), some (.ref sw), some (.ref fu), some od, some nv, some lv, some (.ref pr), some (.ref h3), none]) rfl ?_
    -- unlike letters, and a word of two
    refine ⟨_, rfl, r3.tab, fun H11 x11 t11 R hR => ?_⟩
    obtain ⟨rf, xf, Ff⟩ := r3.pr.ext x11
    refine ⟨_, rfl, .ref pr, .int 2, rfl, .inr ⟨pr, rf, xf, Wp, Mp, "int", rfl, Ff, rimP, mateP, .int _, .inr ⟨2, rfl, by rw [lenP]; decide, .inl ⟨plP2, bad_mis x11 t11 fun H12 u3 x12 t12 g12 => ?_⟩⟩⟩⟩
    refine ⟨t12, fun H13 x13 t13 R2 hR2 => ?_⟩
    have r31 := (r3.ext x12 t12).ext x13 t13
    refine ⟨_, rfl, _, rfl, a, c, 2, n + 2 + 1, rfl, r31.hand, by omega, by decide, by decide, fun H18 z z0 z1 hH18 k18 => ?_⟩
    obtain ⟨zn, rfl⟩ : ∃ zn : Nat, z = (zn : Int) := ⟨z.toNat, by omega⟩
    have hzn : zn < 2 := by omega
    have r32 := r31.drew hH18 k18
    obtain ⟨rf2, xf2, Ff2⟩ := r32.pr
    have q31 := ((q3.ext x12).ext x13).kept r31.hand k18 h3a
    have g12b : TwoD H18 (.ref u3) ("misfit", .str "letters") := ((TwoD.str g12).ext x13).kept r31.hand.lst.choose_spec k18
    refine ⟨.ref pr, .int (zn : Int), rfl, .inr ⟨pr, rf2, xf2, Wp, Mp, "int", rfl, Ff2, rimP, mateP, .int _, .inr ⟨zn, rfl, by rw [lenP]; omega, .inr (.inl ⟨(plP0 zn hzn).1, (plP0 zn hzn).2, bad_mis (extOf (Same.refl _)) r32.tab fun H14 u4 x14 t14 g14 => ?_⟩)⟩⟩⟩
    refine ⟨by show 2 ≤ sizeLine; decide, fun b1 hb1 => ?_⟩
    have s15 := same_upd (o := .lst [.ref u3, .ref u4]) hb1
    refine HL.cat ((q31.ext x14).ext (extOf s15)) (by show 6 ≤ 40; decide) upd_same ((g12b.ext x14).ext (extOf s15)) ((TwoD.str g14).ext (extOf s15)) fun h4 H19 hh4 s16 q4 => ?_
    have r4 := ((r32.ext x14 t14).same s15).same s16
    clear s16 hh4 s15 hb1 g14 t14 x14 g12b q31 Ff2 r32 k18 hH18 r31 hR2 R2 t13 x13 g12 t12 x12 Ff hR R t11 x11 r3 q3 h3a
    try dsimp only
    refine at_set ?_
    try dsimp only
    refine st_is (σ2 := [some (.ref a), some (.ref p), some (.ref m), some (.ref sw), some (.ref fu), some od, some nv, some lv, some (.ref pr), some (.ref h4), none]) rfl ?_
    -- again
    refine ⟨_, rfl, r4.tab, fun H11 x11 t11 R hR => ?_⟩
    obtain ⟨rf, xf, Ff⟩ := r4.fl.ext x11
    refine ⟨_, rfl, .ref fu, .int 11, rfl, .inr ⟨fu, rf, xf, Wf, Mf, "int", rfl, Ff, rimF, mateF, .int _, .inr ⟨11, rfl, by rw [lenF]; decide, .inl ⟨plF11, bad_mis x11 t11 fun H12 u3 x12 t12 g12 => ?_⟩⟩⟩⟩
    refine ⟨t12, fun H13 x13 t13 R2 hR2 => ?_⟩
    refine call_cons ?_
    refine mk_two fun tw rt xt H20 s20 S20 => ?_
    have x20 := x13.trans (extOf s20)
    refine ⟨.ref tw, .int 1, rfl, .inr ⟨tw, rt, xt, Wt, Mt, "int", rfl, S20, rimT, mateT, .int _, .inr ⟨1, rfl, by rw [lenT]; decide, .inr (.inl ⟨plT1.1, plT1.2, bad_mis x20 (t13.ext s20) fun H14 u4 x14 t14 g14 => ?_⟩)⟩⟩⟩
    refine ⟨by show 2 ≤ sizeLine; decide, fun b1 hb1 => ?_⟩
    have s15 := same_upd (o := .lst [.ref u3, .ref u4]) hb1
    refine HL.cat ((q4.ext (x12.trans x14)).ext (extOf s15)) (by show 8 ≤ 40; decide) upd_same (((TwoD.str g12).ext x14).ext (extOf s15)) ((TwoD.str g14).ext (extOf s15)) fun h5 H21 hh5 s16 q5 => ?_
    have r5 := ((r4.ext (x12.trans x14) t14).same s15).same s16
    clear s16 hh5 s15 hb1 g14 t14 x14 x20 S20 s20 hR2 R2 t13 x13 g12 t12 x12 Ff hR R t11 x11 r4 q4
    try dsimp only
    refine at_set ?_
    try dsimp only
    -- what is due
    refine st_is (σ2 := [some (.ref a), some (.ref p), some (.ref m), some (.ref sw), some (.ref fu), some od, some nv, some lv, some (.ref pr), some (.ref h5), none]) rfl ?_
    have nd2S := r5.n2P.shs
    have ndS := r5.nP.shs
    have ldS := r5.lP.shs
    refine ⟨by show 2 ≤ sizeLine; decide, fun v1 hv1 => ?_⟩
    have av1 := same_upd (o := .tup [.str "sewing", .str "sewing"]) hv1
    have gv1 : L2.upd H21 v1 (.tup [.str "sewing", .str "sewing"]) v1 = some (.tup [.str "sewing", .str "sewing"]) := upd_same
    obtain ⟨K1, ev1⟩ : ∃ K1, K1 = L2.upd H21 v1 (.tup [.str "sewing", .str "sewing"]) := ⟨_, rfl⟩
    rw [← ev1] at av1 gv1 ⊢
    refine ⟨by show 1 ≤ sizeLine; decide, fun l1 hl1 => ?_⟩
    have al1 := same_upd (o := .lst [.ref v1]) hl1
    have gl1 : L2.upd K1 l1 (.lst [.ref v1]) l1 = some (.lst [.ref v1]) := upd_same
    obtain ⟨K2, el1⟩ : ∃ K2, K2 = L2.upd K1 l1 (.lst [.ref v1]) := ⟨_, rfl⟩
    rw [← el1] at al1 gl1 ⊢
    refine ⟨l1, 2, _, rfl, rfl, gl1, by decide, by decide, by show 1 * 2 ≤ sizeLine; decide, fun l2 hl2 => ?_⟩
    have al2 := same_upd (o := .lst [.ref v1, .ref v1]) hl2
    have er2 : (List.replicate (Int.toNat 2) [V.ref v1]).flatten = [.ref v1, .ref v1] := rfl
    rw [er2]
    have gl2 : L2.upd K2 l2 (.lst [.ref v1, .ref v1]) l2 = some (.lst [.ref v1, .ref v1]) := upd_same
    obtain ⟨K3, el2⟩ : ∃ K3, K3 = L2.upd K2 l2 (.lst [.ref v1, .ref v1]) := ⟨_, rfl⟩
    rw [← el2] at al2 gl2 ⊢
    have r6 := r5.same (((av1).trans al1).trans al2)
    refine cb1 (if_none rfl rfl r6.mm lm r6.nP.dp nSh nS ?_)
    refine ⟨nv2, nd2, rfl, r6.n2P.dp, nd2S.1, by show 2 ≤ sizeLine; decide, fun v2 hv2 => ?_⟩
    have av2 := same_upd (o := .tup [.str "place", .str nd2.shown]) hv2
    have gv2 : L2.upd K3 v2 (.tup [.str "place", .str nd2.shown]) v2 = some (.tup [.str "place", .str nd2.shown]) := upd_same
    obtain ⟨K4, ev2⟩ : ∃ K4, K4 = L2.upd K3 v2 (.tup [.str "place", .str nd2.shown]) := ⟨_, rfl⟩
    rw [← ev2] at av2 gv2 ⊢
    refine ⟨_, rfl, nv, nd, rfl, (r6.nP.ext (extOf av2)).dp, ndS.1, by show 2 ≤ sizeLine; decide, fun v3 hv3 => ?_⟩
    have av3 := same_upd (o := .tup [.str "place", .str nd.shown]) hv3
    have gv3 : L2.upd K4 v3 (.tup [.str "place", .str nd.shown]) v3 = some (.tup [.str "place", .str nd.shown]) := upd_same
    obtain ⟨K5, ev3⟩ : ∃ K5, K5 = L2.upd K4 v3 (.tup [.str "place", .str nd.shown]) := ⟨_, rfl⟩
    rw [← ev3] at av3 gv3 ⊢
    refine ⟨_, rfl, lv, ld, rfl, (r6.lP.ext (extOf (av2.trans av3))).dp, ldS.1, by show 2 ≤ sizeLine; decide, fun v4 hv4 => ?_⟩
    have av4 := same_upd (o := .tup [.str "letter", .str ld.shown]) hv4
    have gv4 : L2.upd K5 v4 (.tup [.str "letter", .str ld.shown]) v4 = some (.tup [.str "letter", .str ld.shown]) := upd_same
    obtain ⟨K6, ev4⟩ : ∃ K6, K6 = L2.upd K5 v4 (.tup [.str "letter", .str ld.shown]) := ⟨_, rfl⟩
    rw [← ev4] at av4 gv4 ⊢
    refine ⟨by show 2 ≤ sizeLine; decide, fun v5 hv5 => ?_⟩
    have av5 := same_upd (o := .tup [.str "letters", .int 24]) hv5
    have gv5 : L2.upd K6 v5 (.tup [.str "letters", .int 24]) v5 = some (.tup [.str "letters", .int 24]) := upd_same
    obtain ⟨K7, ev5⟩ : ∃ K7, K7 = L2.upd K6 v5 (.tup [.str "letters", .int 24]) := ⟨_, rfl⟩
    rw [← ev5] at av5 gv5 ⊢
    refine ⟨by show 4 ≤ sizeLine; decide, fun l3 hl3 => ?_⟩
    have al3 := same_upd (o := .lst [.ref v2, .ref v3, .ref v4, .ref v5]) hl3
    have gl3 : L2.upd K7 l3 (.lst [.ref v2, .ref v3, .ref v4, .ref v5]) l3 = some (.lst [.ref v2, .ref v3, .ref v4, .ref v5]) := upd_same
    obtain ⟨K8, el3⟩ : ∃ K8, K8 = L2.upd K7 l3 (.lst [.ref v2, .ref v3, .ref v4, .ref v5]) := ⟨_, rfl⟩
    rw [← el3] at al3 gl3 ⊢
    have d1 : HL K8 l2 [("sewing", .str "sewing"), ("sewing", .str "sewing")] := ⟨_, (((((av2).trans av3).trans av4).trans av5).trans al3) _ _ gl2, .cons ((TwoD.str gv1).ext (extOf (((((((al1).trans al2).trans av2).trans av3).trans av4).trans av5).trans al3))) (.cons ((TwoD.str gv1).ext (extOf (((((((al1).trans al2).trans av2).trans av3).trans av4).trans av5).trans al3))) .nil)⟩
    have d2 : HL K8 l3 [("place", .str nd2.shown), ("place", .str nd.shown), ("letter", .str ld.shown), ("letters", .int 24)] := ⟨_, gl3, .cons ((TwoD.str gv2).ext (extOf ((((av3).trans av4).trans av5).trans al3))) (.cons ((TwoD.str gv3).ext (extOf (((av4).trans av5).trans al3))) (.cons ((TwoD.str gv4).ext (extOf ((av5).trans al3))) (.cons ((TwoD.int gv5).ext (extOf al3)) .nil)))⟩
    refine HL.app d1 d2 (by show 2 ≤ 20; decide) (by show 4 ≤ 20; decide) fun D1 K9 hD1 sD1 dd => ?_
    try dsimp only
    refine at_set ?_
    try dsimp only
    refine st_is (σ2 := [some (.ref a), some (.ref p), some (.ref m), some (.ref sw), some (.ref fu), some od, some nv, some lv, some (.ref pr), some (.ref h5), some (.ref D1)]) rfl ?_
    refine ⟨_, rfl, _, rfl, by show 2 ≤ sizeLine; decide, fun v6 hv6 => ?_⟩
    have av6 := same_upd (o := .tup [.str "misfit", .str "letters"]) hv6
    have gv6 : L2.upd K9 v6 (.tup [.str "misfit", .str "letters"]) v6 = some (.tup [.str "misfit", .str "letters"]) := upd_same
    obtain ⟨K10, ev6⟩ : ∃ K10, K10 = L2.upd K9 v6 (.tup [.str "misfit", .str "letters"]) := ⟨_, rfl⟩
    rw [← ev6] at av6 gv6 ⊢
    refine ⟨by show 2 ≤ sizeLine; decide, fun v7 hv7 => ?_⟩
    have av7 := same_upd (o := .tup [.str "misfit", .str "empty"]) hv7
    have gv7 : L2.upd K10 v7 (.tup [.str "misfit", .str "empty"]) v7 = some (.tup [.str "misfit", .str "empty"]) := upd_same
    obtain ⟨K11, ev7⟩ : ∃ K11, K11 = L2.upd K10 v7 (.tup [.str "misfit", .str "empty"]) := ⟨_, rfl⟩
    rw [← ev7] at av7 gv7 ⊢
    refine ⟨by show 2 ≤ sizeLine; decide, fun v8 hv8 => ?_⟩
    have av8 := same_upd (o := .tup [.str "misfit", .str "letters"]) hv8
    have gv8 : L2.upd K11 v8 (.tup [.str "misfit", .str "letters"]) v8 = some (.tup [.str "misfit", .str "letters"]) := upd_same
    obtain ⟨K12, ev8⟩ : ∃ K12, K12 = L2.upd K11 v8 (.tup [.str "misfit", .str "letters"]) := ⟨_, rfl⟩
    rw [← ev8] at av8 gv8 ⊢
    refine ⟨by show 2 ≤ sizeLine; decide, fun v9 hv9 => ?_⟩
    have av9 := same_upd (o := .tup [.str "misfit", .str "empty"]) hv9
    have gv9 : L2.upd K12 v9 (.tup [.str "misfit", .str "empty"]) v9 = some (.tup [.str "misfit", .str "empty"]) := upd_same
    obtain ⟨K13, ev9⟩ : ∃ K13, K13 = L2.upd K12 v9 (.tup [.str "misfit", .str "empty"]) := ⟨_, rfl⟩
    rw [← ev9] at av9 gv9 ⊢
    refine ⟨by show 4 ≤ sizeLine; decide, fun l4 hl4 => ?_⟩
    have al4 := same_upd (o := .lst [.ref v6, .ref v7, .ref v8, .ref v9]) hl4
    have gl4 : L2.upd K13 l4 (.lst [.ref v6, .ref v7, .ref v8, .ref v9]) l4 = some (.lst [.ref v6, .ref v7, .ref v8, .ref v9]) := upd_same
    obtain ⟨K14, el4⟩ : ∃ K14, K14 = L2.upd K13 l4 (.lst [.ref v6, .ref v7, .ref v8, .ref v9]) := ⟨_, rfl⟩
    rw [← el4] at al4 gl4 ⊢
    have d3 : HL K14 l4 [("misfit", .str "letters"), ("misfit", .str "empty"), ("misfit", .str "letters"), ("misfit", .str "empty")] := ⟨_, gl4, .cons ((TwoD.str gv6).ext (extOf ((((av7).trans av8).trans av9).trans al4))) (.cons ((TwoD.str gv7).ext (extOf (((av8).trans av9).trans al4))) (.cons ((TwoD.str gv8).ext (extOf ((av9).trans al4))) (.cons ((TwoD.str gv9).ext (extOf al4)) .nil)))⟩
    refine HL.app (dd.ext (extOf (((((av6).trans av7).trans av8).trans av9).trans al4))) d3 (by show 6 ≤ 20; decide) (by show 4 ≤ 20; decide) fun D2 K15 hD2 sD2 de => ?_
    have qL := q5.ext (extOf (((((((((((((((av1).trans al1).trans al2).trans av2).trans av3).trans av4).trans av5).trans al3).trans sD1).trans av6).trans av7).trans av8).trans av9).trans al4).trans sD2))
    have rL := r5.same (((((((((((((((av1).trans al1).trans al2).trans av2).trans av3).trans av4).trans av5).trans al3).trans sD1).trans av6).trans av7).trans av8).trans av9).trans al4).trans sD2)
    obtain ⟨L, eL⟩ : ∃ L : List (Str × PyData), L = ([("sewing", .str "sewing"), ("sewing", .str "sewing"), ("place", .str nd2.shown), ("place", .str nd.shown), ("letter", .str ld.shown), ("letters", .int 24), ("misfit", .str "letters"), ("misfit", .str "empty"), ("misfit", .str "letters"), ("misfit", .str "empty")] : List (Str × PyData)) := ⟨_, rfl⟩
    have lay : ∀ d ∈ L, PyData.canLay0 (.str d.1) = true ∧ PyData.canLay0 d.2 = true := fun d hd => by
      rw [eL] at hd
      simp only [List.mem_cons, List.mem_nil_iff, or_false] at hd
      rcases hd with rfl | rfl | rfl | rfl | rfl | rfl | rfl | rfl | rfl | rfl
      · exact ⟨by decide +kernel, by decide +kernel⟩
      · exact ⟨by decide +kernel, by decide +kernel⟩
      · exact ⟨by show PyData.canLay0 (.str "place") = true; decide +kernel, nd2S.2⟩
      · exact ⟨by show PyData.canLay0 (.str "place") = true; decide +kernel, ndS.2⟩
      · exact ⟨by show PyData.canLay0 (.str "letter") = true; decide +kernel, ldS.2⟩
      · exact ⟨by decide +kernel, by decide +kernel⟩
      · exact ⟨by decide +kernel, by decide +kernel⟩
      · exact ⟨by decide +kernel, by decide +kernel⟩
      · exact ⟨by decide +kernel, by decide +kernel⟩
      · exact ⟨by decide +kernel, by decide +kernel⟩
    have evl : ∀ d ∈ L, PyData.eqv d.2 d.2 = true := fun d hd => by
      rw [eL] at hd
      simp only [List.mem_cons, List.mem_nil_iff, or_false] at hd
      rcases hd with rfl | rfl | rfl | rfl | rfl | rfl | rfl | rfl | rfl | rfl
      · exact eqv_s _
      · exact eqv_s _
      · exact eqv_s _
      · exact eqv_s _
      · exact eqv_s _
      · exact by decide +kernel
      · exact eqv_s _
      · exact eqv_s _
      · exact eqv_s _
      · exact eqv_s _
    have sh : SeqAt.shaped (.list (dps L)) = true := Bool.and_eq_true_iff.mpr ⟨dps_lay _ lay, by rw [eL]; rfl⟩
    have ev : PyData.eqv (.list (dps L)) (.list (dps L)) = true := dps_eqv L evl
    have qD : HL K15 h5 L := by rw [eL]; exact qL
    have dD : HL K15 D2 L := by rw [eL]; exact de
    have fin := k _ rL.hand rL.tab
    rw [← ev] at fin
    exact ⟨_, _, qD.dp, dD.dp, sh, sh, fin⟩
end
end W17
set_option Elab.async false
set_option linter.all false
set_option maxRecDepth 100000
set_option maxHeartbeats 1000000
namespace W17
open PySem L2 PySem.Spec PyProof.Rows WR WB WE WS
/-! ### lists of lists of ints, written out -/
def LitI (ta : TA) (ns : List Int) : Prop := ∀ (σ : L2.St) (H : Hp) (Q : List V → Hp → Prop), Q (iv ns) H → ta σ H Q
def Lits (ta : TA) (cs : List (List Int)) : Prop := ∀ (σ : L2.St) (H : Hp) (Q : List V → Hp → Prop), (∀ us H', Same H H' → LLs H' us cs → Q us H') → ta σ H Q
theorem liti_nil : LitI tNil [] := fun _ _ _ q => q
theorem liti_cons {i : Int} {ns : List Int} {tr : TA} (h : LitI tr ns) : LitI (tCons (tC (.int i)) tr) (i :: ns) := fun σ H Q q => h σ H _ q
theorem lits_nil : Lits tNil [] := fun _ H _ q => q [] H (Same.refl _) .nil
theorem lits_cons {ta tr : TA} {ns : List Int} {cs : List (List Int)} (h1 : LitI ta ns) (hz : ns.length ≤ 1000) (h2 : Lits tr cs) : Lits (tCons (tLst ta) tr) (ns :: cs) := fun σ H Q q => by
  refine h1 σ H _ ⟨by rw [List.length_map]; exact Nat.le_trans hz (by decide), fun l hl => ?_⟩
  have s1 := same_upd (o := .lst (iv ns)) hl
  refine h2 σ _ _ fun us H' s2 hu => q _ _ (s1.trans s2) (.cons ⟨l, rfl, s2 _ _ upd_same⟩ hu)
theorem liti_neg {i : Int} {ns : List Int} {tr : TA} (h : LitI tr ns) : LitI (tCons (tUn (rU fun i => V.int (-i)) (tC (.int i))) tr) (-i :: ns) := fun σ H Q q => ⟨_, rfl, h σ H _ q⟩
theorem cons1 {te : TE} {tr : TA} {σ : L2.St} {H : Hp} {Q : List V → Hp → Prop} (h : te σ H fun x H1 => tr σ H1 fun xs H2 => Q (x :: xs) H2) : tCons te tr σ H Q := h
theorem seq_asg {te : TE} {g : TG} {b : TS} {D : Ends} {σ : L2.St} {H : Hp} (h : te σ H fun v H1 => g v σ H1 (b D)) : tSeq (tAsg te g) b D σ H := h
/-! ### the law -/
def CSs : List (List Int) := [[2, 1], [3], [2, 2], [3, 2], [1], [4, 1], [1, 1, 1], [4, 4, 3], [2], [5, 2], [11], [3, 3, 3]]
theorem CSs_ok : ∀ w ∈ CSs, w = nats (w.map Int.toNat) ∧ (w.map Int.toNat).length ≤ 20 ∧ 1 ≤ (w.map Int.toNat).sum ∧ (w.map Int.toNat).sum ≤ 11 := by decide +kernel
theorem lst_lits {ta : TA} {cs : List (List Int)} {σ : L2.St} {H : Hp} {Q : VK} (hL : Lits ta cs) (h : ∀ us H', Same H H' → LLs H' us cs → us.length ≤ sizeLine ∧ ∀ l, H' l = none → Q (.ref l) (L2.upd H' l (.lst us))) : tLst ta σ H Q := hL σ H _ h
theorem lls_mem {H : Hp} {us : List V} {ws : List (List Int)} (h : LLs H us ws) {v : V} (hv : v ∈ us) : ∃ q, ∃ w ∈ ws, v = .ref q ∧ H q = some (.lst (iv w)) := by
  obtain ⟨i, hi, e⟩ := List.getElem_of_mem hv
  obtain ⟨w, hw, q, e2, g⟩ := h.at (List.getElem?_eq_getElem hi)
  exact ⟨q, w, List.mem_of_getElem? hw, by rw [← e, e2], g⟩
theorem PlainOk.l22 {cs : List Nat} {ws : List (List Int)} {ks : List Int} (h : PlainOk cs ws ks) (hs : cs.sum ≤ 11) : ws.flatten.length ≤ 22 := by
  rw [h.pm.length_eq, plF_len]
  have := sum_zip ks cs
  omega
def Wa : List Int := [1, 2, -1, -2, 3, -3, 2, 1, -2, -1]
def Wb : List Int := [5, -5, 5, -5, 5, -5]
theorem rimA : RimOk [Wa] := by
  unfold RimOk Lts
  decide +kernel
theorem rimB : RimOk [Wb] := by
  unfold RimOk Lts
  decide +kernel
theorem balA (z : Int) : (Wa.count z : Int) = Wa.count (-z) := by
  have p : Wa.Perm (plF [(1, 2), (2, 2), (3, 1)]) := by decide +kernel
  rw [p.count_eq, p.count_eq]
  exact plF_cnt0 z _
theorem balB (z : Int) : (Wb.count z : Int) = Wb.count (-z) := plF_cnt0 z [(5, 3)]
theorem ltsA : Lts Wa := by
  unfold Lts
  decide +kernel
theorem ltsB : Lts Wb := by
  unfold Lts
  decide +kernel
def spLaw (K : PySem.W.Frag) (T : List (Addr × Str)) : Sp := fun vs H Q _ => ∃ (a : Addr) (ns : List Int), vs = [.ref a] ∧ SqL K H a (ns.map V.int) ∧ ns.length ≤ 63 ∧ LamX.Tabs T H ∧ ∀ H', Q (.bl true) H'
abbrev sLaw : Stmt := top 86
abbrev nLaw : List Str := ["_law_script", "_law_pen_here", "_law_turn", "_law_words", "_law_mates_here"]
theorem scLaw : FnScope nLaw ["_law_script"] (defScope sLaw) := ⟨rfl, rfl, rfl, by decide +kernel, rfl, by decide +kernel, by decide +kernel⟩
section
variable {P : Program} {w : World} {K : PySem.W.Frag} {mg : Str → Option Value} {base : Heap} {C CR CS : Addr}
theorem ok_Law {f : Addr} {fd : FuncData} {TT : List (Addr × Str)} (F : Fun K "law" "law" sLaw f fd) (N : TN mg)
    (G_pen : Cal P w K mg base "_law_pen" 1 ["_law_script"] (spHand K)) (G_pick : Cal P w K mg base "_law_pick" 2 ["_law_pen_here", "_law_some"] spPick) (G_plain : Cal P w K mg base "_law_plain" 4 ["_law_pen_here", "_law_counts"] spPlain) (G_letters : Cal P w K mg base "_law_letters" 1 ["_law_words"] spLets)
    (G_mates : Cal P w K mg base "_law_mates" 3 ["_law_pen_here", "_law_letters_here"] spMates) (G_put_right : Cal P w K mg base "_law_put_right" 11 ["_law_pen_here", "_law_words", "_law_mates_here"] (spPutR K C CR CS))
    (G_taken_right : Cal P w K mg base "_law_taken_right" 11 ["_law_pen_here", "_law_words", "_law_mates_here"] (spTakR K C CR CS)) (G_RR : RG.CalG P w K mg base "_law_refused_right" 13 ["_law_pen_here", "_law_words", "_law_mates_here"] (spRR K TT)) :
    RG.FnG P w K mg base 14 f fd ["_law_script"] (spLaw K TT) := by
  refine RG.Fun.okG F scLaw (fun vs H Q E h => ?_) (fun cdv A outer s H vs Q E hg hr h => ?_)
  · obtain ⟨a, ns, rfl, _⟩ := h
    rfl
  · obtain ⟨a, ns, rfl, hS, hlen, tT, k⟩ := h
    refine ⟨_, pss_cons (ps_set (i := 1) scLaw.nd rfl (Or.inl rfl) (pe_cal G_pen hr (by decide) (by rfl) (pa_cons (pv 0) pa_nil)))
      (pss_cons (ps_for PassesOwn.never rfl (pi_range1 (by rfl) N.range (pa_cons pe_int pa_nil)) (pg_name (i := 2) scLaw.nd rfl (Or.inl rfl))
      (pss_cons (ps_set (i := 3) scLaw.nd rfl (Or.inl rfl) (pe_cal G_plain hr (by decide) (by rfl) (pa_cons (pv 1) (pa_cons (pe_cal G_pick hr (by decide) (by rfl) (pa_cons (pv 1) (pa_cons (pe_lst (pa_cons (pe_lst (pa_cons pe_int (pa_cons pe_int pa_nil))) (pa_cons (pe_lst (pa_cons pe_int pa_nil)) (pa_cons (pe_lst (pa_cons pe_int (pa_cons pe_int pa_nil))) (pa_cons (pe_lst (pa_cons pe_int (pa_cons pe_int pa_nil))) (pa_cons (pe_lst (pa_cons pe_int pa_nil)) (pa_cons (pe_lst (pa_cons pe_int (pa_cons pe_int pa_nil))) (pa_cons (pe_lst (pa_cons pe_int (pa_cons pe_int (pa_cons pe_int pa_nil)))) (pa_cons (pe_lst (pa_cons pe_int (pa_cons pe_int (pa_cons pe_int pa_nil)))) (pa_cons (pe_lst (pa_cons pe_int pa_nil)) (pa_cons (pe_lst (pa_cons pe_int (pa_cons pe_int pa_nil))) (pa_cons (pe_lst (pa_cons pe_int pa_nil)) (pa_cons (pe_lst (pa_cons pe_int (pa_cons pe_int (pa_cons pe_int pa_nil)))) pa_nil))))))))))))) pa_nil))) pa_nil))))
      (pss_cons (ps_set (i := 4) scLaw.nd rfl (Or.inl rfl) (pe_cal G_mates hr (by decide) (by rfl) (pa_cons (pv 1) (pa_cons (pe_cal G_letters hr (by decide) (by rfl) (pa_cons (pv 3) pa_nil)) pa_nil))))
      (pss_one (ps_if (PW.pt (pw_or (pt_not (pt_val (pe_cal G_put_right hr (by decide) (by rfl) (pa_cons (pv 1) (pa_cons (pv 3) (pa_cons (pv 4) pa_nil)))))) (pw_or (pt_not (pt_val (pe_cal G_taken_right hr (by decide) (by rfl) (pa_cons (pv 1) (pa_cons (pv 3) (pa_cons (pv 4) pa_nil)))))) (pw_or1 (pt_not (pt_val (RG.pe_calG G_RR hg hr (by decide) (by rfl) (pa_cons (pv 1) (pa_cons (pv 3) (pa_cons (pv 4) pa_nil)))))))))) (pss_one (ps_ret pe_bl)) pss_nil)))))
      (pss_cons (ps_set (i := 3) scLaw.nd rfl (Or.inl rfl) (pe_lst (pa_cons (pe_lst (pa_cons pe_int (pa_cons pe_int (pa_cons (pe_un un_neg pe_int) (pa_cons (pe_un un_neg pe_int) (pa_cons pe_int (pa_cons (pe_un un_neg pe_int) (pa_cons pe_int (pa_cons pe_int (pa_cons (pe_un un_neg pe_int) (pa_cons (pe_un un_neg pe_int) pa_nil))))))))))) pa_nil)))
      (pss_one (ps_ret (pe_and (pe_cal G_taken_right hr (by decide) (by rfl) (pa_cons (pv 1) (pa_cons (pv 3) (pa_cons (pe_cal G_mates hr (by decide) (by rfl) (pa_cons (pv 1) (pa_cons (pe_ix ix_list (pv 3) pe_int (fun _ _ => rfl)) pa_nil))) pa_nil)))) (pe_one (pe_cal G_taken_right hr (by decide) (by rfl) (pa_cons (pv 1) (pa_cons (pe_lst (pa_cons (pe_lst (pa_cons pe_int (pa_cons (pe_un un_neg pe_int) (pa_cons pe_int (pa_cons (pe_un un_neg pe_int) (pa_cons pe_int (pa_cons (pe_un un_neg pe_int) pa_nil))))))) pa_nil)) (pa_cons (pe_cal G_mates hr (by decide) (by rfl) (pa_cons (pv 1) (pa_cons (pe_op op_rep (pe_lst (pa_cons pe_int (pa_cons (pe_un un_neg pe_int) pa_nil))) pe_int) pa_nil))) pa_nil)))))))))), ?_⟩
    refine ⟨_, rfl, a, ns, rfl, hS, by omega, fun H1 h c s1 hn cn hH1 => ?_⟩
    have t1 := tT.ext s1
    refine ⟨3, rfl, by decide, by decide, for_range (lo := 0) (n := 3) (fun i σ H' => (∃ v2 v3 v4 : Option V, σ = [some (.ref a), some (.ref h), v2, v3, v4]) ∧ HandAt H' h c (400 * i) ∧ LamX.Tabs TT H') ⟨⟨none, none, none, rfl⟩, hH1, t1⟩ ?_ ?_⟩
    · rintro i σ H2 hi ⟨⟨v2, v3, v4, rfl⟩, hH2, t2⟩
      refine ⟨_, rfl, _, rfl, ar1 (lst_lits (cs := CSs) (lits_cons (liti_cons (liti_cons liti_nil)) (by decide) (lits_cons (liti_cons liti_nil) (by decide) (lits_cons (liti_cons (liti_cons liti_nil)) (by decide) (lits_cons (liti_cons (liti_cons liti_nil)) (by decide) (lits_cons (liti_cons liti_nil) (by decide) (lits_cons (liti_cons (liti_cons liti_nil)) (by decide) (lits_cons (liti_cons (liti_cons (liti_cons liti_nil))) (by decide) (lits_cons (liti_cons (liti_cons (liti_cons liti_nil))) (by decide) (lits_cons (liti_cons liti_nil) (by decide) (lits_cons (liti_cons (liti_cons liti_nil)) (by decide) (lits_cons (liti_cons liti_nil) (by decide) (lits_cons (liti_cons (liti_cons (liti_cons liti_nil))) (by decide) lits_nil)))))))))))) fun us H3 s3 hu => ⟨by rw [hu.length]; decide, fun O hO => ?_⟩)⟩
      have lu : us.length = 12 := hu.length
      have s4 := same_upd (o := .lst us) hO
      have gO : L2.upd H3 O (.lst us) O = some (.lst us) := upd_same
      have s24 := s3.trans s4
      have hH4 := hH2.same s24
      have Oh := (hH2.same s3).ne hO
      have hu4 := hu.same s4
      have t4 := t2.ext s24
      generalize L2.upd H3 O (.lst us) = H4 at s4 gO s24 hH4 hu4 t4 ⊢
      refine ⟨h, c, O, us, 400 * i, rfl, hH4, by omega, Oh, gO, by omega, by omega, fun v hv H5 d5 => ?_⟩
      obtain ⟨cq, cw, hcw, rfl, gq4⟩ := lls_mem hu4 hv
      have gq5 := d5.2 _ _ (hH4.ne_iv gq4) gq4
      have cqh := d5.1.ne_iv gq5
      have t5 := d5.tabs hH4 t4
      obtain ⟨k1, k2, k3, k4⟩ := CSs_ok cw hcw
      refine ⟨h, c, cq, cw.map Int.toNat, 400 * i + 1, rfl, d5.1, cqh, by rw [← k1]; exact gq5, k2, k3, by omega, by omega, fun p H6 ws_ wl ks hp6 d6 gp6 L6 pok => ?_⟩
      have t6 := d6.tabs d5.1 t5
      have rok := pok.ok (by omega)
      have l22 := pok.l22 k4
      have bal : ∀ z, (wl.flatten.count z : Int) = wl.flatten.count (-z) := fun z => by
        rw [pok.pm.count_eq, pok.pm.count_eq]
        exact plF_cnt0 z _
      have lts := rok.2.2.2.2.1
      try dsimp only
      refine at_set ?_
      try dsimp only
      -- its mates
      refine ⟨_, rfl, _, rfl, p, ws_, wl, rfl, gp6, L6, by omega, fun lq H7 hlq s7 gl7 => ?_⟩
      have gp7 := s7 _ _ gp6
      have L7 := L6.same s7
      have hH7 := d6.1.same s7
      have t7 := t6.ext s7
      refine ⟨h, c, lq, wl.flatten, 400 * i + 1 + 200, rfl, hH7, hH7.ne_iv gl7, gl7, by omega, lts, bal, by omega, fun m H8 mt hm8 d8 gm8 mok => ?_⟩
      have gp8 := d8.2 _ _ (hH7.ne_refs gp7 L7.refs) gp7
      have L8 := L7.drew hH7 d8
      have t8 := d8.tabs hH7 t7
      have hH8 := d8.1
      try dsimp only
      refine at_set ?_
      try dsimp only
      refine ⟨_, rfl, _, rfl, _, rfl, h, c, p, m, ws_, wl, mt, 400 * i + 1 + 200 + 100, rfl, hH8, by omega, gp8, L8, rok, l22, mok, gm8, fun H9 d9 => ⟨_, rfl, iteF ?_⟩⟩
      have gp9 := d9.2 _ _ (hH8.ne_refs gp8 L8.refs) gp8
      have L9 := L8.drew hH8 d9
      have gm9 := d9.2 _ _ (hH8.ne_iv gm8) gm8
      have t9 := d9.tabs hH8 t8
      have hH9 := d9.1
      refine ⟨_, rfl, _, rfl, _, rfl, h, c, p, m, ws_, wl, mt, 400 * i + 1 + 200 + 100 + 2, rfl, hH9, by omega, gp9, L9, rok, mok, gm9, fun Ha da => ⟨_, rfl, iteF ?_⟩⟩
      have gpa := da.2 _ _ (hH9.ne_refs gp9 L9.refs) gp9
      have La := L9.drew hH9 da
      have gma := da.2 _ _ (hH9.ne_iv gm9) gm9
      have ta := da.tabs hH9 t9
      refine ⟨_, rfl, _, rfl, _, rfl, h, c, p, m, ws_, wl, mt, 400 * i + 1 + 200 + 100 + 2 + 24, rfl, da.1, by omega, gpa, La, rok, l22, mok, gma, ta, fun Hb hb tb => ⟨_, rfl, iteF ?_⟩⟩
      exact ⟨⟨_, _, _, rfl⟩, hb.mono (by omega), tb⟩
    · rintro σ H2 ⟨⟨v2, v3, v4, rfl⟩, hH2, t2⟩
      try dsimp only
      refine seq_asg ?_
      refine lst_lits (cs := [Wa]) (lits_cons (liti_cons (liti_cons (liti_neg (liti_neg (liti_cons (liti_neg (liti_cons (liti_cons (liti_neg (liti_neg liti_nil)))))))))) (by decide) lits_nil) fun us H3 s3 hu => ⟨by rw [hu.length]; decide, fun O hO => ?_⟩
      have s4 := same_upd (o := .lst us) hO
      have gO : L2.upd H3 O (.lst us) O = some (.lst us) := upd_same
      have s24 := s3.trans s4
      have hH4 := hH2.same s24
      have hu4 := hu.same s4
      generalize L2.upd H3 O (.lst us) = H4 at s4 gO s24 hH4 hu4 ⊢
      try dsimp only
      refine at_set ?_
      try dsimp only
      obtain ⟨uq, rfl, gu⟩ : ∃ uq, us = [V.ref uq] ∧ H4 uq = some (.lst (iv Wa)) := by
        cases hu4 with
        | cons h1 h2 =>
          cases h2
          obtain ⟨q, e, g⟩ := h1
          exact ⟨q, by rw [e], g⟩
      refine ⟨_, rfl, _, rfl, _, rfl, _, rfl, O, _, _, _, rfl, rfl, SqL.of gO, rfl, h, c, uq, Wa, 1200, rfl, hH4, hH4.ne_iv gu, gu, by decide, ltsA, balA, by omega, fun m H5 mt hm5 d5 gm5 mok => ?_⟩
      have gO5 := d5.2 _ _ (hH4.ne_refs gO hu4.refs) gO
      have L5 := hu4.drew hH4 d5
      have mok1 : MatOk [Wa].flatten mt := mok
      refine ⟨h, c, O, m, _, [Wa], mt, 1200 + 100, rfl, d5.1, by omega, gO5, L5, rimA, mok1, gm5, fun H6 d6 => ⟨_, rfl, iteT ?_⟩⟩
      refine ⟨_, rfl, ?_⟩
      refine cons1 ?_
      refine lst_lits (cs := [Wb]) (lits_cons (liti_cons (liti_neg (liti_cons (liti_neg (liti_cons (liti_neg liti_nil)))))) (by decide) lits_nil) fun us7 H7 s7 hu7 => ⟨by rw [hu7.length]; decide, fun O8 hO8 => ?_⟩
      have s8 := same_upd (o := .lst us7) hO8
      have gO8 : L2.upd H7 O8 (.lst us7) O8 = some (.lst us7) := upd_same
      have s68 := s7.trans s8
      have hu8 := hu7.same s8
      have hH8 := d6.1.same s68
      generalize L2.upd H7 O8 (.lst us7) = H8 at s8 gO8 s68 hu8 hH8 ⊢
      refine ⟨_, rfl, _, rfl, by show 2 ≤ sizeLine; decide, fun l9 hl9 => ⟨l9, 3, _, rfl, rfl, upd_same, by decide, by decide, by show 2 * 3 ≤ sizeLine; decide, fun r9 hr9 => ?_⟩⟩
      have e9 : (List.replicate (Int.toNat 3) [V.int 5, (fun i => V.int (-i)) 5]).flatten = iv Wb := rfl
      rw [e9]
      have s9 := (same_upd (o := .lst [V.int 5, (fun i => V.int (-i)) 5]) hl9).trans (same_upd (o := .lst (iv Wb)) hr9)
      have g9 : L2.upd (L2.upd H8 l9 (.lst [V.int 5, (fun i => V.int (-i)) 5])) r9 (.lst (iv Wb)) r9 = some (.lst (iv Wb)) := upd_same
      generalize L2.upd (L2.upd H8 l9 (.lst [V.int 5, (fun i => V.int (-i)) 5])) r9 (.lst (iv Wb)) = H9 at s9 g9 ⊢
      have hH9 := hH8.same s9
      have hu9 := hu8.same s9
      have gO9 := s9 _ _ gO8
      refine ⟨h, c, r9, Wb, 1200 + 100 + 24, rfl, hH9, hH9.ne_iv g9, g9, by decide, ltsB, balB, by omega, fun m2 Ha mt2 hm2 da gm2 mok2 => ?_⟩
      have gOa := da.2 _ _ (hH9.ne_refs gO9 hu9.refs) gO9
      have La := hu9.drew hH9 da
      have mokB : MatOk [Wb].flatten mt2 := mok2
      exact ⟨h, c, O8, m2, us7, [Wb], mt2, _, rfl, da.1, by omega, gOa, La, rimB, mokB, gm2, fun Hb _ => k Hb⟩
end
end W17
set_option Elab.async false
set_option linter.all false
set_option maxRecDepth 100000
set_option maxHeartbeats 1000000
/-! the law's own call: no repr is under way, and lambdas' tables stand empty. -/
namespace RG
open PySem L2 PySem.Spec PyProof.Rows
section
variable {P : Program} {w : World} {K : PySem.W.Frag} {s : Shared} {a : Addr} {vs : List Value} {ns : List Int} {cs : List (Addr × Addr)}
def tblO : Obj := { cls := .none, data := .fields #[] }
/-- the script and the tables -/
def startT (K : PySem.W.Frag) (cs : List (Addr × Addr)) (a : Addr) (vs : List Value) (ns : List Int) : Hp := fun b => if b ∈ cs.map (·.2) then some (.tbl #[]) else startH K a vs ns b
structure Tbls (K : PySem.W.Frag) (h : Heap) (cs : List (Addr × Addr)) : Prop where
  at_ : ∀ p ∈ cs, h.get? p.2 = some tblO
  out : ∀ p ∈ cs, K.lookup p.2 = none
  hd : ∀ p ∈ cs, PySem.W.CodeHd h p.1 p.2
theorem startT_in {b : Addr} (h : b ∈ cs.map (·.2)) : startT K cs a vs ns b = some (.tbl #[]) := if_pos h
theorem startT_out {b : Addr} (h : b ∉ cs.map (·.2)) : startT K cs a vs ns b = startH K a vs ns b := if_neg h
theorem Tbls.mem {h : Heap} (T : Tbls K h cs) {b : Addr} (hb : b ∈ cs.map (·.2)) : h.get? b = some tblO ∧ K.lookup b = none := by
  obtain ⟨p, hp, rfl⟩ := List.mem_map.mp hb
  exact ⟨T.at_ p hp, T.out p hp⟩
/-- what is neither a list nor a table is not told of -/
theorem startT_no (T : Tbls K s.heap cs) (at_ : s.heap.get? a = some (scriptO vs)) {b : Addr} {o : Obj} (e : s.heap.get? b = some o) (n1 : ∀ xs n, o.data ≠ .seq xs n) (n2 : o.data ≠ .fields #[]) : startT K cs a vs ns b = none := by
  by_cases hb : b ∈ cs.map (·.2)
  · have := (T.mem hb).1
    rw [e] at this
    cases this
    exact absurd rfl n2
  · rw [startT_out hb]
    cases q : startH K a vs ns b with
    | none => rfl
    | some u =>
      obtain ⟨rfl, _⟩ := startH_some q
      rw [at_] at e
      cases e
      exact absurd rfl (n1 _ _)
theorem startT_ns (T : Tbls K s.heap cs) (at_ : s.heap.get? a = some (scriptO vs)) {b : Addr} {m : Str → Option Value} (h : s.heap.Ns b m) : (hidT s.heap (startT K cs a vs ns)).Ns b m := by
  obtain ⟨o, es, ep, get, data, rest⟩ := h
  exact ⟨o, es, ep, hidT_get get (startT_no T at_ get (fun xs n z => by rw [data] at z; cases z) fun z => by rw [data] at z; cases z), data, rest⟩
theorem startT_kin (T : Tbls K s.heap cs) (KX : K.In s.heap) : K.In (hidT s.heap (startT K cs a vs ns)) := fun b o e => by
  refine hidT_get (KX b o e) ?_
  have hb : b ∉ cs.map (·.2) := fun z => by
    rw [(T.mem z).2] at e
    cases e
  rw [startT_out hb]
  cases q : startH K a vs ns b with
  | none => rfl
  | some u =>
    obtain ⟨rfl, none_, _⟩ := startH_some q
    rw [none_] at e
    cases e
theorem startT_ok (T : Tbls K s.heap cs) (at_ : s.heap.get? a = some (scriptO vs)) (whole : IntsAre vs ns) (few : ns.length ≤ sizeLine) : HOk P w (startT K cs a vs ns) s.heap := fun b u h => by
  by_cases hb : b ∈ cs.map (·.2)
  · rw [startT_in hb] at h
    cases h
    exact (T.mem hb).1
  · rw [startT_out hb] at h
    obtain ⟨rfl, _, rfl⟩ := startH_some h
    exact ⟨at_, (by rw [List.length_map]; exact few), vs, _, vals_ints whole, at_⟩
theorem startT_seq (T : Tbls K s.heap cs) (KX : K.In s.heap) (at_ : s.heap.get? a = some (scriptO vs)) (whole : IntsAre vs ns) (few : ns.length ≤ sizeLine) : SqL K (startT K cs a vs ns) a (ns.map V.int) := by
  have ha : a ∉ cs.map (·.2) := fun z => by
    have := (T.mem z).1
    rw [at_] at this
    have z' : Data.seq vs.toArray _ = Data.fields #[] := congrArg Obj.data (Option.some.inj this)
    cases z'
  rcases startH_seq KX at_ whole few with h | h
  · refine .inl ?_
    rcases h with h | ⟨o, h⟩
    · exact .inl ((startT_out ha).trans h)
    · exact .inr ⟨o, (startT_out ha).trans h⟩
  · exact .inr h
theorem startT_tab (T : Tbls K s.heap cs) (at_ : s.heap.get? a = some (scriptO vs)) {mg : Str → Option Value} (top : s.heap.Ns mainGlobals mg)
    (hbm : ∃ (bm : Addr) (ob : Obj), mg "__builtins__" = some (.ref bm) ∧ bm ≠ builtinsNs ∧ s.heap.get? bm = some ob ∧ ob.cls = .type "module" ∧ ob.dict = some builtinsNs ∧ ob.data = .plain) : ∀ p ∈ cs, LamX.TabB (hidT s.heap (startT K cs a vs ns)) mg p.1 p.2 := fun p hp => by
  have tp := T.at_ p hp
  obtain ⟨go, ges, gep, gget, gdata, _⟩ := top
  obtain ⟨bm, ob, b1, b2, b3, b4, b5, b6⟩ := hbm
  constructor
  · obtain ⟨o, us, file, tf, flags, tg, inF, text, tt, e1, r1, r2, r3, rest⟩ := T.hd p hp
    refine ⟨o, us, file, tf, flags, tg, inF, text, tt, hidT_get e1 (startT_no T at_ e1 (fun xs n z => by rw [r2] at z; cases z) fun z => ?_), r1, r2, r3, rest⟩
    rw [r2] at z
    cases z
    simp at r3
  · refine ⟨bm, ob, b1, b2, fun q => ?_, fun q => ?_, hidT_get b3 (startT_no T at_ b3 (fun xs n z => by rw [b6] at z; cases z) fun z => by rw [b6] at z; cases z), b4, b5, b6⟩
    · rw [q, gget] at b3
      cases b3
      rw [gdata] at b6
      cases b6
    · rw [q, tp] at b3
      cases b3
      cases b6
  · intro z
    rw [z, tp] at gget
    cases gget
    cases gdata
theorem law_callGT {mg mb : Str → Option Value} {k : Nat} {fa : Addr} {fd : FuncData} {x : Str} {sp : Sp} (KX : K.In s.heap) (top : s.heap.Ns mainGlobals mg) (bi : s.heap.Ns builtinsNs mb) (bib : ∀ x : Str, x ≠ "__name__" → mb x = bootBuiltins x) (lim : s.heap.NoLimit) (gens : s.gens = #[])
    (T : Tbls K s.heap cs) (hbm : ∃ (bm : Addr) (ob : Obj), mg "__builtins__" = some (.ref bm) ∧ bm ≠ builtinsNs ∧ s.heap.get? bm = some ob ∧ ob.cls = .type "module" ∧ ob.dict = some builtinsNs ∧ ob.data = .plain)
    (at_ : s.heap.get? a = some (scriptO vs)) (whole : IntsAre vs ns) (few : ns.length ≤ sizeLine) (room : Room k callerA) (F : ∀ base : Heap, K.In base → base.Ns mainGlobals mg → (∀ p ∈ cs, LamX.TabB base mg p.1 p.2) → FnG P w K mg base k fa fd [x] sp)
    (bind : ∀ (s : Shared) (u : Value), BindsTo s fd ⟨[u], []⟩ [(x, u)]) (ask : ∀ H : Hp, (∀ p ∈ cs, H p.2 = some (.tbl #[])) → SqL K H a (ns.map V.int) → sp [.ref a] H (fun v _ => v = .bl true) E0) :
    codeAny (model P w) callerA (.call (.ref fa) ⟨[.ref a], []⟩) (fun r s' => r = .ok (.ret (.bool true)) ∧ OldK s.heap s'.heap ∧ s'.os = s.os ∧ AllBare s'.gens) s := by
  have kin := startT_kin (a := a) (vs := vs) (ns := ns) T KX
  have top' := startT_ns (ns := ns) T at_ top
  obtain ⟨mc, l1, l2⟩ := lim
  have env : Env0 P w K mg (hidT s.heap (startT K cs a vs ns)) callerA [] s (startT K cs a vs ns) :=
    { frames := rfl, mod := ⟨kin, top', ⟨mb, startT_ns T at_ bi, bib⟩, ⟨mc, startT_ns T at_ l1, l2⟩⟩, bs := fun _ _ => of_hidT, bsz := Nat.le_of_eq (hidT_size _ _), funs := trivial, frf := (fun b hb => nomatch (show b ∈ ([] : List Addr) from hb)), hok := startT_ok T at_ whole few, bare := AllBare.of_eq gens }
  refine codeAny_mono ((F _ kin top' (startT_tab T at_ top hbm)).does callerA [] s _ ⟨[.ref a], []⟩ [.ref a] [.ref a] _ _ rfl room env (bind s (.ref a)) (.cons rfl .nil) (ask _ (fun p hp => startT_in (List.mem_map.mpr ⟨p, hp, rfl⟩)) (startT_seq T KX at_ whole few))) ?_
  intro r t z
  match r, z with
  | .ok (.ret u), ⟨v, G, os, bare, un, ok', rel, (q : v = .bl true)⟩ =>
    subst q
    obtain rfl : u = Value.bool true := rel
    -- what is told of at the end stands as it is told
    have stay : ∀ b o, b ∉ cs.map (·.2) → s.heap.get? b = some o → t.heap.get? b = some o := fun b o hb get => by
      cases c : startT K cs a vs ns b with
      | none => exact un.keep b o get c (fun m => nomatch (show b ∈ ([] : List Addr) from m)) (fun m => nomatch m)
      | some u =>
        have c2 := (startT_out hb).symm.trans c
        obtain ⟨rfl, _, rfl⟩ := startH_some c2
        have eo : o = scriptO vs := Option.some.inj (get.symm.trans at_)
        rw [eo]
        exact (ok' b _ (un.frzs b _ _ c)).1
    have more : ∀ p ∈ cs, ∃ es : Array Value, t.heap.get? p.2 = some { cls := .none, data := .fields es } := fun p hp => by
      obtain ⟨es, z⟩ := un.tbls p.2 #[] (startT_in (List.mem_map.mpr ⟨p, hp, rfl⟩))
      exact ⟨_, ok' p.2 _ z⟩
    refine ⟨rfl, ⟨fun b o get => ?_, fun b o get => ?_⟩, os, bare⟩
    · by_cases hb : b ∈ cs.map (·.2)
      · obtain ⟨p, hp, rfl⟩ := List.mem_map.mp hb
        obtain ⟨es, he⟩ := more p hp
        have e2 := T.at_ p hp
        rw [get] at e2
        cases e2
        exact .inr (.inl ⟨((T.hd p hp).tab get).isCodeTable, rfl, #[], es, rfl, by rw [Array.empty_append]; exact he⟩)
      · exact .inl (stay b o hb get)
    · by_cases hb : b ∈ cs.map (·.2)
      · obtain ⟨p, hp, rfl⟩ := List.mem_map.mp hb
        obtain ⟨es, he⟩ := more p hp
        exact ⟨_, he⟩
      · exact ⟨o, stay b o hb get⟩
end
/-- what is known of the law at the head's heap h -/
def LawAtG (l : PySem.W.OpenLaw) (w : World) (K : PySem.W.Frag) (k n : Nat) (x : Str) (mg : Str → Option Value) (fa : Addr) (h : Heap) : Prop :=
  ∃ (fd : FuncData) (cs : List (Addr × Addr)) (sp : Sp), Tbls K h cs ∧ (∀ (s : Shared) (u : Value), BindsTo s fd ⟨[u], []⟩ [(x, u)]) ∧
    (∀ (H : Hp) (a : Addr) (ns : List Int), ns.length ≤ n → (∀ p ∈ cs, H p.2 = some (.tbl #[])) → SqL K H a (ns.map V.int) → sp [.ref a] H (fun v _ => v = .bl true) E0) ∧
    ∀ base : Heap, K.In base → base.Ns mainGlobals mg → (∀ p ∈ cs, LamX.TabB base mg p.1 p.2) → FnG l.prog w K mg base k fa fd [x] sp
theorem walkGT {l : PySem.W.OpenLaw} {n k : Nat} {q : Program} {loose : List Str} {XP : (Str → Option Value) → Heap → Prop} {YP : World → Heap → Prop} {d : DefRec} {K : Params → PySem.W.Frag} {x : Str} (hn : l.most = some n) (hz : n ≤ sizeLine) (hdf : d.params.defaults = []) (room : Room k callerA)
    (hY : ∀ (w : World) (h : Heap), YP w h → (K w.params).In h)
    (F : ∀ (w : World) (mg : Str → Option Value) (fa : Addr) (h : Heap), YP w h → (K w.params).In h → h.Ns mainGlobals mg → mg d.name = some (.ref fa) → LawAtG l w (K w.params) k n x mg fa h) : PySem.W.WalkO q loose XP YP l.row.toRowW d [] (fun f vs => PySem.call f vs) := by
  refine Att.attach_callB hn hdf fun w s0 s mg mb fa o pm cd doc a vs ns G Y _ _ _ hm at_ whole few _ gens => ?_
  obtain ⟨fd, cs, sp, T, bind, ask, B⟩ := F w mg fa _ Y (hY w _ Y) G.T.g hm
  exact law_callGT (hY w _ Y) G.T.g G.T.b G.T.builtins G.T.nolimit gens T G.T.bmain at_ whole (Nat.le_trans few hz) room B bind fun H hH hS => ask H a ns few hH hS
end RG
set_option Elab.async false
set_option linter.all false
set_option maxRecDepth 100000
set_option maxHeartbeats 1000000
namespace W17
open PySem L2 PySem.Spec PyProof.Rows WR WB WE WS
/-! ### what the top has written -/
structure FF (K : PySem.W.Frag) (mg : Str → Option Value) (x : Str) (st : Stmt) : Prop where
  ex : ∃ (f : Addr) (oc : Value) (od : Option Addr) (kV doc pm cdv ct : Value) (an : Option Addr) (osl : Array (Option Value)),
    K.lookup f = some ⟨oc, od, .func (PySem.W.fnOf x x (defArgs st) (defBody st) (defScope st) .none kV doc pm an cdv ct), osl⟩ ∧ PySem.W.codeIn K cdv x = true ∧ PySem.W.keepIn K (.ref f) = true ∧ mg x = some (.ref f)
theorem ff_mk {K : PySem.W.Frag} {mg : Str → Option Value} {h : Heap} {x : Str} {st : Stmt} {f : Addr} {oc : Value} {od an : Option Addr} {kV doc pm cdv ct : Value} {osl : Array (Option Value)} (X : K.In h) (G : h.Ns mainGlobals mg)
    (a : PySem.W.nsIn K mainGlobals x = some (some (.ref f))) (l : K.lookup f = some ⟨oc, od, .func (PySem.W.fnOf x x (defArgs st) (defBody st) (defScope st) .none kV doc pm an cdv ct), osl⟩) (c : PySem.W.codeIn K cdv x = true) (k : PySem.W.keepIn K (.ref f) = true) : FF K mg x st :=
  ⟨f, oc, od, kV, doc, pm, cdv, ct, an, osl, l, c, k, PySem.W.mg_of X G a⟩
/-- a def in the class's body, held by the class -/
structure FM (K : PySem.W.Frag) (C : Addr) (m q : Str) (st : Stmt) : Prop where
  ex : ∃ (f : Addr) (oc : Value) (od : Option Addr) (kV doc pm cdv ct : Value) (an : Option Addr) (osl : Array (Option Value)),
    PySem.W.findIn K (.ref C) m = some (some (.ref f)) ∧ PySem.W.isFn K (.ref f) = true ∧
    K.lookup f = some ⟨oc, od, .func (PySem.W.fnOf m q (defArgs st) (defBody st) (defScope st) .none kV doc pm an cdv ct), osl⟩ ∧ PySem.W.codeIn K cdv q = true ∧ PySem.W.keepIn K (.ref f) = true
theorem fm_mk {K : PySem.W.Frag} {C : Addr} {m q : Str} {st : Stmt} {f : Addr} {oc : Value} {od an : Option Addr} {kV doc pm cdv ct : Value} {osl : Array (Option Value)}
    (a : PySem.W.findIn K (.ref C) m = some (some (.ref f))) (i : PySem.W.isFn K (.ref f) = true) (l : K.lookup f = some ⟨oc, od, .func (PySem.W.fnOf m q (defArgs st) (defBody st) (defScope st) .none kV doc pm an cdv ct), osl⟩) (c : PySem.W.codeIn K cdv q = true) (k : PySem.W.keepIn K (.ref f) = true) : FM K C m q st :=
  ⟨f, oc, od, kV, doc, pm, cdv, ct, an, osl, a, i, l, c, k⟩
section
variable {P : Program} {w : World} {K : PySem.W.Frag} {mg : Str → Option Value} {base : Heap} {x m q : Str} {C : Addr} {st : Stmt} {k : Nat} {ps ks : List Str} {sp : Sp}
theorem FF.cal (F : FF K mg x st) (ok : ∀ f fd, Fun K x x st f fd → FnOk P w K mg base CX0 k f fd ps sp)
    (hb : ∀ (kV doc pm : Value) (an : Option Addr) (cdv ct : Value) (us : List Value), us.length = ps.length → bindArgs (PySem.W.fnOf x x (defArgs st) (defBody st) (defScope st) .none kV doc pm an cdv ct) ⟨us, []⟩ = pure (ps.zip us)) : Cal P w K mg base x k ps sp := by
  obtain ⟨f, oc, od, kV, doc, pm, cdv, ct, an, osl, l, c, kp, m⟩ := F.ex
  exact ⟨f, _, ok f _ (fun_mk l c kp), m, kp, (fun_mk l c kp).binds hb⟩
/-- a class's __init__ -/
theorem FM.made (F : FM K C m q st) (hm : m = "__init__") (mks : PySem.W.makesIn K C = true) (kc : PySem.W.keepIn K (.ref C) = true) (ok : ∀ f fd, Fun K m q st f fd → FnOk P w K mg base CX0 k f fd ps sp)
    (hb : ∀ (kV doc pm : Value) (an : Option Addr) (cdv ct : Value) (us : List Value), us.length = ps.length → bindArgs (PySem.W.fnOf m q (defArgs st) (defBody st) (defScope st) .none kV doc pm an cdv ct) ⟨us, []⟩ = pure (ps.zip us)) : ∃ (f : Addr) (fd : FuncData), Mk K C f ∧ FnOk P w K mg base CX0 k f fd ps sp ∧ Binds K fd ps [] := by
  subst hm
  obtain ⟨f, oc, od, kV, doc, pm, cdv, ct, an, osl, a, i, l, c, kp⟩ := F.ex
  exact ⟨f, _, ⟨mks, a, i, kc⟩, ok f _ (fun_mk l c kp), (fun_mk l c kp).binds hb⟩
theorem FF.calX (F : FF K mg x st) (ok : ∀ f fd, Fun K x x st f fd → FnOk P w K mg base (L2.CX P w) k f fd ps sp)
    (hb : ∀ (kV doc pm : Value) (an : Option Addr) (cdv ct : Value) (us : List Value), us.length = ps.length → bindArgs (PySem.W.fnOf x x (defArgs st) (defBody st) (defScope st) .none kV doc pm an cdv ct) ⟨us, []⟩ = pure (ps.zip us)) : CalX P w K mg base x k ps sp := by
  obtain ⟨f, oc, od, kV, doc, pm, cdv, ct, an, osl, l, c, kp, m⟩ := F.ex
  exact ⟨f, _, ok f _ (fun_mk l c kp), m, kp, (fun_mk l c kp).binds hb⟩
theorem FF.calKX (F : FF K mg x st) (g : List Value → List Value) (gV : List V → List V) (ok : ∀ f fd, Fun K x x st f fd → FnOk P w K mg base (L2.CX P w) k f fd ps sp)
    (hb : ∀ (kV doc pm : Value) (an : Option Addr) (cdv ct : Value) (ws : List Value), ws.length = ks.length → bindArgs (PySem.W.fnOf x x (defArgs st) (defBody st) (defScope st) .none kV doc pm an cdv ct) ⟨[], ks.zip ws⟩ = pure (ps.zip (g ws)))
    (hr : ∀ {zs : List V} {ws : List Value}, Vals zs ws → Vals (gV zs) (g ws)) : CalKX P w K mg base x k ps ks gV sp := by
  obtain ⟨f, oc, od, kV, doc, pm, cdv, ct, an, osl, l, c, kp, m⟩ := F.ex
  refine ⟨f, _, g, ok f _ (fun_mk l c kp), m, kp, ⟨fun s us ws _ h0 h1 => ?_, fun _ r => hr r⟩⟩
  obtain rfl : us = [] := List.length_eq_zero_iff.mp h0
  exact .of_eq (hb kV doc pm an cdv ct ws h1)
end
def gWP (zs : List Value) : List Value := match zs with | [l, p, s] => [s, p, l] | _ => []
theorem gv_wp {zs : List V} {ws : List Value} (r : Vals zs ws) : Vals (gvWP zs) (gWP ws) := by
  cases r with
  | nil => exact .nil
  | cons h1 r => cases r with
    | nil => exact .nil
    | cons h2 r => cases r with
      | nil => exact .nil
      | cons h3 r => cases r with
        | nil => exact .cons h3 (.cons h2 (.cons h1 .nil))
        | cons h4 r => exact .nil
def gWO (zs : List Value) : List Value := match zs with | [p, s] => [s, p] | _ => []
theorem gv_wo {zs : List V} {ws : List Value} (r : Vals zs ws) : Vals (gvWO zs) (gWO ws) := by
  cases r with
  | nil => exact .nil
  | cons h1 r => cases r with
    | nil => exact .nil
    | cons h2 r => cases r with
      | nil => exact .cons h2 (.cons h1 .nil)
      | cons h3 r => exact .nil
/-- what is to be known of an error's class -/
structure ErrW (K : PySem.W.Frag) (mg : Str → Option Value) (C : Addr) (x q : Str) (st : Stmt) : Prop where
  oex : OexC K C
  xf : XfC K C
  ini : FM K C "__init__" q st
  ty : ∀ f : Addr, PySem.W.findIn K (.ref C) "__init__" = some (some (.ref f)) → PySem.W.typeIn K (.ref f) = some (.type "function")
  g : mg x = some (.ref C)
  te : PySem.W.exmOne K (.ref C) (.ref C) = some true
structure Names (mg : Str → Option Value) : Prop where
  isinstance : mg "isinstance" = none
  int : mg "int" = none
  bool : mg "bool" = none
  str : mg "str" = none
  list : mg "list" = none
  tuple : mg "tuple" = none
  all : mg "all" = none
  len : mg "len" = none
  abs : mg "abs" = none
  range : mg "range" = none
  sorted : mg "sorted" = none
  set : mg "set" = none
  enumerate : mg "enumerate" = none
  max : mg "max" = none
  min : mg "min" = none
  zip : mg "zip" = none
  repr : mg "repr" = none
  kind : ∃ t, mg "MOST_KIND" = some (.int 26 t)
  most : ∃ t, mg "MOST_LETTERS" = some (.int 500 t)
  words : ∃ t, mg "MOST_WORDS" = some (.int 4 t)
  places : ∃ t, mg "MOST_PLACES" = some (.int 24 t)
structure Defs (K : PySem.W.Frag) (mg : Str → Option Value) (C CR CS : Addr) : Prop where
  d_sIsInt : FF K mg "is_integer" sIsInt
  d_sWithin : FF K mg "is_within" sWithin
  d_sLetter : FF K mg "is_letter" sLetter
  d_sListed : FF K mg "is_listed" sListed
  d_sAreI : FF K mg "are_integers" sAreI
  d_sShr : FF K mg "shortened_letters" sShr
  d_sRnd : FF K mg "rounded_letters" sRnd
  d_sKinds : FF K mg "kinds_of" sKinds
  d_sBalOf : FF K mg "balance_of" sBalOf
  d_sPaired : FF K mg "are_paired" sPaired
  d_sJoined : FF K mg "joined" sJoined
  d_sFilled : FF K mg "is_filled" sFilled
  d_sFew : FF K mg "need_few_letters" sFew
  d_sNeedB : FF K mg "need_balanced" sNeedB
  d_sNeedR : FF K mg "need_rims" sNeedR
  d_sFewP : FF K mg "need_few_places" sFewP
  d_sNexts : FF K mg "nexts_of" sNexts
  d_sAreM : FF K mg "are_mates" sAreM
  d_sCorn : FF K mg "corners_of" sCorn
  d_sPieces : FF K mg "pieces_of" sPieces
  d_sNeedS : FF K mg "need_sewing" sNeedS
  d_sNeedPX : FF K mg "need_place" sNeedPX
  d_sNeedL : FF K mg "need_letter" sNeedL
  d_sMam : FF K mg "mates_among" sMam
  d_sRF : FF K mg "rims_from" sRF
  d_sWP : FF K mg "with_pair" sWP
  d_sWO : FF K mg "without_pair" sWO
  d_sJar : FF K mg "_law_pen" sJar
  d_sDraw : FF K mg "_law_draw" sDraw
  d_sPick : FF K mg "_law_pick" sPick
  d_sMixed : FF K mg "_law_mixed" sMixed
  d_sCut : FF K mg "_law_cut" sCut
  d_sPlain : FF K mg "_law_plain" sPlain
  d_sLRims : FF K mg "_law_rims" sLRims
  d_sNx : FF K mg "_law_nexts" sNx
  d_sCorL : FF K mg "_law_corners" sCorL
  d_sLets : FF K mg "_law_letters" sLets
  d_sMates : FF K mg "_law_mates" sMates
  d_sFault : FF K mg "_law_fault" sFault
  d_sSpots : FF K mg "_law_spots" sSpots
  d_sPut : FF K mg "_law_put" sPut
  d_sTaken : FF K mg "_law_taken" sTaken
  d_sNear : FF K mg "_law_near" sNear
  d_sIs : FF K mg "_law_is" sIs
  d_sPutR : FF K mg "_law_put_right" sPutR
  d_sTakR : FF K mg "_law_taken_right" sTakR
  d_sLaw : FF K mg "law" sLaw
  m_sInit : FM K C "__init__" "Word.__init__" sInit
  m_sEq : FM K C "__eq__" "Word.__eq__" sEq
  m_sInitR : FM K CR "__init__" "Rims.__init__" sInitR
  m_sEqR : FM K CR "__eq__" "Rims.__eq__" sEqR
  m_sInitS : FM K CS "__init__" "Sewing.__init__" sInitS
  m_sEqSx : FM K CS "__eq__" "Sewing.__eq__" sEqSx
structure ClsC (K : PySem.W.Frag) (mg : Str → Option Value) (C : Addr) : Prop where
  cl : Cls K C
  n1 : NoAttr K C "letters"
  n2 : NoAttr K C "length"
  n3 : NoAttr K C "kinds"
  n4 : NoAttr K C "is_short"
  n5 : NoAttr K C "is_short_round"
  ca : PySem.W.findIn K (.ref C) "__class__" = some (some (.builtin "object.__class__"))
  cm : PySem.W.mroIn K C (.type "object") = some true
  mks : PySem.W.makesIn K C = true
  kc : PySem.W.keepIn K (.ref C) = true
  mgC : mg "Word" = some (.ref C)
  cn : PySem.W.specialIn K (.builtin "object.__class__") "__get__" = some (some (.builtin "getset_descriptor.__get__"))
  ct : PySem.W.takesIn K (.builtin "object.__class__") = some true
structure ClsCR (K : PySem.W.Frag) (mg : Str → Option Value) (C : Addr) : Prop where
  cl : Cls K C
  n1 : NoAttr K C "words"
  n2 : NoAttr K C "letters"
  n3 : NoAttr K C "many"
  n4 : NoAttr K C "bands"
  n5 : NoAttr K C "is_short"
  n6 : NoAttr K C "homes"
  n7 : NoAttr K C "nexts"
  ca : PySem.W.findIn K (.ref C) "__class__" = some (some (.builtin "object.__class__"))
  cm : PySem.W.mroIn K C (.type "object") = some true
  mks : PySem.W.makesIn K C = true
  kc : PySem.W.keepIn K (.ref C) = true
  mgC : mg "Rims" = some (.ref C)
structure ClsCS (K : PySem.W.Frag) (mg : Str → Option Value) (C : Addr) : Prop where
  cl : Cls K C
  n1 : NoAttr K C "rims"
  n2 : NoAttr K C "mates"
  n3 : NoAttr K C "corners"
  n4 : NoAttr K C "cost"
  n5 : NoAttr K C "pieces"
  n6 : NoAttr K C "handles"
  ca : PySem.W.findIn K (.ref C) "__class__" = some (some (.builtin "object.__class__"))
  cm : PySem.W.mroIn K C (.type "object") = some true
  mks : PySem.W.makesIn K C = true
  kc : PySem.W.keepIn K (.ref C) = true
  mgC : mg "Sewing" = some (.ref C)
/-- the facts of an error's class -/
structure ErrF (K : PySem.W.Frag) (C : Addr) : Prop where
  oex : OexC K C
  xf : XfC K C
  sub : PySem.W.subIn K (.ref C) (.type "BaseException") = some true
  icl : PySem.W.isClsIn K C = true
  tyC : PySem.W.typeIn K (.ref C) = some (.type "type")
/-- and of what is asked of it -/
structure ErrX (K : PySem.W.Frag) (mg : Str → Option Value) (CH C : Addr) (x q : Str) (st : Stmt) (fl : Str) : Prop where
  w : ErrW K mg C x q st
  f : ErrF K C
  fl : PySem.W.findIn K (.ref C) fl = some none
  nt : PySem.W.kitOne K (.type "NoneType") (.ref C) = some false
  cc : PySem.W.findIn K (.ref C) "__class__" = some (some (.builtin "object.__class__"))
  mo : PySem.W.mroIn K C (.type "object") = some true
  sb : PySem.W.subIn K (.ref C) (.ref CH) = some true
theorem exm_two {K : PySem.W.Frag} {S U : Addr} {b : Bool} (g1 : PySem.W.subIn K (.ref U) (.type "BaseException") = some true) (g2 : PySem.W.isClsIn K U = true) (g3 : PySem.W.typeIn K (.ref U) = some (.type "type")) (h4 : PySem.W.subIn K (.ref S) (.ref U) = some b) :
    PySem.W.exmOne K (.ref S) (.ref U) = some b := by
  have e1 : (PySem.W.subIn K (.ref U) (.type "BaseException") == some true) = true := by rw [g1] <;> rfl
  have e2 : ((PySem.W.clsIn K U).isSome && PySem.W.typeIn K (.ref U) == some (.type "type")) = true := by
    have h2' : (PySem.W.clsIn K U).isSome = true := g2
    rw [h2', g3] <;> rfl
  show (if (PySem.W.subIn K (.ref U) (.type "BaseException") == some true) = true then (if ((PySem.W.clsIn K U).isSome && PySem.W.typeIn K (.ref U) == some (.type "type")) = true then PySem.W.subIn K (.ref S) (.ref U) else none) else none) = some b
  rw [if_pos e1, if_pos e2]
  exact h4
/-- Missing's own __init__ -/
structure MissF (K : PySem.W.Frag) (mg : Str → Option Value) (CM g : Addr) (mc : Value) : Prop where
  at_ : mg "Missing" = some (.ref CM)
  c : CF.CFn K CM mc "__init__" g
  ex : ∃ (oc : Value) (od : Option Addr) (kV doc pm cdv ct : Value) (an : Option Addr) (osl : Array (Option Value)), K.lookup g = some ⟨oc, od, .func (PySem.W.fnOf "__init__" "Missing.__init__" (defArgs sInitMi) (defBody sInitMi) (defScope sInitMi) .none kV doc pm an cdv ct), osl⟩ ∧ PySem.W.codeIn K cdv "Missing.__init__" = true
theorem ls1 {us : List Value} (h : us.length = 1) : ∃ a, us = [a] := match us, h with | [a], _ => ⟨a, rfl⟩
theorem ls2 {us : List Value} (h : us.length = 2) : ∃ a b, us = [a, b] := match us, h with | [a, b], _ => ⟨a, b, rfl⟩
theorem ls3 {us : List Value} (h : us.length = 3) : ∃ a b c, us = [a, b, c] := match us, h with | [a, b, c], _ => ⟨a, b, c, rfl⟩
theorem ls4 {us : List Value} (h : us.length = 4) : ∃ a b c d, us = [a, b, c, d] := match us, h with | [a, b, c, d], _ => ⟨a, b, c, d, rfl⟩
theorem law_mk {P : Program} {w : World} {K : PySem.W.Frag} {mg : Str → Option Value} {base : Heap} {C CR CS CBS CMF CTM CNP CNL CH CM gM fR cR P1 fL : Addr} {mcM : Value} {fdL fdR : FuncData} (N : Names mg) (D : Defs K mg C CR CS) (WC : ClsC K mg C) (WCR : ClsCR K mg CR) (WCS : ClsCS K mg CS) (X1 : XS K CR CS)
    (neR : PySem.W.findIn K (.ref CR) "__ne__" = some (some (.builtin "object.__ne__"))) (neS : PySem.W.findIn K (.ref CS) "__ne__" = some (some (.builtin "object.__ne__")))
    (EBS : ErrX K mg CH CBS "BadSewing" "BadSewing.__init__" sInitBS "part") (EMF : ErrX K mg CH CMF "Misfit" "Misfit.__init__" sInitMF "part") (ENP : ErrX K mg CH CNP "NoPlace" "NoPlace.__init__" sInitNP "value") (ENL : ErrX K mg CH CNL "NoLetter" "NoLetter.__init__" sInitNL "value") (ETM : ErrX K mg CH CTM "TooMany" "TooMany.__init__" sInitTM "what") (mst : PySem.W.findIn K (.ref CTM) "most" = some none)
    (MI : MissF K mg CM gM mcM) (Z : Five K mg CBS CMF CTM CNP CNL CH)
    (FR : FunC K "_law_refused_right" sRR fR cR fdR) (gR : mg "_law_refused_right" = some (.ref fR)) (kR : PySem.W.keepIn K (.ref fR) = true) (bR : Binds K fdR ["_law_pen_here", "_law_words", "_law_mates_here"] []) (TB : LamX.TabB base mg cR P1)
    (FL : Fun K "law" "law" sLaw fL fdL) : RG.FnG P w K mg base 14 fL fdL ["_law_script"] (spLaw K [(P1, qRR)]) := by
  have tA : TxA mg := ⟨N.tuple, N.len⟩
  have tB : TxB mg := ⟨N.sorted, N.abs⟩
  have tC : TxC mg := ⟨N.kind, N.all⟩
  have tI : TxI mg := ⟨N.isinstance, N.int, N.bool, N.str, N.list, N.tuple⟩
  have tL : TxL mg := ⟨N.int, N.len, N.abs⟩
  have tR : TxR mg := ⟨N.words, N.places, N.range, N.enumerate⟩
  have tW : TxW K mg C := ⟨WC.cl, WC.n1, WC.n2, WC.n3, WC.n4, WC.n5, WC.ca, WC.cn, WC.ct, WC.cm, WC.mgC, N.most, N.isinstance, N.all⟩
  have tRC : TxRC K mg CR := ⟨WCR.cl, WCR.n1, WCR.n2, WCR.n3, WCR.n4, WCR.n5, WCR.n6, WCR.n7, WCR.mgC, WCR.ca, WCR.cm⟩
  have tSC : TxSC K mg CS := ⟨WCS.cl, WCS.n1, WCS.n2, WCS.n3, WCS.n4, WCS.n5, WCS.n6, WCS.mgC, WCS.ca, WCS.cm⟩
  have cInt : Cal P w K mg base "is_integer" 1 ["value"] spIsInt := D.d_sIsInt.cal (fun f fd F => ok_isInt F tI) (fun _ _ _ _ _ _ us hl => by obtain ⟨_, rfl⟩ := ls1 hl; rfl)
  have cWithin : Cal P w K mg base "is_within" 2 ["value", "least", "most"] spWithin := D.d_sWithin.cal (fun f fd F => ok_within F cInt) (fun _ _ _ _ _ _ us hl => by obtain ⟨_, _, _, rfl⟩ := ls3 hl; rfl)
  have cLetter : Cal P w K mg base "is_letter" 3 ["value"] spLetter := D.d_sLetter.cal (fun f fd F => ok_letter F cWithin tC) (fun _ _ _ _ _ _ us hl => by obtain ⟨_, rfl⟩ := ls1 hl; rfl)
  have cListE : Cal P w K mg base "is_listed" 1 ["value"] (spListE K) := D.d_sListed.cal (fun f fd F => ok_listE F tI) (fun _ _ _ _ _ _ us hl => by obtain ⟨_, rfl⟩ := ls1 hl; rfl)
  have cFew : Cal P w K mg base "need_few_letters" 1 ["many"] spFew := D.d_sFew.cal (fun f fd F => ok_few F tW) (fun _ _ _ _ _ _ us hl => by obtain ⟨_, rfl⟩ := ls1 hl; rfl)
  have cKinds : Cal P w K mg base "kinds_of" 1 ["letters"] (spKinds K) := D.d_sKinds.cal (fun f fd F => ok_kinds F tA tB) (fun _ _ _ _ _ _ us hl => by obtain ⟨_, rfl⟩ := ls1 hl; rfl)
  have cShr : Cal P w K mg base "shortened_letters" 1 ["letters"] (spShr K) := D.d_sShr.cal (fun f fd F => ok_shr F tA) (fun _ _ _ _ _ _ us hl => by obtain ⟨_, rfl⟩ := ls1 hl; rfl)
  have cRnd : Cal P w K mg base "rounded_letters" 2 ["letters"] (spRnd K) := D.d_sRnd.cal (fun f fd F => ok_rnd F cShr tA) (fun _ _ _ _ _ _ us hl => by obtain ⟨_, rfl⟩ := ls1 hl; rfl)
  have mW : MkW P w K mg base C := ⟨D.m_sInit.made rfl WC.mks WC.kc (fun f fd F => ok_init F tW tA cListE cLetter cFew cKinds cShr cRnd) (fun _ _ _ _ _ _ us hl => by obtain ⟨_, _, rfl⟩ := ls2 hl; rfl)⟩
  have cBal : Cal P w K mg base "balance_of" 2 ["letters"] (spBalOf K) := D.d_sBalOf.cal (fun f fd F => ok_balOf F tA cKinds) (fun _ _ _ _ _ _ us hl => by obtain ⟨_, rfl⟩ := ls1 hl; rfl)
  have cFilled : Cal P w K mg base "is_filled" 1 ["value"] (spFilled K C) := D.d_sFilled.cal (fun f fd F => ok_filled F tW) (fun _ _ _ _ _ _ us hl => by obtain ⟨_, rfl⟩ := ls1 hl; rfl)
  have cFewP : Cal P w K mg base "need_few_places" 1 ["many"] spFewP := D.d_sFewP.cal (fun f fd F => ok_fewP F tR) (fun _ _ _ _ _ _ us hl => by obtain ⟨_, rfl⟩ := ls1 hl; rfl)
  have cNeedB : Cal P w K mg base "need_balanced" 3 ["letters"] (spNeedB K) := D.d_sNeedB.cal (fun f fd F => ok_needB F cBal) (fun _ _ _ _ _ _ us hl => by obtain ⟨_, rfl⟩ := ls1 hl; rfl)
  have cNexts : Cal P w K mg base "nexts_of" 1 ["words"] (spNexts K C) := D.d_sNexts.cal (fun f fd F => ok_nexts F tW tA tR) (fun _ _ _ _ _ _ us hl => by obtain ⟨_, rfl⟩ := ls1 hl; rfl)
  have mR : MkR P w K mg base C CR := ⟨D.m_sInitR.made rfl WCR.mks WCR.kc (fun f fd F => ok_initR F tW tRC tA tR cListE cFilled cFewP cNeedB cNexts) (fun _ _ _ _ _ _ us hl => by obtain ⟨_, _, rfl⟩ := ls2 hl; rfl)⟩
  have cNeedR : Cal P w K mg base "need_rims" 1 ["value", "part"] (spNeedR K C CR) := D.d_sNeedR.cal (fun f fd F => ok_needR F tW tRC) (fun _ _ _ _ _ _ us hl => by obtain ⟨_, _, rfl⟩ := ls2 hl; rfl)
  have cAreI : Cal P w K mg base "are_integers" 2 ["value"] (spAreI K) := D.d_sAreI.cal (fun f fd F => ok_areI F N.all cListE cInt) (fun _ _ _ _ _ _ us hl => by obtain ⟨_, rfl⟩ := ls1 hl; rfl)
  have cPaired : Cal P w K mg base "are_paired" 3 ["value", "many"] (spPaired K) := D.d_sPaired.cal (fun f fd F => ok_paired F tA tR cAreI) (fun _ _ _ _ _ _ us hl => by obtain ⟨_, _, rfl⟩ := ls2 hl; rfl)
  have cAreM : Cal P w K mg base "are_mates" 4 ["letters", "value"] (spAreM K) := D.d_sAreM.cal (fun f fd F => ok_areM F tA tR N.all cPaired) (fun _ _ _ _ _ _ us hl => by obtain ⟨_, _, rfl⟩ := ls2 hl; rfl)
  have cCorn : Cal P w K mg base "corners_of" 1 ["rims", "mates"] (spCorn K C CR) := D.d_sCorn.cal (fun f fd F => ok_corn F tRC tA tR N.set) (fun _ _ _ _ _ _ us hl => by obtain ⟨_, _, rfl⟩ := ls2 hl; rfl)
  have cJoined : Cal P w K mg base "joined" 1 ["many", "pairs"] (spJoined K) := D.d_sJoined.cal (fun f fd F => ok_joined F tA tR N.list N.max N.min) (fun _ _ _ _ _ _ us hl => by obtain ⟨_, _, rfl⟩ := ls2 hl; rfl)
  have cPieces : Cal P w K mg base "pieces_of" 2 ["rims", "mates"] (spPieces K C CR) := D.d_sPieces.cal (fun f fd F => ok_pieces F tRC tA tR cJoined) (fun _ _ _ _ _ _ us hl => by obtain ⟨_, _, rfl⟩ := ls2 hl; rfl)
  have mS : MkS P w K mg base C CR CS := ⟨D.m_sInitS.made rfl WCS.mks WCS.kc (fun f fd F => ok_initS F tRC tSC tA cNeedR cAreM cCorn cPieces) (fun _ _ _ _ _ _ us hl => by obtain ⟨_, _, _, rfl⟩ := ls3 hl; rfl)⟩
  have N_ : TN mg := ⟨N.len, N.range, N.list, N.tuple, N.int, N.abs, N.min, N.sorted, N.set, N.enumerate, N.zip, N.isinstance, N.repr⟩
  have eW : EqW P w K mg base C := by
    obtain ⟨f, oc, od, kV, doc, pm, cdv, ct, an, osl, a, i, l, c, kp⟩ := D.m_sEq.ex
    exact ⟨f, _, ok_eq (fun_mk l c kp) tW, a, i, (fun_mk l c kp).binds (fun _ _ _ _ _ _ us hl => by obtain ⟨_, _, rfl⟩ := ls2 hl; rfl)⟩
  have eR : EqR P w K mg base C CR := by
    obtain ⟨f, oc, od, kV, doc, pm, cdv, ct, an, osl, a, i, l, c, kp⟩ := D.m_sEqR.ex
    exact ⟨f, _, ok_eqR (fun_mk l c kp) tW tRC eW, a, i, (fun_mk l c kp).binds (fun _ _ _ _ _ _ us hl => by obtain ⟨_, _, rfl⟩ := ls2 hl; rfl)⟩
  have eS : OE.Eq P w K mg base CS 4 (SewEq K C CR CS) := by
    obtain ⟨f, oc, od, kV, doc, pm, cdv, ct, an, osl, a, i, l, c, kp⟩ := D.m_sEqSx.ex
    refine ⟨⟨f, _, ok_EqSx (fun_mk l c kp) N_ tW tRC tSC eR, a, i, (fun_mk l c kp).binds (fun _ _ _ _ _ _ us hl => by obtain ⟨_, _, rfl⟩ := ls2 hl; rfl)⟩, fun H p q b h => ?_, neS, WCS.cm⟩
    obtain ⟨_, _, _, _, _, _, _, _, ⟨dx, _, _, _, h1, _⟩, ⟨dy, _, _, _, h2, _⟩, _⟩ := h
    exact ⟨⟨dx, _, h1⟩, dy, _, h2⟩
  have O : SewO P w K mg base C CR CS := ⟨tW, tRC, tSC, eR, neR, eS⟩
  have BS : ErrC P w K mg base CBS "BadSewing" ["self", "part"] (spI1 "part" CBS) := by
    obtain ⟨f, oc, od, kV, doc, pm, cdv, ct, an, osl, a, i, l, c, kp⟩ := EBS.w.ini.ex
    exact ⟨EBS.w.oex, ⟨f, _, a, EBS.w.ty f a, (ok_initBS (fun_mk l c kp) EBS.w.oex EBS.fl).mono (by decide), (fun_mk l c kp).binds (fun _ _ _ _ _ _ us hl => by obtain ⟨_, _, rfl⟩ := ls2 hl; rfl)⟩, EBS.w.g, EBS.w.xf, EBS.w.te⟩
  have MF : ErrC P w K mg base CMF "Misfit" ["self", "part"] (spI1 "part" CMF) := by
    obtain ⟨f, oc, od, kV, doc, pm, cdv, ct, an, osl, a, i, l, c, kp⟩ := EMF.w.ini.ex
    exact ⟨EMF.w.oex, ⟨f, _, a, EMF.w.ty f a, (ok_initMF (fun_mk l c kp) EMF.w.oex EMF.fl).mono (by decide), (fun_mk l c kp).binds (fun _ _ _ _ _ _ us hl => by obtain ⟨_, _, rfl⟩ := ls2 hl; rfl)⟩, EMF.w.g, EMF.w.xf, EMF.w.te⟩
  have TM : ErrC P w K mg base CTM "TooMany" ["self", "what", "most"] (spI2 CTM) := by
    obtain ⟨f, oc, od, kV, doc, pm, cdv, ct, an, osl, a, i, l, c, kp⟩ := ETM.w.ini.ex
    exact ⟨ETM.w.oex, ⟨f, _, a, ETM.w.ty f a, (ok_initTM (fun_mk l c kp) ETM.w.oex ETM.fl mst).mono (by decide), (fun_mk l c kp).binds (fun _ _ _ _ _ _ us hl => by obtain ⟨_, _, _, rfl⟩ := ls3 hl; rfl)⟩, ETM.w.g, ETM.w.xf, ETM.w.te⟩
  have NL : ErrC P w K mg base CNL "NoLetter" ["self", "value"] (spI1 "value" CNL) := by
    obtain ⟨f, oc, od, kV, doc, pm, cdv, ct, an, osl, a, i, l, c, kp⟩ := ENL.w.ini.ex
    obtain ⟨oc2, od2, kV2, doc2, pm2, cdv2, ct2, an2, osl2, l2, c2⟩ := MI.ex
    exact ⟨ENL.w.oex, ⟨f, _, a, ENL.w.ty f a, ok_initNL (fun_mk l c kp) MI.at_ MI.c (ok_initMi (fun_mk (st := sInitMi) l2 c2 MI.c.kp) ENL.w.oex ENL.fl) ((fun_mk (st := sInitMi) l2 c2 MI.c.kp).binds (fun _ _ _ _ _ _ us hl => by obtain ⟨_, _, rfl⟩ := ls2 hl; rfl)), (fun_mk l c kp).binds (fun _ _ _ _ _ _ us hl => by obtain ⟨_, _, rfl⟩ := ls2 hl; rfl)⟩, ENL.w.g, ENL.w.xf, ENL.w.te⟩
  have NP : ErrC P w K mg base CNP "NoPlace" ["self", "value"] (spI1 "value" CNP) := by
    obtain ⟨f, oc, od, kV, doc, pm, cdv, ct, an, osl, a, i, l, c, kp⟩ := ENP.w.ini.ex
    obtain ⟨oc2, od2, kV2, doc2, pm2, cdv2, ct2, an2, osl2, l2, c2⟩ := MI.ex
    exact ⟨ENP.w.oex, ⟨f, _, a, ENP.w.ty f a, ok_initNP (fun_mk l c kp) MI.at_ MI.c (ok_initMi (fun_mk (st := sInitMi) l2 c2 MI.c.kp) ENP.w.oex ENP.fl) ((fun_mk (st := sInitMi) l2 c2 MI.c.kp).binds (fun _ _ _ _ _ _ us hl => by obtain ⟨_, _, rfl⟩ := ls2 hl; rfl)), (fun_mk l c kp).binds (fun _ _ _ _ _ _ us hl => by obtain ⟨_, _, rfl⟩ := ls2 hl; rfl)⟩, ENP.w.g, ENP.w.xf, ENP.w.te⟩
  have cPen : Cal P w K mg base "_law_pen" 1 ["_law_script"] (spHand K) := D.d_sJar.cal (fun f fd F => ok_hand F tL) (fun _ _ _ _ _ _ us hl => by obtain ⟨_, rfl⟩ := ls1 hl; rfl)
  have cDraw : Cal P w K mg base "_law_draw" 1 ["_law_pen_here", "_law_many"] spTake := D.d_sDraw.cal (fun f fd F => ok_take F tL) (fun _ _ _ _ _ _ us hl => by obtain ⟨_, _, rfl⟩ := ls2 hl; rfl)
  have cPick : Cal P w K mg base "_law_pick" 2 ["_law_pen_here", "_law_some"] spPick := D.d_sPick.cal (fun f fd F => ok_pick F cDraw tL) (fun _ _ _ _ _ _ us hl => by obtain ⟨_, _, rfl⟩ := ls2 hl; rfl)
  have cMixed : Cal P w K mg base "_law_mixed" 2 ["_law_pen_here", "_law_some"] spMixed := D.d_sMixed.cal (fun f fd F => ok_Mixed F N_ cDraw) (fun _ _ _ _ _ _ us hl => by obtain ⟨_, _, rfl⟩ := ls2 hl; rfl)
  have cCut : Cal P w K mg base "_law_cut" 3 ["_law_pen_here", "_law_letters_here"] spCut := D.d_sCut.cal (fun f fd F => ok_Cut F N_ cDraw cMixed) (fun _ _ _ _ _ _ us hl => by obtain ⟨_, _, rfl⟩ := ls2 hl; rfl)
  have cPlain : Cal P w K mg base "_law_plain" 4 ["_law_pen_here", "_law_counts"] spPlain := D.d_sPlain.cal (fun f fd F => ok_Plain F N_ cCut cMixed) (fun _ _ _ _ _ _ us hl => by obtain ⟨_, _, rfl⟩ := ls2 hl; rfl)
  have cRims : Cal P w K mg base "_law_rims" 6 ["_law_words"] (spLRims K C CR) := D.d_sLRims.cal (fun f fd F => ok_LRims F N_ tW tRC mW mR) (fun _ _ _ _ _ _ us hl => by obtain ⟨_, rfl⟩ := ls1 hl; rfl)
  have cNx : Cal P w K mg base "_law_nexts" 1 ["_law_words"] spNx := D.d_sNx.cal (fun f fd F => ok_Nx F N_) (fun _ _ _ _ _ _ us hl => by obtain ⟨_, rfl⟩ := ls1 hl; rfl)
  have cLets : Cal P w K mg base "_law_letters" 1 ["_law_words"] spLets := D.d_sLets.cal (fun f fd F => ok_Lets F N_) (fun _ _ _ _ _ _ us hl => by obtain ⟨_, rfl⟩ := ls1 hl; rfl)
  have cCorL : Cal P w K mg base "_law_corners" 2 ["_law_words", "_law_mates_here"] (spCorL K) := D.d_sCorL.cal (fun f fd F => ok_CorL F N_ cNx) (fun _ _ _ _ _ _ us hl => by obtain ⟨_, _, rfl⟩ := ls2 hl; rfl)
  have cMates : Cal P w K mg base "_law_mates" 3 ["_law_pen_here", "_law_letters_here"] spMates := D.d_sMates.cal (fun f fd F => ok_Mates F N_ cMixed) (fun _ _ _ _ _ _ us hl => by obtain ⟨_, _, rfl⟩ := ls2 hl; rfl)
  have cSpots : Cal P w K mg base "_law_spots" 1 ["_law_words"] (spSpots K) := D.d_sSpots.cal (fun f fd F => ok_Spots F N_) (fun _ _ _ _ _ _ us hl => by obtain ⟨_, rfl⟩ := ls1 hl; rfl)
  have cIs : Cal P w K mg base "_law_is" 3 ["_law_sewing", "_law_words", "_law_mates_here"] (spIs K C CR CS) := D.d_sIs.cal (fun f fd F => ok_Is F N_ tW tRC tSC cCorL) (fun _ _ _ _ _ _ us hl => by obtain ⟨_, _, _, rfl⟩ := ls3 hl; rfl)
  have cPut : Cal P w K mg base "_law_put" 2 ["_law_words", "_law_mates_here", "_law_place", "_law_letter"] (spPut K) := D.d_sPut.cal (fun f fd F => ok_Put F N_ cSpots) (fun _ _ _ _ _ _ us hl => by obtain ⟨_, _, _, _, rfl⟩ := ls4 hl; rfl)
  have cTaken : Cal P w K mg base "_law_taken" 2 ["_law_words", "_law_mates_here", "_law_one", "_law_other"] (spTaken K) := D.d_sTaken.cal (fun f fd F => ok_Taken F N_ cSpots) (fun _ _ _ _ _ _ us hl => by obtain ⟨_, _, _, _, rfl⟩ := ls4 hl; rfl)
  have cNear : Cal P w K mg base "_law_near" 2 ["_law_words"] (spNear K) := D.d_sNear.cal (fun f fd F => ok_Near F N_ cLets cNx cSpots) (fun _ _ _ _ _ _ us hl => by obtain ⟨_, rfl⟩ := ls1 hl; rfl)
  have cNeedS : CalX P w K mg base "need_sewing" 4 ["value", "part"] (spNeedS K C CR CS CBS) := D.d_sNeedS.calX (fun f fd F => ok_NeedS F N_ tW tSC BS) (fun _ _ _ _ _ _ us hl => by obtain ⟨_, _, rfl⟩ := ls2 hl; rfl)
  have cNeedP : CalX P w K mg base "need_place" 4 ["rims", "value"] (spNeedPX K C CR CNP) := D.d_sNeedPX.calX (fun f fd F => ok_NeedPX F N_ tRC NP cWithin) (fun _ _ _ _ _ _ us hl => by obtain ⟨_, _, rfl⟩ := ls2 hl; rfl)
  have cNeedL : CalX P w K mg base "need_letter" 4 ["value"] (spNeedL CNL) := D.d_sNeedL.calX (fun f fd F => ok_needL F cLetter NL) (fun _ _ _ _ _ _ us hl => by obtain ⟨_, rfl⟩ := ls1 hl; rfl)
  have cFewPX : CalX P w K mg base "need_few_places" 4 ["many"] (spFewPX CTM) := D.d_sFewP.calX (fun f fd F => ok_fewPX F tR TM) (fun _ _ _ _ _ _ us hl => by obtain ⟨_, rfl⟩ := ls1 hl; rfl)
  have mRX : MkRX P w K mg base C CR CTM := by
    obtain ⟨f, oc, od, kV, doc, pm, cdv, ct, an, osl, a, i, l, c, kp⟩ := D.m_sInitR.ex
    exact ⟨⟨f, _, ⟨WCR.mks, a, i, WCR.kc⟩, fn_or ((ok_initR (fun_mk l c kp) tW tRC tA tR cListE cFilled cFewP cNeedB cNexts).mono (by decide)) (ok_initRX (fun_mk l c kp) tW tRC tA tR cListE cFilled cFewPX cNeedB cNexts), (fun_mk l c kp).binds (fun _ _ _ _ _ _ us hl => by obtain ⟨_, _, rfl⟩ := ls2 hl; rfl)⟩, WCR.mgC⟩
  have cMam : Cal P w K mg base "mates_among" 1 ["mates", "places"] spMam := D.d_sMam.cal (fun f fd F => ok_Mam F N_) (fun _ _ _ _ _ _ us hl => by obtain ⟨_, _, rfl⟩ := ls2 hl; rfl)
  have cRF : CalX P w K mg base "rims_from" 8 ["letters", "homes"] (spRF K C CR CTM) := D.d_sRF.calX (fun f fd F => ok_RF F N_ tW tRC mW mRX) (fun _ _ _ _ _ _ us hl => by obtain ⟨_, _, rfl⟩ := ls2 hl; rfl)
  have cWP : CalX P w K mg base "with_pair" 10 ["sewing", "place", "letter"] (spWP K C CR CS CBS CNP CNL CTM) := D.d_sWP.calX (fun f fd F => ok_WP F N_ tW tRC tSC mS cNeedS cNeedP cNeedL cRF) (fun _ _ _ _ _ _ us hl => by obtain ⟨_, _, _, rfl⟩ := ls3 hl; rfl)
  have cWO : CalX P w K mg base "without_pair" 10 ["sewing", "place"] (spWO K C CR CS CBS CNP CMF) := D.d_sWO.calX (fun f fd F => ok_WO F N_ tW tRC tSC mS MF cNeedS cNeedP cRF cMam) (fun _ _ _ _ _ _ us hl => by obtain ⟨_, _, rfl⟩ := ls2 hl; rfl)
  have cWPK : CalKX P w K mg base "with_pair" 10 ["sewing", "place", "letter"] ["letter", "place", "sewing"] gvWP (spWP K C CR CS CBS CNP CNL CTM) := D.d_sWP.calKX gWP gvWP (fun f fd F => ok_WP F N_ tW tRC tSC mS cNeedS cNeedP cNeedL cRF) (fun _ _ _ _ _ _ us hl => by obtain ⟨_, _, _, rfl⟩ := ls3 hl; rfl) gv_wp
  have cWOK : CalKX P w K mg base "without_pair" 10 ["sewing", "place"] ["place", "sewing"] gvWO (spWO K C CR CS CBS CNP CMF) := D.d_sWO.calKX gWO gvWO (fun f fd F => ok_WO F N_ tW tRC tSC mS MF cNeedS cNeedP cRF cMam) (fun _ _ _ _ _ _ us hl => by obtain ⟨_, _, rfl⟩ := ls2 hl; rfl) gv_wo
  have cPutR : Cal P w K mg base "_law_put_right" 11 ["_law_pen_here", "_law_words", "_law_mates_here"] (spPutR K C CR CS) := D.d_sPutR.cal (fun f fd F => ok_PutR F N_ O mS cWPK cWOK cPut cWP cRims cDraw cPick cIs cWO) (fun _ _ _ _ _ _ us hl => by obtain ⟨_, _, _, rfl⟩ := ls3 hl; rfl)
  have cTakR : Cal P w K mg base "_law_taken_right" 11 ["_law_pen_here", "_law_words", "_law_mates_here"] (spTakR K C CR CS) := D.d_sTakR.cal (fun f fd F => ok_TakR F N_ O mS cNear cPick cTaken cRims cWO cIs) (fun _ _ _ _ _ _ us hl => by obtain ⟨_, _, _, rfl⟩ := ls3 hl; rfl)
  obtain ⟨g, oc, od, kV, doc, pm, cdv, ct, an, osl, lg, cg, kg, mg1⟩ := D.d_sFault.ex
  have hG : FaultK K mg g := ⟨mg1, kg, ⟨oc, od, kV, doc, pm, cdv, ct, an, osl, lg, cg⟩⟩
  have u1 : ∀ p ∈ [(P1, qRR)], p.1 = P1 → p.2 = qRR := by
    intro p hp _
    rw [List.mem_singleton.mp hp]
  have cRR : RG.CalG P w K mg base "_law_refused_right" 13 ["_law_pen_here", "_law_words", "_law_mates_here"] (spRR K [(P1, qRR)]) := ⟨fR, fdR, ok_RR FR N_ O mS X1 BS MF TM NP NL Z hG TB List.mem_cons_self u1 cDraw cPick cRims cWP cWO, gR, kR, bR⟩
  exact ok_Law FL N_ cPen cPick cPlain cLets cMates cPutR cTakR cRR
theorem at_mk {l : PySem.W.OpenLaw} {w : World} {K : PySem.W.Frag} {h : Heap} {mg : Str → Option Value} {fa C CR CS CBS CMF CTM CNP CNL CH CM gM P1 : Addr} (X : K.In h) (G : h.Ns mainGlobals mg) (hfa : mg "law" = some (.ref fa)) (N : Names mg) (D : Defs K mg C CR CS) (WC : ClsC K mg C) (WCR : ClsCR K mg CR) (WCS : ClsCS K mg CS) (X1 : XS K CR CS)
    (neR : PySem.W.findIn K (.ref CR) "__ne__" = some (some (.builtin "object.__ne__"))) (neS : PySem.W.findIn K (.ref CS) "__ne__" = some (some (.builtin "object.__ne__")))
    (EBS : ErrX K mg CH CBS "BadSewing" "BadSewing.__init__" sInitBS "part") (EMF : ErrX K mg CH CMF "Misfit" "Misfit.__init__" sInitMF "part") (ENP : ErrX K mg CH CNP "NoPlace" "NoPlace.__init__" sInitNP "value") (ENL : ErrX K mg CH CNL "NoLetter" "NoLetter.__init__" sInitNL "value") (ETM : ErrX K mg CH CTM "TooMany" "TooMany.__init__" sInitTM "what") (mst : PySem.W.findIn K (.ref CTM) "most" = some none)
    (aH : PySem.W.nsIn K mainGlobals "HandleError" = some (some (.ref CH))) (h1 : PySem.W.subIn K (.ref CH) (.type "BaseException") = some true) (h2 : PySem.W.isClsIn K CH = true) (h3 : PySem.W.typeIn K (.ref CH) = some (.type "type"))
    (k1 : PySem.W.kitOne K (.ref CMF) (.ref CBS) = some false) (k2 : PySem.W.kitOne K (.ref CTM) (.ref CBS) = some false) (k3 : PySem.W.kitOne K (.ref CTM) (.ref CMF) = some false) (k4 : PySem.W.kitOne K (.ref CNP) (.ref CBS) = some false) (k5 : PySem.W.kitOne K (.ref CNP) (.ref CMF) = some false) (k6 : PySem.W.kitOne K (.ref CNP) (.ref CTM) = some false) (k7 : PySem.W.kitOne K (.ref CNL) (.ref CBS) = some false) (k8 : PySem.W.kitOne K (.ref CNL) (.ref CMF) = some false) (k9 : PySem.W.kitOne K (.ref CNL) (.ref CTM) = some false) (k10 : PySem.W.kitOne K (.ref CNL) (.ref CNP) = some false)
    (aM : PySem.W.nsIn K mainGlobals "Missing" = some (some (.ref CM))) (m0 : PySem.W.findIn K (.ref CM) "__init__" = some (some (.ref gM))) (m1 : PySem.W.readsIn K CM (.type "type") = true) (m2 : PySem.W.specialIn K (.ref CM) "__getattribute__" = some (some (.builtin "type.__getattribute__"))) (m3 : PySem.W.findCls K (.ref CM) (.type "type") "__init__" = some (.val (.ref gM))) (m4 : PySem.W.keepIn K (.ref gM) = true)
    {ocM kVM dcM pmM cdM ctM : Value} {odM anM : Option Addr} {slM : Array (Option Value)} (lM : K.lookup gM = some ⟨ocM, odM, .func (PySem.W.fnOf "__init__" "Missing.__init__" (defArgs sInitMi) (defBody sInitMi) (defScope sInitMi) .none kVM dcM pmM anM cdM ctM), slM⟩) (cM : PySem.W.codeIn K cdM "Missing.__init__" = true)
    (t1 : h.get? P1 = some { cls := .none, data := .fields #[] })
    {fD cD : Addr} {od1 an1 : Option Addr} {sl1 : Array (Option Value)} {oc1 kV1 dc1 pm1 ct1 : Value}
    (aD : PySem.W.nsIn K mainGlobals "_law_refused_right" = some (some (.ref fD))) (lD : K.lookup fD = some ⟨oc1, od1, .func (PySem.W.fnOf "_law_refused_right" "_law_refused_right" (defArgs sRR) (defBody sRR) (defScope sRR) .none kV1 dc1 pm1 an1 (.ref cD) ct1), sl1⟩)
    (eD : PySem.W.codeIn K (.ref cD) "_law_refused_right" = true) (kD : PySem.W.keepIn K (.ref fD) = true) (hD : PySem.W.codeHdIn K cD P1 = true) (nD : K.lookup P1 = none) : RG.LawAtG l w K 14 63 "_law_script" mg fa h := by
  obtain ⟨f, oc, od, kV, doc, pm, cdv, ct, an, osl, lL, c, kp, m⟩ := D.d_sLaw.ex
  have e := hfa.symm.trans m
  cases e
  have EX : ∀ {C : Addr} {x q : Str} {st : Stmt} {fl : Str}, ErrX K mg CH C x q st fl → L2.ExcC K C := fun E => ⟨E.f.xf.ga, E.f.xf.gg, E.f.sub, E.f.xf.hdC, E.cc, WC.cn, WC.ct, E.mo⟩
  have Z : Five K mg CBS CMF CTM CNP CNL CH := ⟨PySem.W.mg_of X G aH, exm_two h1 h2 h3 EBS.sb, exm_two h1 h2 h3 EMF.sb, exm_two h1 h2 h3 ETM.sb, exm_two h1 h2 h3 ENP.sb, exm_two h1 h2 h3 ENL.sb, EBS.fl, EMF.fl, ETM.fl, mst, ENP.fl, ENL.fl, EX EBS, EX EMF, EX ETM, EX ENP, EX ENL, EBS.nt, EMF.nt, ETM.nt, ENP.nt, ENL.nt, k1, k2, k3, k4, k5, k6, k7, k8, k9, k10⟩
  have FR : FunC K "_law_refused_right" sRR fD cD _ := ⟨oc1, od1, kV1, dc1, pm1, an1, ct1, sl1, rfl, lD, eD⟩
  have bR : Binds K (PySem.W.fnOf "_law_refused_right" "_law_refused_right" (defArgs sRR) (defBody sRR) (defScope sRR) .none kV1 dc1 pm1 an1 (.ref cD) ct1) ["_law_pen_here", "_law_words", "_law_mates_here"] [] := (fun_mk (st := sRR) lD eD kD).binds (ps := ["_law_pen_here", "_law_words", "_law_mates_here"]) (fun _ _ _ _ _ _ us hl => by obtain ⟨_, _, _, rfl⟩ := ls3 hl; rfl)
  have one : ∀ {Z : Addr × Addr → Prop}, Z (cD, P1) → ∀ p ∈ [(cD, P1)], Z p := by
    intro Z h2 p hp
    rw [List.mem_singleton.mp hp]
    exact h2
  refine ⟨PySem.W.fnOf "law" "law" (defArgs sLaw) (defBody sLaw) (defScope sLaw) .none kV doc pm an cdv ct, [(cD, P1)], spLaw K [(P1, qRR)], ⟨one t1, one nD, one (PySem.W.codeHd_of_K X hD)⟩, fun s v => .of_eq rfl, ?_, fun base _ _ T => ?_⟩
  · intro H a ns hl hH hS
    refine ⟨a, ns, rfl, hS, hl, fun p hp => ?_, fun _ => rfl⟩
    rw [List.mem_singleton.mp hp]
    exact .nil (hH (cD, P1) List.mem_cons_self)
  · exact law_mk N D WC WCR WCS X1 neR neS EBS EMF ENP ENL ETM mst ⟨PySem.W.mg_of X G aM, ⟨m1, m2, m3, m4⟩, ⟨ocM, odM, kVM, dcM, pmM, cdM, ctM, anM, slM, lM, cM⟩⟩ Z FR (PySem.W.mg_of X G aD) kD bR (T (cD, P1) List.mem_cons_self) (fun_mk lL c kp)
end W17
set_option Elab.async false
set_option linter.all false
set_option maxRecDepth 100000
set_option maxHeartbeats 4000000
namespace W17
open PySem L2 PySem.Spec PyProof.Rows WR WB WE WS
theorem err_mk {K : PySem.W.Frag} {h : Heap} {mg : Str → Option Value} {C f : Addr} {x q : Str} {st : Stmt} (X : K.In h) (G : h.Ns mainGlobals mg)
    {nm q2 : Str} {N : Addr} {bs bm : List Value} {sn : List Str} {sub : List Value} {ab : Bool} {col : Option Bool} {dd : Option Addr} {m0 m1 m2 m3 m5 : Option Value} {oc : Value} {od an : Option Addr} {kV doc pm cdv ct : Value} {osl : Array (Option Value)}
    (aC : PySem.W.nsIn K mainGlobals x = some (some (.ref C)))
    (xL : K.lookup C = some (excClassObj nm q2 C N bs bm true sn sub ab col dd m0 m1 m2 m3 m5 "ValueError.__new__")) (rv : PySem.HandSPX.refsVE bm = true)
    (sa : PySem.W.findIn K (.ref C) "__setattr__" = some (some (.builtin "object.__setattr__"))) (ga : PySem.W.findIn K (.ref C) "__getattribute__" = some (some (.builtin "BaseException.__getattribute__"))) (gg : PySem.W.findIn K (.ref C) "__getattr__" = some none)
    (i1 : PySem.W.findIn K (.ref C) "__init__" = some (some (.ref f))) (t1 : PySem.W.typeIn K (.ref f) = some (.type "function")) (fn : PySem.W.isFn K (.ref f) = true)
    (l1 : K.lookup f = some ⟨oc, od, .func (PySem.W.fnOf "__init__" q (defArgs st) (defBody st) (defScope st) .none kV doc pm an cdv ct), osl⟩) (c1 : PySem.W.codeIn K cdv q = true) (k1 : PySem.W.keepIn K (.ref f) = true)
    (kC : PySem.W.keepIn K (.ref C) = true) (eC : PySem.W.subIn K (.ref C) (.type "BaseException") = some true) (tC : PySem.W.typeIn K (.ref C) = some (.type "type")) (hC : PySem.W.hasDictIn K C = true) (iC : PySem.W.isClsIn K C = true) (sC : PySem.W.subIn K (.ref C) (.ref C) = some true) : ErrW K mg C x q st ∧ ErrF K C :=
  have O : OexC K C := ⟨⟨nm, q2, N, bs, bm, sn, sub, ab, col, dd, m0, m1, m2, m3, m5, xL, rv⟩, sa, eC, tC, kC⟩
  have F : XfC K C := ⟨ga, gg, eC, hC⟩
  ⟨⟨O, F, ⟨f, oc, od, kV, doc, pm, cdv, ct, an, osl, i1, fn, l1, c1, k1⟩, fun f' e => by
    rw [i1] at e
    cases e
    exact t1, PySem.W.mg_of X G aC, exm_two eC iC tC sC⟩, ⟨O, F, eC, iC, tC⟩⟩
theorem errx_mk {K : PySem.W.Frag} {h : Heap} {mg : Str → Option Value} {CH C f : Addr} {x q fl : Str} {st : Stmt} (X : K.In h) (G : h.Ns mainGlobals mg)
    {nm q2 : Str} {N : Addr} {bs bm : List Value} {sn : List Str} {sub : List Value} {ab : Bool} {col : Option Bool} {dd : Option Addr} {m0 m1 m2 m3 m5 : Option Value} {oc : Value} {od an : Option Addr} {kV doc pm cdv ct : Value} {osl : Array (Option Value)}
    (aC : PySem.W.nsIn K mainGlobals x = some (some (.ref C)))
    (xL : K.lookup C = some (excClassObj nm q2 C N bs bm true sn sub ab col dd m0 m1 m2 m3 m5 "ValueError.__new__")) (rv : PySem.HandSPX.refsVE bm = true)
    (sa : PySem.W.findIn K (.ref C) "__setattr__" = some (some (.builtin "object.__setattr__"))) (ga : PySem.W.findIn K (.ref C) "__getattribute__" = some (some (.builtin "BaseException.__getattribute__"))) (gg : PySem.W.findIn K (.ref C) "__getattr__" = some none)
    (i1 : PySem.W.findIn K (.ref C) "__init__" = some (some (.ref f))) (t1 : PySem.W.typeIn K (.ref f) = some (.type "function")) (fn : PySem.W.isFn K (.ref f) = true)
    (l1 : K.lookup f = some ⟨oc, od, .func (PySem.W.fnOf "__init__" q (defArgs st) (defBody st) (defScope st) .none kV doc pm an cdv ct), osl⟩) (c1 : PySem.W.codeIn K cdv q = true) (k1 : PySem.W.keepIn K (.ref f) = true)
    (kC : PySem.W.keepIn K (.ref C) = true) (eC : PySem.W.subIn K (.ref C) (.type "BaseException") = some true) (tC : PySem.W.typeIn K (.ref C) = some (.type "type")) (hC : PySem.W.hasDictIn K C = true) (iC : PySem.W.isClsIn K C = true) (sC : PySem.W.subIn K (.ref C) (.ref C) = some true)
    (fl_ : PySem.W.findIn K (.ref C) fl = some none) (nt : PySem.W.kitOne K (.type "NoneType") (.ref C) = some false) (cc : PySem.W.findIn K (.ref C) "__class__" = some (some (.builtin "object.__class__"))) (mo : PySem.W.mroIn K C (.type "object") = some true) (sb : PySem.W.subIn K (.ref C) (.ref CH) = some true) : ErrX K mg CH C x q st fl :=
  have r := err_mk X G aC xL rv sa ga gg i1 t1 fn l1 c1 k1 kC eC tC hC iC sC
  ⟨r.1, r.2, fl_, nt, cc, mo, sb⟩
theorem names_mk {K : PySem.W.Frag} {h : Heap} {mg : Str → Option Value} {u0 : Tok} {u1 : Tok} {u2 : Tok} {u3 : Tok} (X : K.In h) (G : h.Ns mainGlobals mg)
    (n0 : PySem.W.nsIn K mainGlobals "isinstance" = some none) (n1 : PySem.W.nsIn K mainGlobals "int" = some none) (n2 : PySem.W.nsIn K mainGlobals "bool" = some none) (n3 : PySem.W.nsIn K mainGlobals "str" = some none) (n4 : PySem.W.nsIn K mainGlobals "list" = some none) (n5 : PySem.W.nsIn K mainGlobals "tuple" = some none) (n6 : PySem.W.nsIn K mainGlobals "all" = some none) (n7 : PySem.W.nsIn K mainGlobals "len" = some none) (n8 : PySem.W.nsIn K mainGlobals "abs" = some none) (n9 : PySem.W.nsIn K mainGlobals "range" = some none) (n10 : PySem.W.nsIn K mainGlobals "sorted" = some none) (n11 : PySem.W.nsIn K mainGlobals "set" = some none) (n12 : PySem.W.nsIn K mainGlobals "enumerate" = some none) (n13 : PySem.W.nsIn K mainGlobals "max" = some none) (n14 : PySem.W.nsIn K mainGlobals "min" = some none) (n15 : PySem.W.nsIn K mainGlobals "zip" = some none) (n16 : PySem.W.nsIn K mainGlobals "repr" = some none) (g0 : PySem.W.nsIn K mainGlobals "MOST_KIND" = some (some (.int 26 u0))) (g1 : PySem.W.nsIn K mainGlobals "MOST_LETTERS" = some (some (.int 500 u1))) (g2 : PySem.W.nsIn K mainGlobals "MOST_WORDS" = some (some (.int 4 u2))) (g3 : PySem.W.nsIn K mainGlobals "MOST_PLACES" = some (some (.int 24 u3))) : Names mg :=
  ⟨PySem.W.mg_none_of X G n0, PySem.W.mg_none_of X G n1, PySem.W.mg_none_of X G n2, PySem.W.mg_none_of X G n3, PySem.W.mg_none_of X G n4, PySem.W.mg_none_of X G n5, PySem.W.mg_none_of X G n6, PySem.W.mg_none_of X G n7, PySem.W.mg_none_of X G n8, PySem.W.mg_none_of X G n9, PySem.W.mg_none_of X G n10, PySem.W.mg_none_of X G n11, PySem.W.mg_none_of X G n12, PySem.W.mg_none_of X G n13, PySem.W.mg_none_of X G n14, PySem.W.mg_none_of X G n15, PySem.W.mg_none_of X G n16, ⟨_, PySem.W.mg_of X G g0⟩, ⟨_, PySem.W.mg_of X G g1⟩, ⟨_, PySem.W.mg_of X G g2⟩, ⟨_, PySem.W.mg_of X G g3⟩⟩
theorem cls_mkC {K : PySem.W.Frag} {h : Heap} {mg : Str → Option Value} {C : Addr} (X : K.In h) (G : h.Ns mainGlobals mg) (aC : PySem.W.nsIn K mainGlobals "Word" = some (some (.ref C)))
    (pg : PySem.W.plainGet K C Str.empty = true) (hd : PySem.W.hasDictIn K C = true) (po : PySem.W.plainOver K C = true) (sa : PySem.W.findIn K (.ref C) "__setattr__" = some (some (.builtin "object.__setattr__")))
    (n1 : PySem.W.findIn K (.ref C) "letters" = some none) (n2 : PySem.W.findIn K (.ref C) "length" = some none) (n3 : PySem.W.findIn K (.ref C) "kinds" = some none) (n4 : PySem.W.findIn K (.ref C) "is_short" = some none) (n5 : PySem.W.findIn K (.ref C) "is_short_round" = some none)
    (ca : PySem.W.findIn K (.ref C) "__class__" = some (some (.builtin "object.__class__"))) (cm : PySem.W.mroIn K C (.type "object") = some true) (mk : PySem.W.makesIn K C = true) (kc : PySem.W.keepIn K (.ref C) = true)
    (cn : PySem.W.specialIn K (.builtin "object.__class__") "__get__" = some (some (.builtin "getset_descriptor.__get__"))) (ct : PySem.W.takesIn K (.builtin "object.__class__") = some true) : ClsC K mg C :=
  ⟨⟨pg, hd, po, sa⟩, n1, n2, n3, n4, n5, ca, cm, mk, kc, PySem.W.mg_of X G aC, cn, ct⟩
theorem cls_mkCR {K : PySem.W.Frag} {h : Heap} {mg : Str → Option Value} {C : Addr} (X : K.In h) (G : h.Ns mainGlobals mg) (aC : PySem.W.nsIn K mainGlobals "Rims" = some (some (.ref C)))
    (pg : PySem.W.plainGet K C Str.empty = true) (hd : PySem.W.hasDictIn K C = true) (po : PySem.W.plainOver K C = true) (sa : PySem.W.findIn K (.ref C) "__setattr__" = some (some (.builtin "object.__setattr__")))
    (n1 : PySem.W.findIn K (.ref C) "words" = some none) (n2 : PySem.W.findIn K (.ref C) "letters" = some none) (n3 : PySem.W.findIn K (.ref C) "many" = some none) (n4 : PySem.W.findIn K (.ref C) "bands" = some none) (n5 : PySem.W.findIn K (.ref C) "is_short" = some none) (n6 : PySem.W.findIn K (.ref C) "homes" = some none) (n7 : PySem.W.findIn K (.ref C) "nexts" = some none)
    (ca : PySem.W.findIn K (.ref C) "__class__" = some (some (.builtin "object.__class__"))) (cm : PySem.W.mroIn K C (.type "object") = some true) (mk : PySem.W.makesIn K C = true) (kc : PySem.W.keepIn K (.ref C) = true) : ClsCR K mg C :=
  ⟨⟨pg, hd, po, sa⟩, n1, n2, n3, n4, n5, n6, n7, ca, cm, mk, kc, PySem.W.mg_of X G aC⟩
theorem cls_mkCS {K : PySem.W.Frag} {h : Heap} {mg : Str → Option Value} {C : Addr} (X : K.In h) (G : h.Ns mainGlobals mg) (aC : PySem.W.nsIn K mainGlobals "Sewing" = some (some (.ref C)))
    (pg : PySem.W.plainGet K C Str.empty = true) (hd : PySem.W.hasDictIn K C = true) (po : PySem.W.plainOver K C = true) (sa : PySem.W.findIn K (.ref C) "__setattr__" = some (some (.builtin "object.__setattr__")))
    (n1 : PySem.W.findIn K (.ref C) "rims" = some none) (n2 : PySem.W.findIn K (.ref C) "mates" = some none) (n3 : PySem.W.findIn K (.ref C) "corners" = some none) (n4 : PySem.W.findIn K (.ref C) "cost" = some none) (n5 : PySem.W.findIn K (.ref C) "pieces" = some none) (n6 : PySem.W.findIn K (.ref C) "handles" = some none)
    (ca : PySem.W.findIn K (.ref C) "__class__" = some (some (.builtin "object.__class__"))) (cm : PySem.W.mroIn K C (.type "object") = some true) (mk : PySem.W.makesIn K C = true) (kc : PySem.W.keepIn K (.ref C) = true) : ClsCS K mg C :=
  ⟨⟨pg, hd, po, sa⟩, n1, n2, n3, n4, n5, n6, ca, cm, mk, kc, PySem.W.mg_of X G aC⟩
end W17
open PySem PySem.W PyProof.Rows in
set_option maxRecDepth 100000 in
set_option maxHeartbeats 0 in
theorem PySem.Challenge.cw_handlerims_k17_a_letter_and_its_contrary_holds : PySem.Challenge.rw_handlerims_k17_a_letter_and_its_contrary.Holds := by
  w_on; o_law; k_head; (case hw => w_witness2)
  k_fill
  refine RG.walkGT (l := PySem.Challenge.rw_handlerims_k17_a_letter_and_its_contrary) (n := 63) (k := 14) (x := "_law_script") rfl (by decide) rfl ⟨rfl, by decide, by decide⟩ (fun w h Y => PySem.W.km_in_of Y) ?F
  case F =>
    intro w mg fa h Y KX G hmg
    have tabs := PySem.W.km_tabs_of Y
    have hlaw : mg "law" = some (.ref fa) := hmg
    clear hmg
    have hN : W17.Names mg := by
      refine' W17.names_mk KX G ?q_n0 ?q_n1 ?q_n2 ?q_n3 ?q_n4 ?q_n5 ?q_n6 ?q_n7 ?q_n8 ?q_n9 ?q_n10 ?q_n11 ?q_n12 ?q_n13 ?q_n14 ?q_n15 ?q_n16 ?q_g0 ?q_g1 ?q_g2 ?q_g3
      (case q_n0 => k_is)
      (case q_n1 => k_is)
      (case q_n2 => k_is)
      (case q_n3 => k_is)
      (case q_n4 => k_is)
      (case q_n5 => k_is)
      (case q_n6 => k_is)
      (case q_n7 => k_is)
      (case q_n8 => k_is)
      (case q_n9 => k_is)
      (case q_n10 => k_is)
      (case q_n11 => k_is)
      (case q_n12 => k_is)
      (case q_n13 => k_is)
      (case q_n14 => k_is)
      (case q_n15 => k_is)
      (case q_n16 => k_is)
      (case q_g0 => k_is)
      (case q_g1 => k_is)
      (case q_g2 => k_is)
      (case q_g3 => k_is)
    refine' W17.at_mk (P1 := 741) KX G hlaw hN ?q_D ?q_WC ?q_WCR ?q_WCS ?q_XS ?q_neR ?q_neS ?q_EB ?q_EM ?q_EN ?q_EL ?q_ET ?q_mst ?q_aH ?q_h1 ?q_h2 ?q_h3 ?q_kit1 ?q_kit2 ?q_kit3 ?q_kit4 ?q_kit5 ?q_kit6 ?q_kit7 ?q_kit8 ?q_kit9 ?q_kit10 ?q_aM ?q_m0 ?q_m1 ?q_m2 ?q_m3 ?q_m4 ?q_lM ?q_cM (tabs 741 (by decide)) ?q_aD ?q_lD ?q_eD ?q_kD ?q_hD ?q_nD
    case q_WC =>
      refine' W17.cls_mkC KX G ?q_CaC ?q_Cpg ?q_Chd ?q_Cpo ?q_Csa ?q_Cn1 ?q_Cn2 ?q_Cn3 ?q_Cn4 ?q_Cn5 ?q_Cca ?q_Ccm ?q_Cmk ?q_Ckc ?q_Ccn ?q_Cct
      (case q_CaC => first | k_is | kernel_rfl)
      (case q_Cpg => first | k_is | kernel_rfl)
      (case q_Chd => first | k_is | kernel_rfl)
      (case q_Cpo => first | k_is | kernel_rfl)
      (case q_Csa => first | k_is | kernel_rfl)
      (case q_Cn1 => first | k_is | kernel_rfl)
      (case q_Cn2 => first | k_is | kernel_rfl)
      (case q_Cn3 => first | k_is | kernel_rfl)
      (case q_Cn4 => first | k_is | kernel_rfl)
      (case q_Cn5 => first | k_is | kernel_rfl)
      (case q_Cca => first | k_is | kernel_rfl)
      (case q_Ccm => first | k_is | kernel_rfl)
      (case q_Cmk => first | k_is | kernel_rfl)
      (case q_Ckc => first | k_is | kernel_rfl)
      (case q_Ccn => first | k_is | kernel_rfl)
      (case q_Cct => first | k_is | kernel_rfl)
    case q_WCR =>
      refine' W17.cls_mkCR KX G ?q_CRaC ?q_CRpg ?q_CRhd ?q_CRpo ?q_CRsa ?q_CRn1 ?q_CRn2 ?q_CRn3 ?q_CRn4 ?q_CRn5 ?q_CRn6 ?q_CRn7 ?q_CRca ?q_CRcm ?q_CRmk ?q_CRkc
      (case q_CRaC => first | k_is | kernel_rfl)
      (case q_CRpg => first | k_is | kernel_rfl)
      (case q_CRhd => first | k_is | kernel_rfl)
      (case q_CRpo => first | k_is | kernel_rfl)
      (case q_CRsa => first | k_is | kernel_rfl)
      (case q_CRn1 => first | k_is | kernel_rfl)
      (case q_CRn2 => first | k_is | kernel_rfl)
      (case q_CRn3 => first | k_is | kernel_rfl)
      (case q_CRn4 => first | k_is | kernel_rfl)
      (case q_CRn5 => first | k_is | kernel_rfl)
      (case q_CRn6 => first | k_is | kernel_rfl)
      (case q_CRn7 => first | k_is | kernel_rfl)
      (case q_CRca => first | k_is | kernel_rfl)
      (case q_CRcm => first | k_is | kernel_rfl)
      (case q_CRmk => first | k_is | kernel_rfl)
      (case q_CRkc => first | k_is | kernel_rfl)
    case q_WCS =>
      refine' W17.cls_mkCS KX G ?q_CSaC ?q_CSpg ?q_CShd ?q_CSpo ?q_CSsa ?q_CSn1 ?q_CSn2 ?q_CSn3 ?q_CSn4 ?q_CSn5 ?q_CSn6 ?q_CSca ?q_CScm ?q_CSmk ?q_CSkc
      (case q_CSaC => first | k_is | kernel_rfl)
      (case q_CSpg => first | k_is | kernel_rfl)
      (case q_CShd => first | k_is | kernel_rfl)
      (case q_CSpo => first | k_is | kernel_rfl)
      (case q_CSsa => first | k_is | kernel_rfl)
      (case q_CSn1 => first | k_is | kernel_rfl)
      (case q_CSn2 => first | k_is | kernel_rfl)
      (case q_CSn3 => first | k_is | kernel_rfl)
      (case q_CSn4 => first | k_is | kernel_rfl)
      (case q_CSn5 => first | k_is | kernel_rfl)
      (case q_CSn6 => first | k_is | kernel_rfl)
      (case q_CSca => first | k_is | kernel_rfl)
      (case q_CScm => first | k_is | kernel_rfl)
      (case q_CSmk => first | k_is | kernel_rfl)
      (case q_CSkc => first | k_is | kernel_rfl)
    case q_D =>
      refine' { d_sIsInt := W17.ff_mk KX G ?q_a0 ?q_l0 ?q_c0 ?q_k0, d_sWithin := W17.ff_mk KX G ?q_a1 ?q_l1 ?q_c1 ?q_k1, d_sLetter := W17.ff_mk KX G ?q_a2 ?q_l2 ?q_c2 ?q_k2, d_sListed := W17.ff_mk KX G ?q_a3 ?q_l3 ?q_c3 ?q_k3, d_sAreI := W17.ff_mk KX G ?q_a4 ?q_l4 ?q_c4 ?q_k4, d_sShr := W17.ff_mk KX G ?q_a5 ?q_l5 ?q_c5 ?q_k5, d_sRnd := W17.ff_mk KX G ?q_a6 ?q_l6 ?q_c6 ?q_k6, d_sKinds := W17.ff_mk KX G ?q_a7 ?q_l7 ?q_c7 ?q_k7, d_sBalOf := W17.ff_mk KX G ?q_a8 ?q_l8 ?q_c8 ?q_k8, d_sPaired := W17.ff_mk KX G ?q_a9 ?q_l9 ?q_c9 ?q_k9, d_sJoined := W17.ff_mk KX G ?q_a10 ?q_l10 ?q_c10 ?q_k10, d_sFilled := W17.ff_mk KX G ?q_a11 ?q_l11 ?q_c11 ?q_k11, d_sFew := W17.ff_mk KX G ?q_a12 ?q_l12 ?q_c12 ?q_k12, d_sNeedB := W17.ff_mk KX G ?q_a13 ?q_l13 ?q_c13 ?q_k13, d_sNeedR := W17.ff_mk KX G ?q_a14 ?q_l14 ?q_c14 ?q_k14, d_sFewP := W17.ff_mk KX G ?q_a15 ?q_l15 ?q_c15 ?q_k15, d_sNexts := W17.ff_mk KX G ?q_a16 ?q_l16 ?q_c16 ?q_k16, d_sAreM := W17.ff_mk KX G ?q_a17 ?q_l17 ?q_c17 ?q_k17, d_sCorn := W17.ff_mk KX G ?q_a18 ?q_l18 ?q_c18 ?q_k18, d_sPieces := W17.ff_mk KX G ?q_a19 ?q_l19 ?q_c19 ?q_k19, d_sNeedS := W17.ff_mk KX G ?q_a20 ?q_l20 ?q_c20 ?q_k20, d_sNeedPX := W17.ff_mk KX G ?q_a21 ?q_l21 ?q_c21 ?q_k21, d_sNeedL := W17.ff_mk KX G ?q_a22 ?q_l22 ?q_c22 ?q_k22, d_sMam := W17.ff_mk KX G ?q_a23 ?q_l23 ?q_c23 ?q_k23, d_sRF := W17.ff_mk KX G ?q_a24 ?q_l24 ?q_c24 ?q_k24, d_sWP := W17.ff_mk KX G ?q_a25 ?q_l25 ?q_c25 ?q_k25, d_sWO := W17.ff_mk KX G ?q_a26 ?q_l26 ?q_c26 ?q_k26, d_sJar := W17.ff_mk KX G ?q_a27 ?q_l27 ?q_c27 ?q_k27, d_sDraw := W17.ff_mk KX G ?q_a28 ?q_l28 ?q_c28 ?q_k28, d_sPick := W17.ff_mk KX G ?q_a29 ?q_l29 ?q_c29 ?q_k29, d_sMixed := W17.ff_mk KX G ?q_a30 ?q_l30 ?q_c30 ?q_k30, d_sCut := W17.ff_mk KX G ?q_a31 ?q_l31 ?q_c31 ?q_k31, d_sPlain := W17.ff_mk KX G ?q_a32 ?q_l32 ?q_c32 ?q_k32, d_sLRims := W17.ff_mk KX G ?q_a33 ?q_l33 ?q_c33 ?q_k33, d_sNx := W17.ff_mk KX G ?q_a34 ?q_l34 ?q_c34 ?q_k34, d_sCorL := W17.ff_mk KX G ?q_a35 ?q_l35 ?q_c35 ?q_k35, d_sLets := W17.ff_mk KX G ?q_a36 ?q_l36 ?q_c36 ?q_k36, d_sMates := W17.ff_mk KX G ?q_a37 ?q_l37 ?q_c37 ?q_k37, d_sFault := W17.ff_mk KX G ?q_a38 ?q_l38 ?q_c38 ?q_k38, d_sSpots := W17.ff_mk KX G ?q_a39 ?q_l39 ?q_c39 ?q_k39, d_sPut := W17.ff_mk KX G ?q_a40 ?q_l40 ?q_c40 ?q_k40, d_sTaken := W17.ff_mk KX G ?q_a41 ?q_l41 ?q_c41 ?q_k41, d_sNear := W17.ff_mk KX G ?q_a42 ?q_l42 ?q_c42 ?q_k42, d_sIs := W17.ff_mk KX G ?q_a43 ?q_l43 ?q_c43 ?q_k43, d_sPutR := W17.ff_mk KX G ?q_a44 ?q_l44 ?q_c44 ?q_k44, d_sTakR := W17.ff_mk KX G ?q_a45 ?q_l45 ?q_c45 ?q_k45, d_sLaw := W17.ff_mk KX G ?q_a46 ?q_l46 ?q_c46 ?q_k46, m_sInit := W17.fm_mk ?q_ma0 ?q_mi0 ?q_ml0 ?q_mc0 ?q_mk0, m_sEq := W17.fm_mk ?q_ma1 ?q_mi1 ?q_ml1 ?q_mc1 ?q_mk1, m_sInitR := W17.fm_mk ?q_ma2 ?q_mi2 ?q_ml2 ?q_mc2 ?q_mk2, m_sEqR := W17.fm_mk ?q_ma3 ?q_mi3 ?q_ml3 ?q_mc3 ?q_mk3, m_sInitS := W17.fm_mk ?q_ma4 ?q_mi4 ?q_ml4 ?q_mc4 ?q_mk4, m_sEqSx := W17.fm_mk ?q_ma5 ?q_mi5 ?q_ml5 ?q_mc5 ?q_mk5 }
      (case q_a0 => k_is); (case q_l0 => k_is); (case q_c0 => k_is); (case q_k0 => k_is)
      (case q_a1 => k_is); (case q_l1 => k_is); (case q_c1 => k_is); (case q_k1 => k_is)
      (case q_a2 => k_is); (case q_l2 => k_is); (case q_c2 => k_is); (case q_k2 => k_is)
      (case q_a3 => k_is); (case q_l3 => k_is); (case q_c3 => k_is); (case q_k3 => k_is)
      (case q_a4 => k_is); (case q_l4 => k_is); (case q_c4 => k_is); (case q_k4 => k_is)
      (case q_a5 => k_is); (case q_l5 => k_is); (case q_c5 => k_is); (case q_k5 => k_is)
      (case q_a6 => k_is); (case q_l6 => k_is); (case q_c6 => k_is); (case q_k6 => k_is)
      (case q_a7 => k_is); (case q_l7 => k_is); (case q_c7 => k_is); (case q_k7 => k_is)
      (case q_a8 => k_is); (case q_l8 => k_is); (case q_c8 => k_is); (case q_k8 => k_is)
      (case q_a9 => k_is); (case q_l9 => k_is); (case q_c9 => k_is); (case q_k9 => k_is)
      (case q_a10 => k_is); (case q_l10 => k_is); (case q_c10 => k_is); (case q_k10 => k_is)
      (case q_a11 => k_is); (case q_l11 => k_is); (case q_c11 => k_is); (case q_k11 => k_is)
      (case q_a12 => k_is); (case q_l12 => k_is); (case q_c12 => k_is); (case q_k12 => k_is)
      (case q_a13 => k_is); (case q_l13 => k_is); (case q_c13 => k_is); (case q_k13 => k_is)
      (case q_a14 => k_is); (case q_l14 => k_is); (case q_c14 => k_is); (case q_k14 => k_is)
      (case q_a15 => k_is); (case q_l15 => k_is); (case q_c15 => k_is); (case q_k15 => k_is)
      (case q_a16 => k_is); (case q_l16 => k_is); (case q_c16 => k_is); (case q_k16 => k_is)
      (case q_a17 => k_is); (case q_l17 => k_is); (case q_c17 => k_is); (case q_k17 => k_is)
      (case q_a18 => k_is); (case q_l18 => k_is); (case q_c18 => k_is); (case q_k18 => k_is)
      (case q_a19 => k_is); (case q_l19 => k_is); (case q_c19 => k_is); (case q_k19 => k_is)
      (case q_a20 => k_is); (case q_l20 => k_is); (case q_c20 => k_is); (case q_k20 => k_is)
      (case q_a21 => k_is); (case q_l21 => k_is); (case q_c21 => k_is); (case q_k21 => k_is)
      (case q_a22 => k_is); (case q_l22 => k_is); (case q_c22 => k_is); (case q_k22 => k_is)
      (case q_a23 => k_is); (case q_l23 => k_is); (case q_c23 => k_is); (case q_k23 => k_is)
      (case q_a24 => k_is); (case q_l24 => k_is); (case q_c24 => k_is); (case q_k24 => k_is)
      (case q_a25 => k_is); (case q_l25 => k_is); (case q_c25 => k_is); (case q_k25 => k_is)
      (case q_a26 => k_is); (case q_l26 => k_is); (case q_c26 => k_is); (case q_k26 => k_is)
      (case q_a27 => k_is); (case q_l27 => k_is); (case q_c27 => k_is); (case q_k27 => k_is)
      (case q_a28 => k_is); (case q_l28 => k_is); (case q_c28 => k_is); (case q_k28 => k_is)
      (case q_a29 => k_is); (case q_l29 => k_is); (case q_c29 => k_is); (case q_k29 => k_is)
      (case q_a30 => k_is); (case q_l30 => k_is); (case q_c30 => k_is); (case q_k30 => k_is)
      (case q_a31 => k_is); (case q_l31 => k_is); (case q_c31 => k_is); (case q_k31 => k_is)
      (case q_a32 => k_is); (case q_l32 => k_is); (case q_c32 => k_is); (case q_k32 => k_is)
      (case q_a33 => k_is); (case q_l33 => k_is); (case q_c33 => k_is); (case q_k33 => k_is)
      (case q_a34 => k_is); (case q_l34 => k_is); (case q_c34 => k_is); (case q_k34 => k_is)
      (case q_a35 => k_is); (case q_l35 => k_is); (case q_c35 => k_is); (case q_k35 => k_is)
      (case q_a36 => k_is); (case q_l36 => k_is); (case q_c36 => k_is); (case q_k36 => k_is)
      (case q_a37 => k_is); (case q_l37 => k_is); (case q_c37 => k_is); (case q_k37 => k_is)
      (case q_a38 => k_is); (case q_l38 => k_is); (case q_c38 => k_is); (case q_k38 => k_is)
      (case q_a39 => k_is); (case q_l39 => k_is); (case q_c39 => k_is); (case q_k39 => k_is)
      (case q_a40 => k_is); (case q_l40 => k_is); (case q_c40 => k_is); (case q_k40 => k_is)
      (case q_a41 => k_is); (case q_l41 => k_is); (case q_c41 => k_is); (case q_k41 => k_is)
      (case q_a42 => k_is); (case q_l42 => k_is); (case q_c42 => k_is); (case q_k42 => k_is)
      (case q_a43 => k_is); (case q_l43 => k_is); (case q_c43 => k_is); (case q_k43 => k_is)
      (case q_a44 => k_is); (case q_l44 => k_is); (case q_c44 => k_is); (case q_k44 => k_is)
      (case q_a45 => k_is); (case q_l45 => k_is); (case q_c45 => k_is); (case q_k45 => k_is)
      (case q_a46 => k_is); (case q_l46 => k_is); (case q_c46 => k_is); (case q_k46 => k_is)
      (case q_ma0 => k_is); (case q_mi0 => k_is); (case q_ml0 => k_is); (case q_mc0 => k_is); (case q_mk0 => k_is)
      (case q_ma1 => k_is); (case q_mi1 => k_is); (case q_ml1 => k_is); (case q_mc1 => k_is); (case q_mk1 => k_is)
      (case q_ma2 => k_is); (case q_mi2 => k_is); (case q_ml2 => k_is); (case q_mc2 => k_is); (case q_mk2 => k_is)
      (case q_ma3 => k_is); (case q_mi3 => k_is); (case q_ml3 => k_is); (case q_mc3 => k_is); (case q_mk3 => k_is)
      (case q_ma4 => k_is); (case q_mi4 => k_is); (case q_ml4 => k_is); (case q_mc4 => k_is); (case q_mk4 => k_is)
      (case q_ma5 => k_is); (case q_mi5 => k_is); (case q_ml5 => k_is); (case q_mc5 => k_is); (case q_mk5 => k_is)
    (case q_neR => first | k_is | kernel_rfl | rfl)
    (case q_neS => first | k_is | kernel_rfl | rfl)
    (case q_mst => first | k_is | kernel_rfl | rfl)
    case q_XS =>
      refine' ⟨?q_x0, ?q_x1, ?q_x2, ?q_x3, ?q_x4, ?q_x5, ?q_x6⟩
      (case q_x0 => first | k_is | kernel_rfl | rfl)
      (case q_x1 => first | k_is | kernel_rfl | rfl)
      (case q_x2 => first | k_is | kernel_rfl | rfl)
      (case q_x3 => first | k_is | kernel_rfl | rfl)
      (case q_x4 => first | k_is | kernel_rfl | rfl)
      (case q_x5 => first | k_is | kernel_rfl | rfl)
      (case q_x6 => first | k_is | kernel_rfl | rfl)
    (case q_aH => k_is); (case q_h1 => k_is); (case q_h2 => k_is); (case q_h3 => k_is)
    case q_EB =>
      refine' W17.errx_mk KX G ?q_BaC ?q_BxL ?q_Brv ?q_Bsa ?q_Bga ?q_Bgg ?q_Bi1 ?q_Bt1 ?q_Bfn ?q_Bl1 ?q_Bc1 ?q_Bk1 ?q_BkC ?q_BeC ?q_BtC ?q_BhC ?q_BiC ?q_BsC ?q_Bfl ?q_Bnt ?q_Bcc ?q_Bmo ?q_Bsb
      (case q_BaC => first | k_is | decide +kernel | kernel_rfl | rfl)
      (case q_BxL => first | k_is | decide +kernel | kernel_rfl | rfl)
      (case q_Brv => first | k_is | decide +kernel | kernel_rfl | rfl)
      (case q_Bsa => first | k_is | decide +kernel | kernel_rfl | rfl)
      (case q_Bga => first | k_is | decide +kernel | kernel_rfl | rfl)
      (case q_Bgg => first | k_is | decide +kernel | kernel_rfl | rfl)
      (case q_Bi1 => first | k_is | decide +kernel | kernel_rfl | rfl)
      (case q_Bt1 => first | k_is | decide +kernel | kernel_rfl | rfl)
      (case q_Bfn => first | k_is | decide +kernel | kernel_rfl | rfl)
      (case q_Bl1 => first | k_is | decide +kernel | kernel_rfl | rfl)
      (case q_Bc1 => first | k_is | decide +kernel | kernel_rfl | rfl)
      (case q_Bk1 => first | k_is | decide +kernel | kernel_rfl | rfl)
      (case q_BkC => first | k_is | decide +kernel | kernel_rfl | rfl)
      (case q_BeC => first | k_is | decide +kernel | kernel_rfl | rfl)
      (case q_BtC => first | k_is | decide +kernel | kernel_rfl | rfl)
      (case q_BhC => first | k_is | decide +kernel | kernel_rfl | rfl)
      (case q_BiC => first | k_is | decide +kernel | kernel_rfl | rfl)
      (case q_BsC => first | k_is | decide +kernel | kernel_rfl | rfl)
      (case q_Bfl => first | k_is | decide +kernel | kernel_rfl | rfl)
      (case q_Bnt => first | k_is | decide +kernel | kernel_rfl | rfl)
      (case q_Bcc => first | k_is | decide +kernel | kernel_rfl | rfl)
      (case q_Bmo => first | k_is | decide +kernel | kernel_rfl | rfl)
      (case q_Bsb => first | k_is | kernel_rfl | rfl)
    case q_EM =>
      refine' W17.errx_mk KX G ?q_MaC ?q_MxL ?q_Mrv ?q_Msa ?q_Mga ?q_Mgg ?q_Mi1 ?q_Mt1 ?q_Mfn ?q_Ml1 ?q_Mc1 ?q_Mk1 ?q_MkC ?q_MeC ?q_MtC ?q_MhC ?q_MiC ?q_MsC ?q_Mfl ?q_Mnt ?q_Mcc ?q_Mmo ?q_Msb
      (case q_MaC => first | k_is | decide +kernel | kernel_rfl | rfl)
      (case q_MxL => first | k_is | decide +kernel | kernel_rfl | rfl)
      (case q_Mrv => first | k_is | decide +kernel | kernel_rfl | rfl)
      (case q_Msa => first | k_is | decide +kernel | kernel_rfl | rfl)
      (case q_Mga => first | k_is | decide +kernel | kernel_rfl | rfl)
      (case q_Mgg => first | k_is | decide +kernel | kernel_rfl | rfl)
      (case q_Mi1 => first | k_is | decide +kernel | kernel_rfl | rfl)
      (case q_Mt1 => first | k_is | decide +kernel | kernel_rfl | rfl)
      (case q_Mfn => first | k_is | decide +kernel | kernel_rfl | rfl)
      (case q_Ml1 => first | k_is | decide +kernel | kernel_rfl | rfl)
      (case q_Mc1 => first | k_is | decide +kernel | kernel_rfl | rfl)
      (case q_Mk1 => first | k_is | decide +kernel | kernel_rfl | rfl)
      (case q_MkC => first | k_is | decide +kernel | kernel_rfl | rfl)
      (case q_MeC => first | k_is | decide +kernel | kernel_rfl | rfl)
      (case q_MtC => first | k_is | decide +kernel | kernel_rfl | rfl)
      (case q_MhC => first | k_is | decide +kernel | kernel_rfl | rfl)
      (case q_MiC => first | k_is | decide +kernel | kernel_rfl | rfl)
      (case q_MsC => first | k_is | decide +kernel | kernel_rfl | rfl)
      (case q_Mfl => first | k_is | decide +kernel | kernel_rfl | rfl)
      (case q_Mnt => first | k_is | decide +kernel | kernel_rfl | rfl)
      (case q_Mcc => first | k_is | decide +kernel | kernel_rfl | rfl)
      (case q_Mmo => first | k_is | decide +kernel | kernel_rfl | rfl)
      (case q_Msb => first | k_is | kernel_rfl | rfl)
    case q_EN =>
      refine' W17.errx_mk KX G ?q_NaC ?q_NxL ?q_Nrv ?q_Nsa ?q_Nga ?q_Ngg ?q_Ni1 ?q_Nt1 ?q_Nfn ?q_Nl1 ?q_Nc1 ?q_Nk1 ?q_NkC ?q_NeC ?q_NtC ?q_NhC ?q_NiC ?q_NsC ?q_Nfl ?q_Nnt ?q_Ncc ?q_Nmo ?q_Nsb
      (case q_NaC => first | k_is | decide +kernel | kernel_rfl | rfl)
      (case q_NxL => first | k_is | decide +kernel | kernel_rfl | rfl)
      (case q_Nrv => first | k_is | decide +kernel | kernel_rfl | rfl)
      (case q_Nsa => first | k_is | decide +kernel | kernel_rfl | rfl)
      (case q_Nga => first | k_is | decide +kernel | kernel_rfl | rfl)
      (case q_Ngg => first | k_is | decide +kernel | kernel_rfl | rfl)
      (case q_Ni1 => first | k_is | decide +kernel | kernel_rfl | rfl)
      (case q_Nt1 => first | k_is | decide +kernel | kernel_rfl | rfl)
      (case q_Nfn => first | k_is | decide +kernel | kernel_rfl | rfl)
      (case q_Nl1 => first | k_is | decide +kernel | kernel_rfl | rfl)
      (case q_Nc1 => first | k_is | decide +kernel | kernel_rfl | rfl)
      (case q_Nk1 => first | k_is | decide +kernel | kernel_rfl | rfl)
      (case q_NkC => first | k_is | decide +kernel | kernel_rfl | rfl)
      (case q_NeC => first | k_is | decide +kernel | kernel_rfl | rfl)
      (case q_NtC => first | k_is | decide +kernel | kernel_rfl | rfl)
      (case q_NhC => first | k_is | decide +kernel | kernel_rfl | rfl)
      (case q_NiC => first | k_is | decide +kernel | kernel_rfl | rfl)
      (case q_NsC => first | k_is | decide +kernel | kernel_rfl | rfl)
      (case q_Nfl => first | k_is | decide +kernel | kernel_rfl | rfl)
      (case q_Nnt => first | k_is | decide +kernel | kernel_rfl | rfl)
      (case q_Ncc => first | k_is | decide +kernel | kernel_rfl | rfl)
      (case q_Nmo => first | k_is | decide +kernel | kernel_rfl | rfl)
      (case q_Nsb => first | k_is | kernel_rfl | rfl)
    case q_EL =>
      refine' W17.errx_mk KX G ?q_LaC ?q_LxL ?q_Lrv ?q_Lsa ?q_Lga ?q_Lgg ?q_Li1 ?q_Lt1 ?q_Lfn ?q_Ll1 ?q_Lc1 ?q_Lk1 ?q_LkC ?q_LeC ?q_LtC ?q_LhC ?q_LiC ?q_LsC ?q_Lfl ?q_Lnt ?q_Lcc ?q_Lmo ?q_Lsb
      (case q_LaC => first | k_is | decide +kernel | kernel_rfl | rfl)
      (case q_LxL => first | k_is | decide +kernel | kernel_rfl | rfl)
      (case q_Lrv => first | k_is | decide +kernel | kernel_rfl | rfl)
      (case q_Lsa => first | k_is | decide +kernel | kernel_rfl | rfl)
      (case q_Lga => first | k_is | decide +kernel | kernel_rfl | rfl)
      (case q_Lgg => first | k_is | decide +kernel | kernel_rfl | rfl)
      (case q_Li1 => first | k_is | decide +kernel | kernel_rfl | rfl)
      (case q_Lt1 => first | k_is | decide +kernel | kernel_rfl | rfl)
      (case q_Lfn => first | k_is | decide +kernel | kernel_rfl | rfl)
      (case q_Ll1 => first | k_is | decide +kernel | kernel_rfl | rfl)
      (case q_Lc1 => first | k_is | decide +kernel | kernel_rfl | rfl)
      (case q_Lk1 => first | k_is | decide +kernel | kernel_rfl | rfl)
      (case q_LkC => first | k_is | decide +kernel | kernel_rfl | rfl)
      (case q_LeC => first | k_is | decide +kernel | kernel_rfl | rfl)
      (case q_LtC => first | k_is | decide +kernel | kernel_rfl | rfl)
      (case q_LhC => first | k_is | decide +kernel | kernel_rfl | rfl)
      (case q_LiC => first | k_is | decide +kernel | kernel_rfl | rfl)
      (case q_LsC => first | k_is | decide +kernel | kernel_rfl | rfl)
      (case q_Lfl => first | k_is | decide +kernel | kernel_rfl | rfl)
      (case q_Lnt => first | k_is | decide +kernel | kernel_rfl | rfl)
      (case q_Lcc => first | k_is | decide +kernel | kernel_rfl | rfl)
      (case q_Lmo => first | k_is | decide +kernel | kernel_rfl | rfl)
      (case q_Lsb => first | k_is | kernel_rfl | rfl)
    case q_ET =>
      refine' W17.errx_mk KX G ?q_TaC ?q_TxL ?q_Trv ?q_Tsa ?q_Tga ?q_Tgg ?q_Ti1 ?q_Tt1 ?q_Tfn ?q_Tl1 ?q_Tc1 ?q_Tk1 ?q_TkC ?q_TeC ?q_TtC ?q_ThC ?q_TiC ?q_TsC ?q_Tfl ?q_Tnt ?q_Tcc ?q_Tmo ?q_Tsb
      (case q_TaC => first | k_is | decide +kernel | kernel_rfl | rfl)
      (case q_TxL => first | k_is | decide +kernel | kernel_rfl | rfl)
      (case q_Trv => first | k_is | decide +kernel | kernel_rfl | rfl)
      (case q_Tsa => first | k_is | decide +kernel | kernel_rfl | rfl)
      (case q_Tga => first | k_is | decide +kernel | kernel_rfl | rfl)
      (case q_Tgg => first | k_is | decide +kernel | kernel_rfl | rfl)
      (case q_Ti1 => first | k_is | decide +kernel | kernel_rfl | rfl)
      (case q_Tt1 => first | k_is | decide +kernel | kernel_rfl | rfl)
      (case q_Tfn => first | k_is | decide +kernel | kernel_rfl | rfl)
      (case q_Tl1 => first | k_is | decide +kernel | kernel_rfl | rfl)
      (case q_Tc1 => first | k_is | decide +kernel | kernel_rfl | rfl)
      (case q_Tk1 => first | k_is | decide +kernel | kernel_rfl | rfl)
      (case q_TkC => first | k_is | decide +kernel | kernel_rfl | rfl)
      (case q_TeC => first | k_is | decide +kernel | kernel_rfl | rfl)
      (case q_TtC => first | k_is | decide +kernel | kernel_rfl | rfl)
      (case q_ThC => first | k_is | decide +kernel | kernel_rfl | rfl)
      (case q_TiC => first | k_is | decide +kernel | kernel_rfl | rfl)
      (case q_TsC => first | k_is | decide +kernel | kernel_rfl | rfl)
      (case q_Tfl => first | k_is | decide +kernel | kernel_rfl | rfl)
      (case q_Tnt => first | k_is | decide +kernel | kernel_rfl | rfl)
      (case q_Tcc => first | k_is | decide +kernel | kernel_rfl | rfl)
      (case q_Tmo => first | k_is | decide +kernel | kernel_rfl | rfl)
      (case q_Tsb => first | k_is | kernel_rfl | rfl)
    (case q_kit1 => first | k_is | kernel_rfl | rfl)
    (case q_kit2 => first | k_is | kernel_rfl | rfl)
    (case q_kit3 => first | k_is | kernel_rfl | rfl)
    (case q_kit4 => first | k_is | kernel_rfl | rfl)
    (case q_kit5 => first | k_is | kernel_rfl | rfl)
    (case q_kit6 => first | k_is | kernel_rfl | rfl)
    (case q_kit7 => first | k_is | kernel_rfl | rfl)
    (case q_kit8 => first | k_is | kernel_rfl | rfl)
    (case q_kit9 => first | k_is | kernel_rfl | rfl)
    (case q_kit10 => first | k_is | kernel_rfl | rfl)
    (case q_aM => k_is); (case q_m0 => k_is); (case q_m2 => k_is); (case q_m1 => first | k_is | kernel_rfl | rfl); (case q_m3 => first | k_is | kernel_rfl | rfl); (case q_m4 => k_is); (case q_lM => k_is); (case q_cM => k_is)
    (case q_aD => k_is); (case q_lD => k_is); (case q_eD => k_is); (case q_kD => k_is); (case q_hD => first | kernel_rfl | with_unfolding_all rfl); (case q_nD => first | rfl | k_is)
